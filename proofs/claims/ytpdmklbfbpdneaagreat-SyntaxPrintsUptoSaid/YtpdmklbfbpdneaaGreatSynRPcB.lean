/- The walks of the reference's pieces at the kinds 3, 4, 8, 22, 17, 16, 18. Conditions: at most 1000 nodes, few tokens. -/
import Derived.Test.YtpdmklbfbpdneaaGreatSynRRow
import Derived.IntWalk
namespace Go.Proofs.YtpdmklbfbpdneaaGreat
open Go.RowKit
set_option maxRecDepth 100000 in
set_option maxHeartbeats 4000000 in
theorem rpieces_3 {N : Nat} (ih : PcC N) (B : Nat) (l : Value) (ps : List Piece) (x : ByteArray) (ls : List ByteArray) (a : Tr) (vla vka : Option Addr) (vlc vkc : Nat) (w : World) (hN : SizeOf.sizeOf (Tr.mk 3 x ls [a]) ≤ N + 1) (ht : TrAt (fun k => k < B) w (Tr.mk 3 x ls [a]) ⟨3, x, vla, ls.length, vlc, vka, 1, vkc⟩)
    (hsa : shapedT a = true) (hz : sizeT (Tr.mk 3 x ls [a]) ≤ 1000) (hl : PRow w B l ps) (hB : B ≤ w.heap.size) (hb : ps.length + (pieces (Tr.mk 3 x ls [a])).length ≤ 1000000) :
    Calls Tryz.prog 111 #[l, .agg #[.int .i64 3, .string x, .slice vla ls.length vlc, .slice vka 1 vkc]] w (PcPost B ps (pieces (Tr.mk 3 x ls [a])) l w) := by
  obtain ⟨xb, xo, hka⟩ : ∃ b off, vka = some ⟨b, off, none⟩ := ht.addr.resolve_left (by show (1 : Nat) ≠ 0; decide)
  subst hka
  have HIH := Lib.hid ih
  have HBD := Lib.hid hb
  have HEQ := Lib.hid (pieces_3 x ls a)
  have HNa := Lib.hid (show SizeOf.sizeOf a ≤ N from by have := kid_sizeOf (t := Tr.mk 3 x ls [a]) (j := 0) (k := a) rfl; omega)
  have HZa := Lib.hid (show sizeT a ≤ 1000 from by have := size_kid (t := Tr.mk 3 x ls [a]) (j := 0) (k := a) rfl; omega)
  have HSHa := Lib.hid hsa
  have HXB := Lib.hid (show xb < B from by obtain ⟨_, b1, o1, hA, hS, _⟩ := ht.kid (j := 0) (k := a) rfl; injection hA with e1; injection e1 with e1 _ _; rw [e1]; exact hS)
  have HST := Lib.hid (PSt.start hl ht hB)
  obtain ⟨ip, hip, pz0, pz1, pz2⟩ := info_parts piece_info
  clear ih hN ht hz hl hB hb hsa
  go_enter Tryz.func111, Tryz.ntmps111
  go_wp2_with fail
  generalize hW0 : w.alloc (.cells #[.int .i64 3, .string x, .slice vla ls.length vlc, .slice (some ⟨xb, xo, none⟩) 1 vkc] 25) = W0 at ⊢
  have HS0 := Lib.hid (show PSt B l w (Tr.mk 3 x ls [a]) ⟨3, x, vla, ls.length, vlc, some ⟨xb, xo, none⟩, 1, vkc⟩ l ps W0 from hW0 ▸ HST.out)
  clear HST hW0
  have k0 : W0.cell? ⟨w.heap.size, 0, none⟩ = some (.int .i64 3) := HS0.out.cells.1
  have k1 : W0.cell? ⟨w.heap.size, 1, none⟩ = some (.string x) := HS0.out.cells.2.1
  have k2 : W0.cell? ⟨w.heap.size, 2, none⟩ = some (.slice vla ls.length vlc) := HS0.out.cells.2.2.1
  have k3 : W0.cell? ⟨w.heap.size, 3, none⟩ = some (.slice (some ⟨xb, xo, none⟩) 1 vkc) := HS0.out.cells.2.2.2
  obtain ⟨n1, hn1⟩ : ∃ n, (ps).length = n := ⟨_, rfl⟩
  have HQ1 := Lib.hid hn1
  clear hn1
  have HM1 := Lib.hid (show n1 + (3 + (pieces a).length) ≤ 1000000 from by have h := HBD.out; rw [← HQ1.out]; rw [HEQ.out] at h; (try simp only [List.length_append, List.length_cons, List.length_nil] at h ⊢); omega)
  have HL1 := Lib.hid (show (ps).length + (3 + (pieces a).length) ≤ 1000000 from by have h := HBD.out; rw [HEQ.out] at h; (try simp only [List.length_append, List.length_cons, List.length_nil] at h ⊢); omega)
  go_region_held3 (fun w' => w'.cell? ⟨w.heap.size, 0, none⟩ = some (.int .i64 3) ∧ w'.cell? ⟨w.heap.size, 1, none⟩ = some (.string x) ∧ w'.cell? ⟨w.heap.size, 2, none⟩ = some (.slice vla ls.length vlc) ∧ w'.cell? ⟨w.heap.size, 3, none⟩ = some (.slice (some ⟨xb, xo, none⟩) 1 vkc)) (first | with_reducible exact ⟨k0, k1, k2, k3⟩ | go_keep) (first
    | (go_at_call 144; ((with_reducible refine (rlead_int _ (Tr.mk 3 x ls [a]) ⟨3, x, vla, ls.length, vlc, some ⟨xb, xo, none⟩, 1, vkc⟩ 0 0 rfl _ HS0.out.drew.tree (by decide)).mono ?_); rintro e w1 ⟨rfl, hb⟩; have HS1 := Lib.hid (HS0.out.drew.below hb); clear k0 k1 k2 k3; have k0 : w1.cell? ⟨w.heap.size, 0, none⟩ = some (.int .i64 3) := HS1.out.cells.1; have k1 : w1.cell? ⟨w.heap.size, 1, none⟩ = some (.string x) := HS1.out.cells.2.1; have k2 : w1.cell? ⟨w.heap.size, 2, none⟩ = some (.slice vla ls.length vlc) := HS1.out.cells.2.2.1; have k3 : w1.cell? ⟨w.heap.size, 3, none⟩ = some (.slice (some ⟨xb, xo, none⟩) 1 vkc) := HS1.out.cells.2.2.2; clear hb))
    | (go_at_call 144; ((with_reducible refine (rlead_int _ (Tr.mk 3 x ls [a]) ⟨3, x, vla, ls.length, vlc, some ⟨xb, xo, none⟩, 1, vkc⟩ 1 1 rfl _ HS1.out.tree (by decide)).mono ?_); rintro e w2 ⟨rfl, hb⟩; have HS2 := Lib.hid (HS1.out.below hb); clear k0 k1 k2 k3; have k0 : w2.cell? ⟨w.heap.size, 0, none⟩ = some (.int .i64 3) := HS2.out.cells.1; have k1 : w2.cell? ⟨w.heap.size, 1, none⟩ = some (.string x) := HS2.out.cells.2.1; have k2 : w2.cell? ⟨w.heap.size, 2, none⟩ = some (.slice vla ls.length vlc) := HS2.out.cells.2.2.1; have k3 : w2.cell? ⟨w.heap.size, 3, none⟩ = some (.slice (some ⟨xb, xo, none⟩) 1 vkc) := HS2.out.cells.2.2.2; clear hb))
    | (go_at_call 144; ((with_reducible refine (rlead_int _ (Tr.mk 3 x ls [a]) ⟨3, x, vla, ls.length, vlc, some ⟨xb, xo, none⟩, 1, vkc⟩ 2 2 rfl _ HS2.out.tree (by decide)).mono ?_); rintro e w3 ⟨rfl, hb⟩; have HS3 := Lib.hid (HS2.out.below hb); clear k0 k1 k2 k3; have k0 : w3.cell? ⟨w.heap.size, 0, none⟩ = some (.int .i64 3) := HS3.out.cells.1; have k1 : w3.cell? ⟨w.heap.size, 1, none⟩ = some (.string x) := HS3.out.cells.2.1; have k2 : w3.cell? ⟨w.heap.size, 2, none⟩ = some (.slice vla ls.length vlc) := HS3.out.cells.2.2.1; have k3 : w3.cell? ⟨w.heap.size, 3, none⟩ = some (.slice (some ⟨xb, xo, none⟩) 1 vkc) := HS3.out.cells.2.2.2; clear hb))
    | (refine step_append_lies _ (by rfl) _ _ _ (by rfl) B 91 ip _ 2 32 Tryz.underlying88 hip pz0 pz1 pz2 rfl (by decide) _ n1 (pcCells (ps)) (by rfl) ((HS3.out.alloc _).rowN HQ1.out) ⟨w3.heap.size, 0, none⟩ 3 3 (pcCells [(ldR ls 0, (⟨#[116, 121, 112, 101]⟩ : ByteArray)), (ldR ls 1, (x : ByteArray)), (ldR ls 2, (⟨#[61]⟩ : ByteArray))]) (by rfl) (by rfl) (World.news_of_block (cs := #[.string (ldR ls 0), .string ⟨#[116, 121, 112, 101]⟩, .string (ldR ls 1), .string x, .string (ldR ls 2), .string ⟨#[61]⟩]) (t := 91) (fr := (0, 0)) (heap_alloc_new w3 _)) (pcCells_one _) (by decide) (by unfold maxLen; have := HM1.out; omega) (by have := HM1.out; omega) (HS3.out.alloc _).le _ (by rfl) ?_; intro g cw4 w4 hown hgr hat hlt; have HS4 := Lib.hid ((HS3.out.alloc _).appN HQ1.out (qs := [(ldR ls 0, (⟨#[116, 121, 112, 101]⟩ : ByteArray)), (ldR ls 1, (x : ByteArray)), (ldR ls 2, (⟨#[61]⟩ : ByteArray))]) rfl hown hgr hat (Nat.le_refl _)); clear k0 k1 k2 k3; have k0 : w4.cell? ⟨w.heap.size, 0, none⟩ = some (.int .i64 3) := HS4.out.cells.1; have k1 : w4.cell? ⟨w.heap.size, 1, none⟩ = some (.string x) := HS4.out.cells.2.1; have k2 : w4.cell? ⟨w.heap.size, 2, none⟩ = some (.slice vla ls.length vlc) := HS4.out.cells.2.2.1; have k3 : w4.cell? ⟨w.heap.size, 3, none⟩ = some (.slice (some ⟨xb, xo, none⟩) 1 vkc) := HS4.out.cells.2.2.2; clear hown hgr hat hlt)
    | fail)
  all_goals
    obtain ⟨ua, c0, c1, c2, c3, hu⟩ := HS4.out.tree.at rfl (show (Tr.mk 3 x ls [a]).kids[0]? = some a from rfl)
    replace c0 : w4.cell? ⟨xb, xo, none⟩ = some (.int .i64 ua.kind) := c0
    replace c1 : w4.cell? ⟨xb, xo + 1, none⟩ = some (.string ua.text) := c1
    replace c2 : w4.cell? ⟨xb, xo + 2, none⟩ = some (.slice ua.la ua.ll ua.lc) := c2
    replace c3 : w4.cell? ⟨xb, xo + 3, none⟩ = some (.slice ua.ka ua.kl ua.kc) := c3
    have HU := Lib.hid hu
    clear hu
    obtain ⟨n2, hn2⟩ : ∃ n, (ps ++ [(ldR ls 0, (⟨#[116, 121, 112, 101]⟩ : ByteArray)), (ldR ls 1, (x : ByteArray)), (ldR ls 2, (⟨#[61]⟩ : ByteArray))]).length = n := ⟨_, rfl⟩
    have HQ2 := Lib.hid hn2
    clear hn2
    have HM2 := Lib.hid (show n2 + (pieces a).length ≤ 1000000 from by have h := HBD.out; rw [← HQ2.out]; rw [HEQ.out] at h; (try simp only [List.length_append, List.length_cons, List.length_nil] at h ⊢); omega)
    have HL2 := Lib.hid (show (ps ++ [(ldR ls 0, (⟨#[116, 121, 112, 101]⟩ : ByteArray)), (ldR ls 1, (x : ByteArray)), (ldR ls 2, (⟨#[61]⟩ : ByteArray))]).length + (pieces a).length ≤ 1000000 from by have h := HBD.out; rw [HEQ.out] at h; (try simp only [List.length_append, List.length_cons, List.length_nil] at h ⊢); omega)
    go_wp2_with (go_at_call 111; refine (HIH.out B _ (ps ++ [(ldR ls 0, (⟨#[116, 121, 112, 101]⟩ : ByteArray)), (ldR ls 1, (x : ByteArray)), (ldR ls 2, (⟨#[61]⟩ : ByteArray))]) a ua _ HNa.out HU.out HSHa.out HZa.out HS4.out.row HS4.out.le HL2.out).mono ?_; rintro e w5 ⟨lw5, rfl, hr, hg, ho⟩; have HS5 := Lib.hid (HS4.out.call hr hg ho); clear k0 k1 k2 k3; have k0 : w5.cell? ⟨w.heap.size, 0, none⟩ = some (.int .i64 3) := HS5.out.cells.1; have k1 : w5.cell? ⟨w.heap.size, 1, none⟩ = some (.string x) := HS5.out.cells.2.1; have k2 : w5.cell? ⟨w.heap.size, 2, none⟩ = some (.slice vla ls.length vlc) := HS5.out.cells.2.2.1; have k3 : w5.cell? ⟨w.heap.size, 3, none⟩ = some (.slice (some ⟨xb, xo, none⟩) 1 vkc) := HS5.out.cells.2.2.2; clear c0 c1 c2 c3; clear hr hg ho)
    go_ret
    exact HS5.out.post (by rw [HEQ.out]; first | done | (simp only [List.append_assoc, List.cons_append, List.nil_append]; done) | (simp only [List.append_assoc, List.cons_append, List.nil_append]; rfl) | (simp; done)) rfl
set_option maxRecDepth 100000 in
set_option maxHeartbeats 4000000 in
theorem rpieces_4 {N : Nat} (ih : PcC N) (B : Nat) (l : Value) (ps : List Piece) (x : ByteArray) (ls : List ByteArray) (a : Tr) (vla vka : Option Addr) (vlc vkc : Nat) (w : World) (hN : SizeOf.sizeOf (Tr.mk 4 x ls [a]) ≤ N + 1) (ht : TrAt (fun k => k < B) w (Tr.mk 4 x ls [a]) ⟨4, x, vla, ls.length, vlc, vka, 1, vkc⟩)
    (hsa : shapedT a = true) (hz : sizeT (Tr.mk 4 x ls [a]) ≤ 1000) (hl : PRow w B l ps) (hB : B ≤ w.heap.size) (hb : ps.length + (pieces (Tr.mk 4 x ls [a])).length ≤ 1000000) :
    Calls Tryz.prog 111 #[l, .agg #[.int .i64 4, .string x, .slice vla ls.length vlc, .slice vka 1 vkc]] w (PcPost B ps (pieces (Tr.mk 4 x ls [a])) l w) := by
  obtain ⟨xb, xo, hka⟩ : ∃ b off, vka = some ⟨b, off, none⟩ := ht.addr.resolve_left (by show (1 : Nat) ≠ 0; decide)
  subst hka
  have HIH := Lib.hid ih
  have HBD := Lib.hid hb
  have HEQ := Lib.hid (pieces_4 x ls a)
  have HNa := Lib.hid (show SizeOf.sizeOf a ≤ N from by have := kid_sizeOf (t := Tr.mk 4 x ls [a]) (j := 0) (k := a) rfl; omega)
  have HZa := Lib.hid (show sizeT a ≤ 1000 from by have := size_kid (t := Tr.mk 4 x ls [a]) (j := 0) (k := a) rfl; omega)
  have HSHa := Lib.hid hsa
  have HXB := Lib.hid (show xb < B from by obtain ⟨_, b1, o1, hA, hS, _⟩ := ht.kid (j := 0) (k := a) rfl; injection hA with e1; injection e1 with e1 _ _; rw [e1]; exact hS)
  have HST := Lib.hid (PSt.start hl ht hB)
  obtain ⟨ip, hip, pz0, pz1, pz2⟩ := info_parts piece_info
  clear ih hN ht hz hl hB hb hsa
  go_enter Tryz.func111, Tryz.ntmps111
  go_wp2_with fail
  generalize hW0 : w.alloc (.cells #[.int .i64 4, .string x, .slice vla ls.length vlc, .slice (some ⟨xb, xo, none⟩) 1 vkc] 25) = W0 at ⊢
  have HS0 := Lib.hid (show PSt B l w (Tr.mk 4 x ls [a]) ⟨4, x, vla, ls.length, vlc, some ⟨xb, xo, none⟩, 1, vkc⟩ l ps W0 from hW0 ▸ HST.out)
  clear HST hW0
  have k0 : W0.cell? ⟨w.heap.size, 0, none⟩ = some (.int .i64 4) := HS0.out.cells.1
  have k1 : W0.cell? ⟨w.heap.size, 1, none⟩ = some (.string x) := HS0.out.cells.2.1
  have k2 : W0.cell? ⟨w.heap.size, 2, none⟩ = some (.slice vla ls.length vlc) := HS0.out.cells.2.2.1
  have k3 : W0.cell? ⟨w.heap.size, 3, none⟩ = some (.slice (some ⟨xb, xo, none⟩) 1 vkc) := HS0.out.cells.2.2.2
  obtain ⟨n1, hn1⟩ : ∃ n, (ps).length = n := ⟨_, rfl⟩
  have HQ1 := Lib.hid hn1
  clear hn1
  have HM1 := Lib.hid (show n1 + (2 + (pieces a).length) ≤ 1000000 from by have h := HBD.out; rw [← HQ1.out]; rw [HEQ.out] at h; (try simp only [List.length_append, List.length_cons, List.length_nil] at h ⊢); omega)
  have HL1 := Lib.hid (show (ps).length + (2 + (pieces a).length) ≤ 1000000 from by have h := HBD.out; rw [HEQ.out] at h; (try simp only [List.length_append, List.length_cons, List.length_nil] at h ⊢); omega)
  go_region_held3 (fun w' => w'.cell? ⟨w.heap.size, 0, none⟩ = some (.int .i64 4) ∧ w'.cell? ⟨w.heap.size, 1, none⟩ = some (.string x) ∧ w'.cell? ⟨w.heap.size, 2, none⟩ = some (.slice vla ls.length vlc) ∧ w'.cell? ⟨w.heap.size, 3, none⟩ = some (.slice (some ⟨xb, xo, none⟩) 1 vkc)) (first | with_reducible exact ⟨k0, k1, k2, k3⟩ | go_keep) (first
    | (go_at_call 144; ((with_reducible refine (rlead_int _ (Tr.mk 4 x ls [a]) ⟨4, x, vla, ls.length, vlc, some ⟨xb, xo, none⟩, 1, vkc⟩ 0 0 rfl _ HS0.out.drew.tree (by decide)).mono ?_); rintro e w1 ⟨rfl, hb⟩; have HS1 := Lib.hid (HS0.out.drew.below hb); clear k0 k1 k2 k3; have k0 : w1.cell? ⟨w.heap.size, 0, none⟩ = some (.int .i64 4) := HS1.out.cells.1; have k1 : w1.cell? ⟨w.heap.size, 1, none⟩ = some (.string x) := HS1.out.cells.2.1; have k2 : w1.cell? ⟨w.heap.size, 2, none⟩ = some (.slice vla ls.length vlc) := HS1.out.cells.2.2.1; have k3 : w1.cell? ⟨w.heap.size, 3, none⟩ = some (.slice (some ⟨xb, xo, none⟩) 1 vkc) := HS1.out.cells.2.2.2; clear hb))
    | (go_at_call 144; ((with_reducible refine (rlead_int _ (Tr.mk 4 x ls [a]) ⟨4, x, vla, ls.length, vlc, some ⟨xb, xo, none⟩, 1, vkc⟩ 1 1 rfl _ HS1.out.tree (by decide)).mono ?_); rintro e w2 ⟨rfl, hb⟩; have HS2 := Lib.hid (HS1.out.below hb); clear k0 k1 k2 k3; have k0 : w2.cell? ⟨w.heap.size, 0, none⟩ = some (.int .i64 4) := HS2.out.cells.1; have k1 : w2.cell? ⟨w.heap.size, 1, none⟩ = some (.string x) := HS2.out.cells.2.1; have k2 : w2.cell? ⟨w.heap.size, 2, none⟩ = some (.slice vla ls.length vlc) := HS2.out.cells.2.2.1; have k3 : w2.cell? ⟨w.heap.size, 3, none⟩ = some (.slice (some ⟨xb, xo, none⟩) 1 vkc) := HS2.out.cells.2.2.2; clear hb))
    | (refine step_append_lies _ (by rfl) _ _ _ (by rfl) B 91 ip _ 2 32 Tryz.underlying88 hip pz0 pz1 pz2 rfl (by decide) _ n1 (pcCells (ps)) (by rfl) ((HS2.out.alloc _).rowN HQ1.out) ⟨w2.heap.size, 0, none⟩ 2 2 (pcCells [(ldR ls 0, (x : ByteArray)), (ldR ls 1, (⟨#[58]⟩ : ByteArray))]) (by rfl) (by rfl) (World.news_of_block (cs := #[.string (ldR ls 0), .string x, .string (ldR ls 1), .string ⟨#[58]⟩]) (t := 91) (fr := (0, 0)) (heap_alloc_new w2 _)) (pcCells_one _) (by decide) (by unfold maxLen; have := HM1.out; omega) (by have := HM1.out; omega) (HS2.out.alloc _).le _ (by rfl) ?_; intro g cw3 w3 hown hgr hat hlt; have HS3 := Lib.hid ((HS2.out.alloc _).appN HQ1.out (qs := [(ldR ls 0, (x : ByteArray)), (ldR ls 1, (⟨#[58]⟩ : ByteArray))]) rfl hown hgr hat (Nat.le_refl _)); clear k0 k1 k2 k3; have k0 : w3.cell? ⟨w.heap.size, 0, none⟩ = some (.int .i64 4) := HS3.out.cells.1; have k1 : w3.cell? ⟨w.heap.size, 1, none⟩ = some (.string x) := HS3.out.cells.2.1; have k2 : w3.cell? ⟨w.heap.size, 2, none⟩ = some (.slice vla ls.length vlc) := HS3.out.cells.2.2.1; have k3 : w3.cell? ⟨w.heap.size, 3, none⟩ = some (.slice (some ⟨xb, xo, none⟩) 1 vkc) := HS3.out.cells.2.2.2; clear hown hgr hat hlt)
    | fail)
  all_goals
    obtain ⟨ua, c0, c1, c2, c3, hu⟩ := HS3.out.tree.at rfl (show (Tr.mk 4 x ls [a]).kids[0]? = some a from rfl)
    replace c0 : w3.cell? ⟨xb, xo, none⟩ = some (.int .i64 ua.kind) := c0
    replace c1 : w3.cell? ⟨xb, xo + 1, none⟩ = some (.string ua.text) := c1
    replace c2 : w3.cell? ⟨xb, xo + 2, none⟩ = some (.slice ua.la ua.ll ua.lc) := c2
    replace c3 : w3.cell? ⟨xb, xo + 3, none⟩ = some (.slice ua.ka ua.kl ua.kc) := c3
    have HU := Lib.hid hu
    clear hu
    obtain ⟨n2, hn2⟩ : ∃ n, (ps ++ [(ldR ls 0, (x : ByteArray)), (ldR ls 1, (⟨#[58]⟩ : ByteArray))]).length = n := ⟨_, rfl⟩
    have HQ2 := Lib.hid hn2
    clear hn2
    have HM2 := Lib.hid (show n2 + (pieces a).length ≤ 1000000 from by have h := HBD.out; rw [← HQ2.out]; rw [HEQ.out] at h; (try simp only [List.length_append, List.length_cons, List.length_nil] at h ⊢); omega)
    have HL2 := Lib.hid (show (ps ++ [(ldR ls 0, (x : ByteArray)), (ldR ls 1, (⟨#[58]⟩ : ByteArray))]).length + (pieces a).length ≤ 1000000 from by have h := HBD.out; rw [HEQ.out] at h; (try simp only [List.length_append, List.length_cons, List.length_nil] at h ⊢); omega)
    go_wp2_with (go_at_call 111; refine (HIH.out B _ (ps ++ [(ldR ls 0, (x : ByteArray)), (ldR ls 1, (⟨#[58]⟩ : ByteArray))]) a ua _ HNa.out HU.out HSHa.out HZa.out HS3.out.row HS3.out.le HL2.out).mono ?_; rintro e w4 ⟨lw4, rfl, hr, hg, ho⟩; have HS4 := Lib.hid (HS3.out.call hr hg ho); clear k0 k1 k2 k3; have k0 : w4.cell? ⟨w.heap.size, 0, none⟩ = some (.int .i64 4) := HS4.out.cells.1; have k1 : w4.cell? ⟨w.heap.size, 1, none⟩ = some (.string x) := HS4.out.cells.2.1; have k2 : w4.cell? ⟨w.heap.size, 2, none⟩ = some (.slice vla ls.length vlc) := HS4.out.cells.2.2.1; have k3 : w4.cell? ⟨w.heap.size, 3, none⟩ = some (.slice (some ⟨xb, xo, none⟩) 1 vkc) := HS4.out.cells.2.2.2; clear c0 c1 c2 c3; clear hr hg ho)
    go_ret
    exact HS4.out.post (by rw [HEQ.out]; first | done | (simp only [List.append_assoc, List.cons_append, List.nil_append]; done) | (simp only [List.append_assoc, List.cons_append, List.nil_append]; rfl) | (simp; done)) rfl
set_option maxRecDepth 100000 in
set_option maxHeartbeats 4000000 in
theorem rpieces_8 {N : Nat} (ih : PcC N) (B : Nat) (l : Value) (ps : List Piece) (x : ByteArray) (ls : List ByteArray) (a : Tr) (vla vka : Option Addr) (vlc vkc : Nat) (w : World) (hN : SizeOf.sizeOf (Tr.mk 8 x ls [a]) ≤ N + 1) (ht : TrAt (fun k => k < B) w (Tr.mk 8 x ls [a]) ⟨8, x, vla, ls.length, vlc, vka, 1, vkc⟩)
    (hsa : shapedT a = true) (hz : sizeT (Tr.mk 8 x ls [a]) ≤ 1000) (hl : PRow w B l ps) (hB : B ≤ w.heap.size) (hb : ps.length + (pieces (Tr.mk 8 x ls [a])).length ≤ 1000000) :
    Calls Tryz.prog 111 #[l, .agg #[.int .i64 8, .string x, .slice vla ls.length vlc, .slice vka 1 vkc]] w (PcPost B ps (pieces (Tr.mk 8 x ls [a])) l w) := by
  obtain ⟨xb, xo, hka⟩ : ∃ b off, vka = some ⟨b, off, none⟩ := ht.addr.resolve_left (by show (1 : Nat) ≠ 0; decide)
  subst hka
  have HIH := Lib.hid ih
  have HBD := Lib.hid hb
  have HEQ := Lib.hid (pieces_8 x ls a)
  have HNa := Lib.hid (show SizeOf.sizeOf a ≤ N from by have := kid_sizeOf (t := Tr.mk 8 x ls [a]) (j := 0) (k := a) rfl; omega)
  have HZa := Lib.hid (show sizeT a ≤ 1000 from by have := size_kid (t := Tr.mk 8 x ls [a]) (j := 0) (k := a) rfl; omega)
  have HSHa := Lib.hid hsa
  have HXB := Lib.hid (show xb < B from by obtain ⟨_, b1, o1, hA, hS, _⟩ := ht.kid (j := 0) (k := a) rfl; injection hA with e1; injection e1 with e1 _ _; rw [e1]; exact hS)
  have HST := Lib.hid (PSt.start hl ht hB)
  obtain ⟨ip, hip, pz0, pz1, pz2⟩ := info_parts piece_info
  clear ih hN ht hz hl hB hb hsa
  go_enter Tryz.func111, Tryz.ntmps111
  go_wp2_with fail
  generalize hW0 : w.alloc (.cells #[.int .i64 8, .string x, .slice vla ls.length vlc, .slice (some ⟨xb, xo, none⟩) 1 vkc] 25) = W0 at ⊢
  have HS0 := Lib.hid (show PSt B l w (Tr.mk 8 x ls [a]) ⟨8, x, vla, ls.length, vlc, some ⟨xb, xo, none⟩, 1, vkc⟩ l ps W0 from hW0 ▸ HST.out)
  clear HST hW0
  have k0 : W0.cell? ⟨w.heap.size, 0, none⟩ = some (.int .i64 8) := HS0.out.cells.1
  have k1 : W0.cell? ⟨w.heap.size, 1, none⟩ = some (.string x) := HS0.out.cells.2.1
  have k2 : W0.cell? ⟨w.heap.size, 2, none⟩ = some (.slice vla ls.length vlc) := HS0.out.cells.2.2.1
  have k3 : W0.cell? ⟨w.heap.size, 3, none⟩ = some (.slice (some ⟨xb, xo, none⟩) 1 vkc) := HS0.out.cells.2.2.2
  obtain ⟨n1, hn1⟩ : ∃ n, (ps).length = n := ⟨_, rfl⟩
  have HQ1 := Lib.hid hn1
  clear hn1
  have HM1 := Lib.hid (show n1 + 1 ≤ 1000000 from by have h := HBD.out; rw [← HQ1.out]; rw [HEQ.out] at h; (try simp only [List.length_append, List.length_cons, List.length_nil] at h ⊢); omega)
  have HL1 := Lib.hid (show (ps).length + 1 ≤ 1000000 from by have h := HBD.out; rw [HEQ.out] at h; (try simp only [List.length_append, List.length_cons, List.length_nil] at h ⊢); omega)
  go_wp2_with (first
    | (go_at_call 144; ((with_reducible refine (rlead_int _ (Tr.mk 8 x ls [a]) ⟨8, x, vla, ls.length, vlc, some ⟨xb, xo, none⟩, 1, vkc⟩ 0 0 rfl _ HS0.out.tree (by decide)).mono ?_); rintro e w1 ⟨rfl, hb⟩; have HS1 := Lib.hid (HS0.out.below hb); clear k0 k1 k2 k3; have k0 : w1.cell? ⟨w.heap.size, 0, none⟩ = some (.int .i64 8) := HS1.out.cells.1; have k1 : w1.cell? ⟨w.heap.size, 1, none⟩ = some (.string x) := HS1.out.cells.2.1; have k2 : w1.cell? ⟨w.heap.size, 2, none⟩ = some (.slice vla ls.length vlc) := HS1.out.cells.2.2.1; have k3 : w1.cell? ⟨w.heap.size, 3, none⟩ = some (.slice (some ⟨xb, xo, none⟩) 1 vkc) := HS1.out.cells.2.2.2; clear hb))
    | (at_builtin; refine wpList_append_lies _ (by rfl) _ _ 88 (by rfl) B 91 ip _ 2 32 Tryz.underlying88 hip pz0 pz1 pz2 rfl (by decide) _ n1 (pcCells (ps)) (by rfl) ((HS1.out.alloc _).rowN HQ1.out) ⟨w1.heap.size, 0, none⟩ 1 1 (pcCells [(ldR ls 0, (⟨#[91]⟩ : ByteArray))]) (by rfl) (by rfl) (World.news_of_block (cs := #[.string (ldR ls 0), .string ⟨#[91]⟩]) (t := 91) (fr := (0, 0)) (heap_alloc_new w1 _)) (pcCells_one _) (by decide) (by unfold maxLen; have := HM1.out; omega) (by have := HM1.out; omega) (HS1.out.alloc _).le _ (by rfl) ?_; intro g cw2 w2 hown hgr hat hlt; have HS2 := Lib.hid ((HS1.out.alloc _).appN HQ1.out (qs := [(ldR ls 0, (⟨#[91]⟩ : ByteArray))]) rfl hown hgr hat (Nat.le_refl _)); clear k0 k1 k2 k3; have k0 : w2.cell? ⟨w.heap.size, 0, none⟩ = some (.int .i64 8) := HS2.out.cells.1; have k1 : w2.cell? ⟨w.heap.size, 1, none⟩ = some (.string x) := HS2.out.cells.2.1; have k2 : w2.cell? ⟨w.heap.size, 2, none⟩ = some (.slice vla ls.length vlc) := HS2.out.cells.2.2.1; have k3 : w2.cell? ⟨w.heap.size, 3, none⟩ = some (.slice (some ⟨xb, xo, none⟩) 1 vkc) := HS2.out.cells.2.2.2; clear hown hgr hat hlt))
  obtain ⟨ua, c0, c1, c2, c3, hu⟩ := HS2.out.tree.at rfl (show (Tr.mk 8 x ls [a]).kids[0]? = some a from rfl)
  replace c0 : w2.cell? ⟨xb, xo, none⟩ = some (.int .i64 ua.kind) := c0
  replace c1 : w2.cell? ⟨xb, xo + 1, none⟩ = some (.string ua.text) := c1
  replace c2 : w2.cell? ⟨xb, xo + 2, none⟩ = some (.slice ua.la ua.ll ua.lc) := c2
  replace c3 : w2.cell? ⟨xb, xo + 3, none⟩ = some (.slice ua.ka ua.kl ua.kc) := c3
  have HU := Lib.hid hu
  clear hu
  obtain ⟨n2, hn2⟩ : ∃ n, (ps ++ [(ldR ls 0, (⟨#[91]⟩ : ByteArray))]).length = n := ⟨_, rfl⟩
  have HQ2 := Lib.hid hn2
  clear hn2
  have HM2 := Lib.hid (show n2 + (pieces a).length ≤ 1000000 from by have h := HBD.out; rw [← HQ2.out]; rw [HEQ.out] at h; (try simp only [List.length_append, List.length_cons, List.length_nil] at h ⊢); omega)
  have HL2 := Lib.hid (show (ps ++ [(ldR ls 0, (⟨#[91]⟩ : ByteArray))]).length + (pieces a).length ≤ 1000000 from by have h := HBD.out; rw [HEQ.out] at h; (try simp only [List.length_append, List.length_cons, List.length_nil] at h ⊢); omega)
  obtain ⟨n3, hn3⟩ : ∃ n, (ps ++ [(ldR ls 0, (⟨#[91]⟩ : ByteArray))] ++ pieces a).length = n := ⟨_, rfl⟩
  have HQ3 := Lib.hid hn3
  clear hn3
  have HM3 := Lib.hid (show n3 + 1 ≤ 1000000 from by have h := HBD.out; rw [← HQ3.out]; rw [HEQ.out] at h; (try simp only [List.length_append, List.length_cons, List.length_nil] at h ⊢); omega)
  have HL3 := Lib.hid (show (ps ++ [(ldR ls 0, (⟨#[91]⟩ : ByteArray))] ++ pieces a).length + 1 ≤ 1000000 from by have h := HBD.out; rw [HEQ.out] at h; (try simp only [List.length_append, List.length_cons, List.length_nil] at h ⊢); omega)
  go_region_held3 (fun w' => w'.cell? ⟨w.heap.size, 0, none⟩ = some (.int .i64 8) ∧ w'.cell? ⟨w.heap.size, 1, none⟩ = some (.string x) ∧ w'.cell? ⟨w.heap.size, 2, none⟩ = some (.slice vla ls.length vlc) ∧ w'.cell? ⟨w.heap.size, 3, none⟩ = some (.slice (some ⟨xb, xo, none⟩) 1 vkc) ∧ w'.cell? ⟨xb, xo, none⟩ = some (.int .i64 ua.kind) ∧ w'.cell? ⟨xb, xo + 1, none⟩ = some (.string ua.text) ∧ w'.cell? ⟨xb, xo + 2, none⟩ = some (.slice ua.la ua.ll ua.lc) ∧ w'.cell? ⟨xb, xo + 3, none⟩ = some (.slice ua.ka ua.kl ua.kc)) (first | with_reducible exact ⟨k0, k1, k2, k3, c0, c1, c2, c3⟩ | go_keep) (first
    | (go_at_call 111; refine (HIH.out B _ (ps ++ [(ldR ls 0, (⟨#[91]⟩ : ByteArray))]) a ua _ HNa.out (HU.out.keep ((Below.refl _ _).drew)) HSHa.out HZa.out HS2.out.drew.row HS2.out.drew.le HL2.out).mono ?_; rintro e w3 ⟨lw3, rfl, hr, hg, ho⟩; have HS3 := Lib.hid (HS2.out.drew.call hr hg ho); clear k0 k1 k2 k3; have k0 : w3.cell? ⟨w.heap.size, 0, none⟩ = some (.int .i64 8) := HS3.out.cells.1; have k1 : w3.cell? ⟨w.heap.size, 1, none⟩ = some (.string x) := HS3.out.cells.2.1; have k2 : w3.cell? ⟨w.heap.size, 2, none⟩ = some (.slice vla ls.length vlc) := HS3.out.cells.2.2.1; have k3 : w3.cell? ⟨w.heap.size, 3, none⟩ = some (.slice (some ⟨xb, xo, none⟩) 1 vkc) := HS3.out.cells.2.2.2; have hkb : ∀ k, k < B → w3.heap[k]? = (w2).heap[k]? := fun k hk => HS2.out.drew.keepB hg k hk; have d0 : w3.cell? ⟨xb, xo, none⟩ = some (.int .i64 ua.kind) := (World.cell?_of_block (w := w2) (a := ⟨xb, xo, none⟩) (hkb xb HXB.out)).trans c0; have d1 : w3.cell? ⟨xb, xo + 1, none⟩ = some (.string ua.text) := (World.cell?_of_block (w := w2) (a := ⟨xb, xo + 1, none⟩) (hkb xb HXB.out)).trans c1; have d2 : w3.cell? ⟨xb, xo + 2, none⟩ = some (.slice ua.la ua.ll ua.lc) := (World.cell?_of_block (w := w2) (a := ⟨xb, xo + 2, none⟩) (hkb xb HXB.out)).trans c2; have d3 : w3.cell? ⟨xb, xo + 3, none⟩ = some (.slice ua.ka ua.kl ua.kc) := (World.cell?_of_block (w := w2) (a := ⟨xb, xo + 3, none⟩) (hkb xb HXB.out)).trans c3; have HU1 := Lib.hid (TrAt.move (w := w2) (w' := w3) (S' := fun k => k < B) (fun _ h => h) (fun k hk _ => hkb k hk) _ _ HU.out); clear c0 c1 c2 c3 hkb; have c0 := d0; have c1 := d1; have c2 := d2; have c3 := d3; clear d0 d1 d2 d3; clear hr hg ho)
    | (go_at_call 144; ((with_reducible refine (rlead_int _ (Tr.mk 8 x ls [a]) ⟨8, x, vla, ls.length, vlc, some ⟨xb, xo, none⟩, 1, vkc⟩ 1 1 rfl _ HS3.out.tree (by decide)).mono ?_); rintro e w4 ⟨rfl, hb⟩; have HS4 := Lib.hid (HS3.out.below hb); clear k0 k1 k2 k3; have k0 : w4.cell? ⟨w.heap.size, 0, none⟩ = some (.int .i64 8) := HS4.out.cells.1; have k1 : w4.cell? ⟨w.heap.size, 1, none⟩ = some (.string x) := HS4.out.cells.2.1; have k2 : w4.cell? ⟨w.heap.size, 2, none⟩ = some (.slice vla ls.length vlc) := HS4.out.cells.2.2.1; have k3 : w4.cell? ⟨w.heap.size, 3, none⟩ = some (.slice (some ⟨xb, xo, none⟩) 1 vkc) := HS4.out.cells.2.2.2; have hkb : ∀ k, k < B → w4.heap[k]? = (w3).heap[k]? := fun k hk => hb.block k (Nat.lt_of_lt_of_le hk HS3.out.le); have d0 : w4.cell? ⟨xb, xo, none⟩ = some (.int .i64 ua.kind) := (World.cell?_of_block (w := w3) (a := ⟨xb, xo, none⟩) (hkb xb HXB.out)).trans c0; have d1 : w4.cell? ⟨xb, xo + 1, none⟩ = some (.string ua.text) := (World.cell?_of_block (w := w3) (a := ⟨xb, xo + 1, none⟩) (hkb xb HXB.out)).trans c1; have d2 : w4.cell? ⟨xb, xo + 2, none⟩ = some (.slice ua.la ua.ll ua.lc) := (World.cell?_of_block (w := w3) (a := ⟨xb, xo + 2, none⟩) (hkb xb HXB.out)).trans c2; have d3 : w4.cell? ⟨xb, xo + 3, none⟩ = some (.slice ua.ka ua.kl ua.kc) := (World.cell?_of_block (w := w3) (a := ⟨xb, xo + 3, none⟩) (hkb xb HXB.out)).trans c3; have HU2 := Lib.hid (TrAt.move (w := w3) (w' := w4) (S' := fun k => k < B) (fun _ h => h) (fun k hk _ => hkb k hk) _ _ HU1.out); clear c0 c1 c2 c3 hkb; have c0 := d0; have c1 := d1; have c2 := d2; have c3 := d3; clear d0 d1 d2 d3; clear hb))
    | (refine step_append_lies _ (by rfl) _ _ _ (by rfl) B 91 ip _ 2 32 Tryz.underlying88 hip pz0 pz1 pz2 rfl (by decide) _ n3 (pcCells (ps ++ [(ldR ls 0, (⟨#[91]⟩ : ByteArray))] ++ pieces a)) (by rfl) ((HS4.out.alloc _).rowN HQ3.out) ⟨w4.heap.size, 0, none⟩ 1 1 (pcCells [(ldR ls 1, (⟨#[93]⟩ : ByteArray))]) (by rfl) (by rfl) (World.news_of_block (cs := #[.string (ldR ls 1), .string ⟨#[93]⟩]) (t := 91) (fr := (0, 0)) (heap_alloc_new w4 _)) (pcCells_one _) (by decide) (by unfold maxLen; have := HM3.out; omega) (by have := HM3.out; omega) (HS4.out.alloc _).le _ (by rfl) ?_; intro g cw5 w5 hown hgr hat hlt; have HS5 := Lib.hid ((HS4.out.alloc _).appN HQ3.out (qs := [(ldR ls 1, (⟨#[93]⟩ : ByteArray))]) rfl hown hgr hat (Nat.le_refl _)); clear k0 k1 k2 k3; have k0 : w5.cell? ⟨w.heap.size, 0, none⟩ = some (.int .i64 8) := HS5.out.cells.1; have k1 : w5.cell? ⟨w.heap.size, 1, none⟩ = some (.string x) := HS5.out.cells.2.1; have k2 : w5.cell? ⟨w.heap.size, 2, none⟩ = some (.slice vla ls.length vlc) := HS5.out.cells.2.2.1; have k3 : w5.cell? ⟨w.heap.size, 3, none⟩ = some (.slice (some ⟨xb, xo, none⟩) 1 vkc) := HS5.out.cells.2.2.2; have hkb : ∀ k, k < B → w5.heap[k]? = (w4).heap[k]? := fun k hk => ((HS4.out.alloc _).keepB hgr k hk).trans (Below.heap_alloc _ _ k (Nat.lt_of_lt_of_le hk HS4.out.le)); have d0 : w5.cell? ⟨xb, xo, none⟩ = some (.int .i64 ua.kind) := (World.cell?_of_block (w := w4) (a := ⟨xb, xo, none⟩) (hkb xb HXB.out)).trans c0; have d1 : w5.cell? ⟨xb, xo + 1, none⟩ = some (.string ua.text) := (World.cell?_of_block (w := w4) (a := ⟨xb, xo + 1, none⟩) (hkb xb HXB.out)).trans c1; have d2 : w5.cell? ⟨xb, xo + 2, none⟩ = some (.slice ua.la ua.ll ua.lc) := (World.cell?_of_block (w := w4) (a := ⟨xb, xo + 2, none⟩) (hkb xb HXB.out)).trans c2; have d3 : w5.cell? ⟨xb, xo + 3, none⟩ = some (.slice ua.ka ua.kl ua.kc) := (World.cell?_of_block (w := w4) (a := ⟨xb, xo + 3, none⟩) (hkb xb HXB.out)).trans c3; have HU3 := Lib.hid (TrAt.move (w := w4) (w' := w5) (S' := fun k => k < B) (fun _ h => h) (fun k hk _ => hkb k hk) _ _ HU2.out); clear c0 c1 c2 c3 hkb; have c0 := d0; have c1 := d1; have c2 := d2; have c3 := d3; clear d0 d1 d2 d3; clear hown hgr hat hlt)
    | fail)
  all_goals
    clear c0 c1 c2 c3
    go_wp2
    go_ret
    exact HS5.out.post (by rw [HEQ.out]; first | done | (simp only [List.append_assoc, List.cons_append, List.nil_append]; done) | (simp only [List.append_assoc, List.cons_append, List.nil_append]; rfl) | (simp; done)) rfl
set_option maxRecDepth 100000 in
set_option maxHeartbeats 4000000 in
theorem rpieces_22 {N : Nat} (ih : PcC N) (B : Nat) (l : Value) (ps : List Piece) (x : ByteArray) (ls : List ByteArray) (a : Tr) (vla vka : Option Addr) (vlc vkc : Nat) (w : World) (hN : SizeOf.sizeOf (Tr.mk 22 x ls [a]) ≤ N + 1) (ht : TrAt (fun k => k < B) w (Tr.mk 22 x ls [a]) ⟨22, x, vla, ls.length, vlc, vka, 1, vkc⟩)
    (hsa : shapedT a = true) (hz : sizeT (Tr.mk 22 x ls [a]) ≤ 1000) (hl : PRow w B l ps) (hB : B ≤ w.heap.size) (hb : ps.length + (pieces (Tr.mk 22 x ls [a])).length ≤ 1000000) :
    Calls Tryz.prog 111 #[l, .agg #[.int .i64 22, .string x, .slice vla ls.length vlc, .slice vka 1 vkc]] w (PcPost B ps (pieces (Tr.mk 22 x ls [a])) l w) := by
  obtain ⟨xb, xo, hka⟩ : ∃ b off, vka = some ⟨b, off, none⟩ := ht.addr.resolve_left (by show (1 : Nat) ≠ 0; decide)
  subst hka
  have HIH := Lib.hid ih
  have HBD := Lib.hid hb
  have HEQ := Lib.hid (pieces_22 x ls a)
  have HNa := Lib.hid (show SizeOf.sizeOf a ≤ N from by have := kid_sizeOf (t := Tr.mk 22 x ls [a]) (j := 0) (k := a) rfl; omega)
  have HZa := Lib.hid (show sizeT a ≤ 1000 from by have := size_kid (t := Tr.mk 22 x ls [a]) (j := 0) (k := a) rfl; omega)
  have HSHa := Lib.hid hsa
  have HXB := Lib.hid (show xb < B from by obtain ⟨_, b1, o1, hA, hS, _⟩ := ht.kid (j := 0) (k := a) rfl; injection hA with e1; injection e1 with e1 _ _; rw [e1]; exact hS)
  have HST := Lib.hid (PSt.start hl ht hB)
  obtain ⟨ip, hip, pz0, pz1, pz2⟩ := info_parts piece_info
  clear ih hN ht hz hl hB hb hsa
  go_enter Tryz.func111, Tryz.ntmps111
  go_wp2_with fail
  generalize hW0 : w.alloc (.cells #[.int .i64 22, .string x, .slice vla ls.length vlc, .slice (some ⟨xb, xo, none⟩) 1 vkc] 25) = W0 at ⊢
  have HS0 := Lib.hid (show PSt B l w (Tr.mk 22 x ls [a]) ⟨22, x, vla, ls.length, vlc, some ⟨xb, xo, none⟩, 1, vkc⟩ l ps W0 from hW0 ▸ HST.out)
  clear HST hW0
  have k0 : W0.cell? ⟨w.heap.size, 0, none⟩ = some (.int .i64 22) := HS0.out.cells.1
  have k1 : W0.cell? ⟨w.heap.size, 1, none⟩ = some (.string x) := HS0.out.cells.2.1
  have k2 : W0.cell? ⟨w.heap.size, 2, none⟩ = some (.slice vla ls.length vlc) := HS0.out.cells.2.2.1
  have k3 : W0.cell? ⟨w.heap.size, 3, none⟩ = some (.slice (some ⟨xb, xo, none⟩) 1 vkc) := HS0.out.cells.2.2.2
  obtain ⟨n1, hn1⟩ : ∃ n, (ps).length = n := ⟨_, rfl⟩
  have HQ1 := Lib.hid hn1
  clear hn1
  have HM1 := Lib.hid (show n1 + 1 ≤ 1000000 from by have h := HBD.out; rw [← HQ1.out]; rw [HEQ.out] at h; (try simp only [List.length_append, List.length_cons, List.length_nil] at h ⊢); omega)
  have HL1 := Lib.hid (show (ps).length + 1 ≤ 1000000 from by have h := HBD.out; rw [HEQ.out] at h; (try simp only [List.length_append, List.length_cons, List.length_nil] at h ⊢); omega)
  go_wp2_with (first
    | (go_at_call 144; ((with_reducible refine (rlead_int _ (Tr.mk 22 x ls [a]) ⟨22, x, vla, ls.length, vlc, some ⟨xb, xo, none⟩, 1, vkc⟩ 0 0 rfl _ HS0.out.tree (by decide)).mono ?_); rintro e w1 ⟨rfl, hb⟩; have HS1 := Lib.hid (HS0.out.below hb); clear k0 k1 k2 k3; have k0 : w1.cell? ⟨w.heap.size, 0, none⟩ = some (.int .i64 22) := HS1.out.cells.1; have k1 : w1.cell? ⟨w.heap.size, 1, none⟩ = some (.string x) := HS1.out.cells.2.1; have k2 : w1.cell? ⟨w.heap.size, 2, none⟩ = some (.slice vla ls.length vlc) := HS1.out.cells.2.2.1; have k3 : w1.cell? ⟨w.heap.size, 3, none⟩ = some (.slice (some ⟨xb, xo, none⟩) 1 vkc) := HS1.out.cells.2.2.2; clear hb))
    | (at_builtin; refine wpList_append_lies _ (by rfl) _ _ 88 (by rfl) B 91 ip _ 2 32 Tryz.underlying88 hip pz0 pz1 pz2 rfl (by decide) _ n1 (pcCells (ps)) (by rfl) ((HS1.out.alloc _).rowN HQ1.out) ⟨w1.heap.size, 0, none⟩ 1 1 (pcCells [(ldR ls 0, (⟨#[40]⟩ : ByteArray))]) (by rfl) (by rfl) (World.news_of_block (cs := #[.string (ldR ls 0), .string ⟨#[40]⟩]) (t := 91) (fr := (0, 0)) (heap_alloc_new w1 _)) (pcCells_one _) (by decide) (by unfold maxLen; have := HM1.out; omega) (by have := HM1.out; omega) (HS1.out.alloc _).le _ (by rfl) ?_; intro g cw2 w2 hown hgr hat hlt; have HS2 := Lib.hid ((HS1.out.alloc _).appN HQ1.out (qs := [(ldR ls 0, (⟨#[40]⟩ : ByteArray))]) rfl hown hgr hat (Nat.le_refl _)); clear k0 k1 k2 k3; have k0 : w2.cell? ⟨w.heap.size, 0, none⟩ = some (.int .i64 22) := HS2.out.cells.1; have k1 : w2.cell? ⟨w.heap.size, 1, none⟩ = some (.string x) := HS2.out.cells.2.1; have k2 : w2.cell? ⟨w.heap.size, 2, none⟩ = some (.slice vla ls.length vlc) := HS2.out.cells.2.2.1; have k3 : w2.cell? ⟨w.heap.size, 3, none⟩ = some (.slice (some ⟨xb, xo, none⟩) 1 vkc) := HS2.out.cells.2.2.2; clear hown hgr hat hlt))
  obtain ⟨ua, c0, c1, c2, c3, hu⟩ := HS2.out.tree.at rfl (show (Tr.mk 22 x ls [a]).kids[0]? = some a from rfl)
  replace c0 : w2.cell? ⟨xb, xo, none⟩ = some (.int .i64 ua.kind) := c0
  replace c1 : w2.cell? ⟨xb, xo + 1, none⟩ = some (.string ua.text) := c1
  replace c2 : w2.cell? ⟨xb, xo + 2, none⟩ = some (.slice ua.la ua.ll ua.lc) := c2
  replace c3 : w2.cell? ⟨xb, xo + 3, none⟩ = some (.slice ua.ka ua.kl ua.kc) := c3
  have HU := Lib.hid hu
  clear hu
  obtain ⟨n2, hn2⟩ : ∃ n, (ps ++ [(ldR ls 0, (⟨#[40]⟩ : ByteArray))]).length = n := ⟨_, rfl⟩
  have HQ2 := Lib.hid hn2
  clear hn2
  have HM2 := Lib.hid (show n2 + (pieces a).length ≤ 1000000 from by have h := HBD.out; rw [← HQ2.out]; rw [HEQ.out] at h; (try simp only [List.length_append, List.length_cons, List.length_nil] at h ⊢); omega)
  have HL2 := Lib.hid (show (ps ++ [(ldR ls 0, (⟨#[40]⟩ : ByteArray))]).length + (pieces a).length ≤ 1000000 from by have h := HBD.out; rw [HEQ.out] at h; (try simp only [List.length_append, List.length_cons, List.length_nil] at h ⊢); omega)
  obtain ⟨n3, hn3⟩ : ∃ n, (ps ++ [(ldR ls 0, (⟨#[40]⟩ : ByteArray))] ++ pieces a).length = n := ⟨_, rfl⟩
  have HQ3 := Lib.hid hn3
  clear hn3
  have HM3 := Lib.hid (show n3 + 1 ≤ 1000000 from by have h := HBD.out; rw [← HQ3.out]; rw [HEQ.out] at h; (try simp only [List.length_append, List.length_cons, List.length_nil] at h ⊢); omega)
  have HL3 := Lib.hid (show (ps ++ [(ldR ls 0, (⟨#[40]⟩ : ByteArray))] ++ pieces a).length + 1 ≤ 1000000 from by have h := HBD.out; rw [HEQ.out] at h; (try simp only [List.length_append, List.length_cons, List.length_nil] at h ⊢); omega)
  go_region_held3 (fun w' => w'.cell? ⟨w.heap.size, 0, none⟩ = some (.int .i64 22) ∧ w'.cell? ⟨w.heap.size, 1, none⟩ = some (.string x) ∧ w'.cell? ⟨w.heap.size, 2, none⟩ = some (.slice vla ls.length vlc) ∧ w'.cell? ⟨w.heap.size, 3, none⟩ = some (.slice (some ⟨xb, xo, none⟩) 1 vkc) ∧ w'.cell? ⟨xb, xo, none⟩ = some (.int .i64 ua.kind) ∧ w'.cell? ⟨xb, xo + 1, none⟩ = some (.string ua.text) ∧ w'.cell? ⟨xb, xo + 2, none⟩ = some (.slice ua.la ua.ll ua.lc) ∧ w'.cell? ⟨xb, xo + 3, none⟩ = some (.slice ua.ka ua.kl ua.kc)) (first | with_reducible exact ⟨k0, k1, k2, k3, c0, c1, c2, c3⟩ | go_keep) (first
    | (go_at_call 111; refine (HIH.out B _ (ps ++ [(ldR ls 0, (⟨#[40]⟩ : ByteArray))]) a ua _ HNa.out (HU.out.keep ((Below.refl _ _).drew)) HSHa.out HZa.out HS2.out.drew.row HS2.out.drew.le HL2.out).mono ?_; rintro e w3 ⟨lw3, rfl, hr, hg, ho⟩; have HS3 := Lib.hid (HS2.out.drew.call hr hg ho); clear k0 k1 k2 k3; have k0 : w3.cell? ⟨w.heap.size, 0, none⟩ = some (.int .i64 22) := HS3.out.cells.1; have k1 : w3.cell? ⟨w.heap.size, 1, none⟩ = some (.string x) := HS3.out.cells.2.1; have k2 : w3.cell? ⟨w.heap.size, 2, none⟩ = some (.slice vla ls.length vlc) := HS3.out.cells.2.2.1; have k3 : w3.cell? ⟨w.heap.size, 3, none⟩ = some (.slice (some ⟨xb, xo, none⟩) 1 vkc) := HS3.out.cells.2.2.2; have hkb : ∀ k, k < B → w3.heap[k]? = (w2).heap[k]? := fun k hk => HS2.out.drew.keepB hg k hk; have d0 : w3.cell? ⟨xb, xo, none⟩ = some (.int .i64 ua.kind) := (World.cell?_of_block (w := w2) (a := ⟨xb, xo, none⟩) (hkb xb HXB.out)).trans c0; have d1 : w3.cell? ⟨xb, xo + 1, none⟩ = some (.string ua.text) := (World.cell?_of_block (w := w2) (a := ⟨xb, xo + 1, none⟩) (hkb xb HXB.out)).trans c1; have d2 : w3.cell? ⟨xb, xo + 2, none⟩ = some (.slice ua.la ua.ll ua.lc) := (World.cell?_of_block (w := w2) (a := ⟨xb, xo + 2, none⟩) (hkb xb HXB.out)).trans c2; have d3 : w3.cell? ⟨xb, xo + 3, none⟩ = some (.slice ua.ka ua.kl ua.kc) := (World.cell?_of_block (w := w2) (a := ⟨xb, xo + 3, none⟩) (hkb xb HXB.out)).trans c3; have HU1 := Lib.hid (TrAt.move (w := w2) (w' := w3) (S' := fun k => k < B) (fun _ h => h) (fun k hk _ => hkb k hk) _ _ HU.out); clear c0 c1 c2 c3 hkb; have c0 := d0; have c1 := d1; have c2 := d2; have c3 := d3; clear d0 d1 d2 d3; clear hr hg ho)
    | (go_at_call 144; ((with_reducible refine (rlead_int _ (Tr.mk 22 x ls [a]) ⟨22, x, vla, ls.length, vlc, some ⟨xb, xo, none⟩, 1, vkc⟩ 1 1 rfl _ HS3.out.tree (by decide)).mono ?_); rintro e w4 ⟨rfl, hb⟩; have HS4 := Lib.hid (HS3.out.below hb); clear k0 k1 k2 k3; have k0 : w4.cell? ⟨w.heap.size, 0, none⟩ = some (.int .i64 22) := HS4.out.cells.1; have k1 : w4.cell? ⟨w.heap.size, 1, none⟩ = some (.string x) := HS4.out.cells.2.1; have k2 : w4.cell? ⟨w.heap.size, 2, none⟩ = some (.slice vla ls.length vlc) := HS4.out.cells.2.2.1; have k3 : w4.cell? ⟨w.heap.size, 3, none⟩ = some (.slice (some ⟨xb, xo, none⟩) 1 vkc) := HS4.out.cells.2.2.2; have hkb : ∀ k, k < B → w4.heap[k]? = (w3).heap[k]? := fun k hk => hb.block k (Nat.lt_of_lt_of_le hk HS3.out.le); have d0 : w4.cell? ⟨xb, xo, none⟩ = some (.int .i64 ua.kind) := (World.cell?_of_block (w := w3) (a := ⟨xb, xo, none⟩) (hkb xb HXB.out)).trans c0; have d1 : w4.cell? ⟨xb, xo + 1, none⟩ = some (.string ua.text) := (World.cell?_of_block (w := w3) (a := ⟨xb, xo + 1, none⟩) (hkb xb HXB.out)).trans c1; have d2 : w4.cell? ⟨xb, xo + 2, none⟩ = some (.slice ua.la ua.ll ua.lc) := (World.cell?_of_block (w := w3) (a := ⟨xb, xo + 2, none⟩) (hkb xb HXB.out)).trans c2; have d3 : w4.cell? ⟨xb, xo + 3, none⟩ = some (.slice ua.ka ua.kl ua.kc) := (World.cell?_of_block (w := w3) (a := ⟨xb, xo + 3, none⟩) (hkb xb HXB.out)).trans c3; have HU2 := Lib.hid (TrAt.move (w := w3) (w' := w4) (S' := fun k => k < B) (fun _ h => h) (fun k hk _ => hkb k hk) _ _ HU1.out); clear c0 c1 c2 c3 hkb; have c0 := d0; have c1 := d1; have c2 := d2; have c3 := d3; clear d0 d1 d2 d3; clear hb))
    | (refine step_append_lies _ (by rfl) _ _ _ (by rfl) B 91 ip _ 2 32 Tryz.underlying88 hip pz0 pz1 pz2 rfl (by decide) _ n3 (pcCells (ps ++ [(ldR ls 0, (⟨#[40]⟩ : ByteArray))] ++ pieces a)) (by rfl) ((HS4.out.alloc _).rowN HQ3.out) ⟨w4.heap.size, 0, none⟩ 1 1 (pcCells [(ldR ls 1, (⟨#[41]⟩ : ByteArray))]) (by rfl) (by rfl) (World.news_of_block (cs := #[.string (ldR ls 1), .string ⟨#[41]⟩]) (t := 91) (fr := (0, 0)) (heap_alloc_new w4 _)) (pcCells_one _) (by decide) (by unfold maxLen; have := HM3.out; omega) (by have := HM3.out; omega) (HS4.out.alloc _).le _ (by rfl) ?_; intro g cw5 w5 hown hgr hat hlt; have HS5 := Lib.hid ((HS4.out.alloc _).appN HQ3.out (qs := [(ldR ls 1, (⟨#[41]⟩ : ByteArray))]) rfl hown hgr hat (Nat.le_refl _)); clear k0 k1 k2 k3; have k0 : w5.cell? ⟨w.heap.size, 0, none⟩ = some (.int .i64 22) := HS5.out.cells.1; have k1 : w5.cell? ⟨w.heap.size, 1, none⟩ = some (.string x) := HS5.out.cells.2.1; have k2 : w5.cell? ⟨w.heap.size, 2, none⟩ = some (.slice vla ls.length vlc) := HS5.out.cells.2.2.1; have k3 : w5.cell? ⟨w.heap.size, 3, none⟩ = some (.slice (some ⟨xb, xo, none⟩) 1 vkc) := HS5.out.cells.2.2.2; have hkb : ∀ k, k < B → w5.heap[k]? = (w4).heap[k]? := fun k hk => ((HS4.out.alloc _).keepB hgr k hk).trans (Below.heap_alloc _ _ k (Nat.lt_of_lt_of_le hk HS4.out.le)); have d0 : w5.cell? ⟨xb, xo, none⟩ = some (.int .i64 ua.kind) := (World.cell?_of_block (w := w4) (a := ⟨xb, xo, none⟩) (hkb xb HXB.out)).trans c0; have d1 : w5.cell? ⟨xb, xo + 1, none⟩ = some (.string ua.text) := (World.cell?_of_block (w := w4) (a := ⟨xb, xo + 1, none⟩) (hkb xb HXB.out)).trans c1; have d2 : w5.cell? ⟨xb, xo + 2, none⟩ = some (.slice ua.la ua.ll ua.lc) := (World.cell?_of_block (w := w4) (a := ⟨xb, xo + 2, none⟩) (hkb xb HXB.out)).trans c2; have d3 : w5.cell? ⟨xb, xo + 3, none⟩ = some (.slice ua.ka ua.kl ua.kc) := (World.cell?_of_block (w := w4) (a := ⟨xb, xo + 3, none⟩) (hkb xb HXB.out)).trans c3; have HU3 := Lib.hid (TrAt.move (w := w4) (w' := w5) (S' := fun k => k < B) (fun _ h => h) (fun k hk _ => hkb k hk) _ _ HU2.out); clear c0 c1 c2 c3 hkb; have c0 := d0; have c1 := d1; have c2 := d2; have c3 := d3; clear d0 d1 d2 d3; clear hown hgr hat hlt)
    | fail)
  all_goals
    clear c0 c1 c2 c3
    go_wp2
    go_ret
    exact HS5.out.post (by rw [HEQ.out]; first | done | (simp only [List.append_assoc, List.cons_append, List.nil_append]; done) | (simp only [List.append_assoc, List.cons_append, List.nil_append]; rfl) | (simp; done)) rfl
set_option maxRecDepth 100000 in
set_option maxHeartbeats 4000000 in
theorem rpieces_17 {N : Nat} (ih : PcC N) (B : Nat) (l : Value) (ps : List Piece) (x : ByteArray) (ls : List ByteArray) (a : Tr) (vla vka : Option Addr) (vlc vkc : Nat) (w : World) (hN : SizeOf.sizeOf (Tr.mk 17 x ls [a]) ≤ N + 1) (ht : TrAt (fun k => k < B) w (Tr.mk 17 x ls [a]) ⟨17, x, vla, ls.length, vlc, vka, 1, vkc⟩)
    (hsa : shapedT a = true) (hz : sizeT (Tr.mk 17 x ls [a]) ≤ 1000) (hl : PRow w B l ps) (hB : B ≤ w.heap.size) (hb : ps.length + (pieces (Tr.mk 17 x ls [a])).length ≤ 1000000) :
    Calls Tryz.prog 111 #[l, .agg #[.int .i64 17, .string x, .slice vla ls.length vlc, .slice vka 1 vkc]] w (PcPost B ps (pieces (Tr.mk 17 x ls [a])) l w) := by
  obtain ⟨xb, xo, hka⟩ : ∃ b off, vka = some ⟨b, off, none⟩ := ht.addr.resolve_left (by show (1 : Nat) ≠ 0; decide)
  subst hka
  have HIH := Lib.hid ih
  have HBD := Lib.hid hb
  have HEQ := Lib.hid (pieces_17 x ls a)
  have HNa := Lib.hid (show SizeOf.sizeOf a ≤ N from by have := kid_sizeOf (t := Tr.mk 17 x ls [a]) (j := 0) (k := a) rfl; omega)
  have HZa := Lib.hid (show sizeT a ≤ 1000 from by have := size_kid (t := Tr.mk 17 x ls [a]) (j := 0) (k := a) rfl; omega)
  have HSHa := Lib.hid hsa
  have HXB := Lib.hid (show xb < B from by obtain ⟨_, b1, o1, hA, hS, _⟩ := ht.kid (j := 0) (k := a) rfl; injection hA with e1; injection e1 with e1 _ _; rw [e1]; exact hS)
  have HST := Lib.hid (PSt.start hl ht hB)
  obtain ⟨ip, hip, pz0, pz1, pz2⟩ := info_parts piece_info
  have HT17 := Lib.hid ht
  obtain ⟨ua, c0, c1, c2, c3, hu⟩ := ht.at rfl (show (Tr.mk 17 x ls [a]).kids[0]? = some a from rfl)
  replace c0 : w.cell? ⟨xb, xo, none⟩ = some (.int .i64 ua.kind) := c0
  replace c1 : w.cell? ⟨xb, xo + 1, none⟩ = some (.string ua.text) := c1
  replace c2 : w.cell? ⟨xb, xo + 2, none⟩ = some (.slice ua.la ua.ll ua.lc) := c2
  replace c3 : w.cell? ⟨xb, xo + 3, none⟩ = some (.slice ua.ka ua.kl ua.kc) := c3
  have HU := Lib.hid (hu.keep ((Below.refl _ _).alloc (Nat.le_refl _) (trO ⟨17, x, vla, ls.length, vlc, some ⟨xb, xo, none⟩, 1, vkc⟩)))
  have cbl := World.block_lt_of_cell? _ _ c0
  have HL1 := Lib.hid (show ps.length + (pieces a).length ≤ 1000000 from by rw [pieces_17] at hb; exact hb)
  clear hu
  clear ih hN ht hz hl hB hb hsa
  go_enter Tryz.func111, Tryz.ntmps111
  go_wp2_with (go_at_call 111; refine (HIH.out B _ ps a ua _ HNa.out HU.out HSHa.out HZa.out HST.out.row HST.out.le HL1.out).mono ?_; rintro e w1 ⟨l1, rfl, hr, hg, ho⟩; have HS1 := Lib.hid (HST.out.call hr hg ho); clear hr hg ho c0 c1 c2 c3)
  go_ret
  exact HS1.out.post (by rw [HEQ.out]; first | done | (simp only [List.append_assoc, List.cons_append, List.nil_append]; done) | (simp only [List.append_assoc, List.cons_append, List.nil_append]; rfl) | (simp; done)) rfl
set_option maxRecDepth 100000 in
set_option maxHeartbeats 4000000 in
theorem rpieces_16 {N : Nat} (ih : PcC N) (B : Nat) (l : Value) (ps : List Piece) (x : ByteArray) (ls : List ByteArray) (ks : List Tr) (vla vka : Option Addr) (vlc vkc : Nat) (w : World) (hN : SizeOf.sizeOf (Tr.mk 16 x ls ks) ≤ N + 1) (ht : TrAt (fun k => k < B) w (Tr.mk 16 x ls ks) ⟨16, x, vla, ls.length, vlc, vka, ks.length, vkc⟩)
    (hsh : ∀ (j : Nat) (k : Tr), ks[j]? = some k → shapedT k = true) (hz : sizeT (Tr.mk 16 x ls ks) ≤ 1000) (hl : PRow w B l ps) (hB : B ≤ w.heap.size) (hb : ps.length + (pieces (Tr.mk 16 x ls ks)).length ≤ 1000000) :
    Calls Tryz.prog 111 #[l, .agg #[.int .i64 16, .string x, .slice vla ls.length vlc, .slice vka ks.length vkc]] w (PcPost B ps (pieces (Tr.mk 16 x ls ks)) l w) := by
  have HIH := Lib.hid ih
  have HBD := Lib.hid hb
  have HEQ := Lib.hid (show pieces (Tr.mk 16 x ls ks) = [(ldR ls 0, x), (ldR ls 1, ⟨#[40]⟩)] ++ (rowP ls 3 (List.take ks.length ks) ++ [(ldR ls 2, ⟨#[41]⟩)]) from by rw [List.take_length]; exact pieces_16 x ls ks)
  have HSH := Lib.hid hsh
  have HNN := Lib.hid hN
  have HZZ := Lib.hid hz
  have HST := Lib.hid (PSt.start hl ht hB)
  obtain ⟨ip, hip, pz0, pz1, pz2⟩ := info_parts piece_info
  clear ih hN ht hz hl hB hb hsh
  go_enter Tryz.func111, Tryz.ntmps111
  go_wp2_with fail
  generalize hW0 : w.alloc (.cells #[.int .i64 16, .string x, .slice vla ls.length vlc, .slice vka ks.length vkc] 25) = W0 at ⊢
  have HS0 := Lib.hid (show PSt B l w (Tr.mk 16 x ls ks) ⟨16, x, vla, ls.length, vlc, vka, ks.length, vkc⟩ l ps W0 from hW0 ▸ HST.out)
  clear HST hW0
  have k0 : W0.cell? ⟨w.heap.size, 0, none⟩ = some (.int .i64 16) := HS0.out.cells.1
  have k1 : W0.cell? ⟨w.heap.size, 1, none⟩ = some (.string x) := HS0.out.cells.2.1
  have k2 : W0.cell? ⟨w.heap.size, 2, none⟩ = some (.slice vla ls.length vlc) := HS0.out.cells.2.2.1
  have k3 : W0.cell? ⟨w.heap.size, 3, none⟩ = some (.slice vka ks.length vkc) := HS0.out.cells.2.2.2
  obtain ⟨n1, hn1⟩ : ∃ n, (ps).length = n := ⟨_, rfl⟩
  have HQ1 := Lib.hid hn1
  clear hn1
  have HM1 := Lib.hid (show n1 + (2 + (rowP ls 3 (List.take ks.length ks)).length) ≤ 1000000 from by have h := HBD.out; rw [← HQ1.out]; rw [HEQ.out] at h; (try simp only [List.length_append, List.length_cons, List.length_nil] at h ⊢); omega)
  have HL1 := Lib.hid (show (ps).length + (2 + (rowP ls 3 (List.take ks.length ks)).length) ≤ 1000000 from by have h := HBD.out; rw [HEQ.out] at h; (try simp only [List.length_append, List.length_cons, List.length_nil] at h ⊢); omega)
  go_region_held3 (fun w' => w'.cell? ⟨w.heap.size, 0, none⟩ = some (.int .i64 16) ∧ w'.cell? ⟨w.heap.size, 1, none⟩ = some (.string x) ∧ w'.cell? ⟨w.heap.size, 2, none⟩ = some (.slice vla ls.length vlc) ∧ w'.cell? ⟨w.heap.size, 3, none⟩ = some (.slice vka ks.length vkc)) (first | with_reducible exact ⟨k0, k1, k2, k3⟩ | go_keep) (first
    | (go_at_call 144; ((with_reducible refine (rlead_int _ (Tr.mk 16 x ls ks) ⟨16, x, vla, ls.length, vlc, vka, ks.length, vkc⟩ 0 0 rfl _ HS0.out.drew.tree (by decide)).mono ?_); rintro e w1 ⟨rfl, hb⟩; have HS1 := Lib.hid (HS0.out.drew.below hb); clear k0 k1 k2 k3; have k0 : w1.cell? ⟨w.heap.size, 0, none⟩ = some (.int .i64 16) := HS1.out.cells.1; have k1 : w1.cell? ⟨w.heap.size, 1, none⟩ = some (.string x) := HS1.out.cells.2.1; have k2 : w1.cell? ⟨w.heap.size, 2, none⟩ = some (.slice vla ls.length vlc) := HS1.out.cells.2.2.1; have k3 : w1.cell? ⟨w.heap.size, 3, none⟩ = some (.slice vka ks.length vkc) := HS1.out.cells.2.2.2; clear hb))
    | (go_at_call 144; ((with_reducible refine (rlead_int _ (Tr.mk 16 x ls ks) ⟨16, x, vla, ls.length, vlc, vka, ks.length, vkc⟩ 1 1 rfl _ HS1.out.tree (by decide)).mono ?_); rintro e w2 ⟨rfl, hb⟩; have HS2 := Lib.hid (HS1.out.below hb); clear k0 k1 k2 k3; have k0 : w2.cell? ⟨w.heap.size, 0, none⟩ = some (.int .i64 16) := HS2.out.cells.1; have k1 : w2.cell? ⟨w.heap.size, 1, none⟩ = some (.string x) := HS2.out.cells.2.1; have k2 : w2.cell? ⟨w.heap.size, 2, none⟩ = some (.slice vla ls.length vlc) := HS2.out.cells.2.2.1; have k3 : w2.cell? ⟨w.heap.size, 3, none⟩ = some (.slice vka ks.length vkc) := HS2.out.cells.2.2.2; clear hb))
    | (refine step_append_lies _ (by rfl) _ _ _ (by rfl) B 91 ip _ 2 32 Tryz.underlying88 hip pz0 pz1 pz2 rfl (by decide) _ n1 (pcCells (ps)) (by rfl) ((HS2.out.alloc _).rowN HQ1.out) ⟨w2.heap.size, 0, none⟩ 2 2 (pcCells [(ldR ls 0, (x : ByteArray)), (ldR ls 1, (⟨#[40]⟩ : ByteArray))]) (by rfl) (by rfl) (World.news_of_block (cs := #[.string (ldR ls 0), .string x, .string (ldR ls 1), .string ⟨#[40]⟩]) (t := 91) (fr := (0, 0)) (heap_alloc_new w2 _)) (pcCells_one _) (by decide) (by unfold maxLen; have := HM1.out; omega) (by have := HM1.out; omega) (HS2.out.alloc _).le _ (by rfl) ?_; intro g cw3 w3 hown hgr hat hlt; have HS3 := Lib.hid ((HS2.out.alloc _).appN HQ1.out (qs := [(ldR ls 0, (x : ByteArray)), (ldR ls 1, (⟨#[40]⟩ : ByteArray))]) rfl hown hgr hat (Nat.le_refl _)); clear k0 k1 k2 k3; have k0 : w3.cell? ⟨w.heap.size, 0, none⟩ = some (.int .i64 16) := HS3.out.cells.1; have k1 : w3.cell? ⟨w.heap.size, 1, none⟩ = some (.string x) := HS3.out.cells.2.1; have k2 : w3.cell? ⟨w.heap.size, 2, none⟩ = some (.slice vla ls.length vlc) := HS3.out.cells.2.2.1; have k3 : w3.cell? ⟨w.heap.size, 3, none⟩ = some (.slice vka ks.length vkc) := HS3.out.cells.2.2.2; clear hown hgr hat hlt)
    | fail)
  all_goals
    go_wp2_with fail
    obtain ⟨n2, hn2⟩ : ∃ n, (ps ++ [(ldR ls 0, (x : ByteArray)), (ldR ls 1, (⟨#[40]⟩ : ByteArray))]).length = n := ⟨_, rfl⟩
    have HQ2 := Lib.hid hn2
    clear hn2
    have HM2 := Lib.hid (show n2 + (rowP ls 3 (List.take ks.length ks)).length ≤ 1000000 from by have h := HBD.out; rw [← HQ2.out]; rw [HEQ.out] at h; (try simp only [List.length_append, List.length_cons, List.length_nil] at h ⊢); omega)
    have HL2 := Lib.hid (show (ps ++ [(ldR ls 0, (x : ByteArray)), (ldR ls 1, (⟨#[40]⟩ : ByteArray))]).length + (rowP ls 3 (List.take ks.length ks)).length ≤ 1000000 from by have h := HBD.out; rw [HEQ.out] at h; (try simp only [List.length_append, List.length_cons, List.length_nil] at h ⊢); omega)
    obtain ⟨n3, hn3⟩ : ∃ n, (ps ++ [(ldR ls 0, (x : ByteArray)), (ldR ls 1, (⟨#[40]⟩ : ByteArray))] ++ rowP ls 3 (List.take ks.length ks)).length = n := ⟨_, rfl⟩
    have HQ3 := Lib.hid hn3
    clear hn3
    have HM3 := Lib.hid (show n3 + 1 ≤ 1000000 from by have h := HBD.out; rw [← HQ3.out]; rw [HEQ.out] at h; (try simp only [List.length_append, List.length_cons, List.length_nil] at h ⊢); omega)
    have HL3 := Lib.hid (show (ps ++ [(ldR ls 0, (x : ByteArray)), (ldR ls 1, (⟨#[40]⟩ : ByteArray))] ++ rowP ls 3 (List.take ks.length ks)).length + 1 ≤ 1000000 from by have h := HBD.out; rw [HEQ.out] at h; (try simp only [List.length_append, List.length_cons, List.length_nil] at h ⊢); omega)
    go_region_held3 (fun w' => w'.cell? ⟨w.heap.size, 0, none⟩ = some (.int .i64 16) ∧ w'.cell? ⟨w.heap.size, 1, none⟩ = some (.string x) ∧ w'.cell? ⟨w.heap.size, 2, none⟩ = some (.slice vla ls.length vlc) ∧ w'.cell? ⟨w.heap.size, 3, none⟩ = some (.slice vka ks.length vkc)) (first | with_reducible exact ⟨k0, k1, k2, k3⟩ | go_keep) (first
      | (go_at_call 145; refine (rrow_any HIH.out B _ (ps ++ [(ldR ls 0, (x : ByteArray)), (ldR ls 1, (⟨#[40]⟩ : ByteArray))]) (Tr.mk 16 x ls ks) ⟨16, x, vla, ls.length, vlc, vka, ks.length, vkc⟩ ks.length 3 _ HNN.out HS3.out.drew.tree HZZ.out (Nat.le_refl _) (by decide) HSH.out HS3.out.drew.row HS3.out.drew.le HL2.out).mono ?_; rintro e w4 ⟨lw4, rfl, hr, hg, ho⟩; have HS4 := Lib.hid (HS3.out.drew.call hr hg ho); clear hr hg ho k0 k1 k2 k3; have k0 : w4.cell? ⟨w.heap.size, 0, none⟩ = some (.int .i64 16) := HS4.out.cells.1; have k1 : w4.cell? ⟨w.heap.size, 1, none⟩ = some (.string x) := HS4.out.cells.2.1; have k2 : w4.cell? ⟨w.heap.size, 2, none⟩ = some (.slice vla ls.length vlc) := HS4.out.cells.2.2.1; have k3 : w4.cell? ⟨w.heap.size, 3, none⟩ = some (.slice vka ks.length vkc) := HS4.out.cells.2.2.2)
      | (go_at_call 144; ((with_reducible refine (rlead_int _ (Tr.mk 16 x ls ks) ⟨16, x, vla, ls.length, vlc, vka, ks.length, vkc⟩ 2 2 rfl _ HS4.out.tree (by decide)).mono ?_); rintro e w5 ⟨rfl, hb⟩; have HS5 := Lib.hid (HS4.out.below hb); clear k0 k1 k2 k3; have k0 : w5.cell? ⟨w.heap.size, 0, none⟩ = some (.int .i64 16) := HS5.out.cells.1; have k1 : w5.cell? ⟨w.heap.size, 1, none⟩ = some (.string x) := HS5.out.cells.2.1; have k2 : w5.cell? ⟨w.heap.size, 2, none⟩ = some (.slice vla ls.length vlc) := HS5.out.cells.2.2.1; have k3 : w5.cell? ⟨w.heap.size, 3, none⟩ = some (.slice vka ks.length vkc) := HS5.out.cells.2.2.2; clear hb))
      | (refine step_append_lies _ (by rfl) _ _ _ (by rfl) B 91 ip _ 2 32 Tryz.underlying88 hip pz0 pz1 pz2 rfl (by decide) _ n3 (pcCells (ps ++ [(ldR ls 0, (x : ByteArray)), (ldR ls 1, (⟨#[40]⟩ : ByteArray))] ++ rowP ls 3 (List.take ks.length ks))) (by rfl) ((HS5.out.alloc _).rowN HQ3.out) ⟨w5.heap.size, 0, none⟩ 1 1 (pcCells [(ldR ls 2, (⟨#[41]⟩ : ByteArray))]) (by rfl) (by rfl) (World.news_of_block (cs := #[.string (ldR ls 2), .string ⟨#[41]⟩]) (t := 91) (fr := (0, 0)) (heap_alloc_new w5 _)) (pcCells_one _) (by decide) (by unfold maxLen; have := HM3.out; omega) (by have := HM3.out; omega) (HS5.out.alloc _).le _ (by rfl) ?_; intro g cw6 w6 hown hgr hat hlt; have HS6 := Lib.hid ((HS5.out.alloc _).appN HQ3.out (qs := [(ldR ls 2, (⟨#[41]⟩ : ByteArray))]) rfl hown hgr hat (Nat.le_refl _)); clear k0 k1 k2 k3; have k0 : w6.cell? ⟨w.heap.size, 0, none⟩ = some (.int .i64 16) := HS6.out.cells.1; have k1 : w6.cell? ⟨w.heap.size, 1, none⟩ = some (.string x) := HS6.out.cells.2.1; have k2 : w6.cell? ⟨w.heap.size, 2, none⟩ = some (.slice vla ls.length vlc) := HS6.out.cells.2.2.1; have k3 : w6.cell? ⟨w.heap.size, 3, none⟩ = some (.slice vka ks.length vkc) := HS6.out.cells.2.2.2; clear hown hgr hat hlt)
      | fail)
    all_goals
      go_wp2
      go_ret
      exact HS6.out.post (by rw [HEQ.out]; first | done | (simp only [List.append_assoc, List.cons_append, List.nil_append]; done) | (simp only [List.append_assoc, List.cons_append, List.nil_append]; rfl) | (simp; done)) rfl
set_option maxRecDepth 100000 in
set_option maxHeartbeats 4000000 in
theorem rpieces_18 {N : Nat} (ih : PcC N) (B : Nat) (l : Value) (ps : List Piece) (x : ByteArray) (ls : List ByteArray) (ks : List Tr) (vla vka : Option Addr) (vlc vkc : Nat) (w : World) (hN : SizeOf.sizeOf (Tr.mk 18 x ls ks) ≤ N + 1) (ht : TrAt (fun k => k < B) w (Tr.mk 18 x ls ks) ⟨18, x, vla, ls.length, vlc, vka, ks.length, vkc⟩)
    (hsh : ∀ (j : Nat) (k : Tr), ks[j]? = some k → shapedT k = true) (hz : sizeT (Tr.mk 18 x ls ks) ≤ 1000) (hl : PRow w B l ps) (hB : B ≤ w.heap.size) (hb : ps.length + (pieces (Tr.mk 18 x ls ks)).length ≤ 1000000) :
    Calls Tryz.prog 111 #[l, .agg #[.int .i64 18, .string x, .slice vla ls.length vlc, .slice vka ks.length vkc]] w (PcPost B ps (pieces (Tr.mk 18 x ls ks)) l w) := by
  have HIH := Lib.hid ih
  have HBD := Lib.hid hb
  have HEQ := Lib.hid (show pieces (Tr.mk 18 x ls ks) = [(ldR ls 0, ⟨#[91]⟩)] ++ (rowP ls 2 (List.take ks.length ks) ++ [(ldR ls 1, ⟨#[93]⟩)]) from by rw [List.take_length]; exact pieces_18 x ls ks)
  have HSH := Lib.hid hsh
  have HNN := Lib.hid hN
  have HZZ := Lib.hid hz
  have HST := Lib.hid (PSt.start hl ht hB)
  obtain ⟨ip, hip, pz0, pz1, pz2⟩ := info_parts piece_info
  clear ih hN ht hz hl hB hb hsh
  go_enter Tryz.func111, Tryz.ntmps111
  go_wp2_with fail
  generalize hW0 : w.alloc (.cells #[.int .i64 18, .string x, .slice vla ls.length vlc, .slice vka ks.length vkc] 25) = W0 at ⊢
  have HS0 := Lib.hid (show PSt B l w (Tr.mk 18 x ls ks) ⟨18, x, vla, ls.length, vlc, vka, ks.length, vkc⟩ l ps W0 from hW0 ▸ HST.out)
  clear HST hW0
  have k0 : W0.cell? ⟨w.heap.size, 0, none⟩ = some (.int .i64 18) := HS0.out.cells.1
  have k1 : W0.cell? ⟨w.heap.size, 1, none⟩ = some (.string x) := HS0.out.cells.2.1
  have k2 : W0.cell? ⟨w.heap.size, 2, none⟩ = some (.slice vla ls.length vlc) := HS0.out.cells.2.2.1
  have k3 : W0.cell? ⟨w.heap.size, 3, none⟩ = some (.slice vka ks.length vkc) := HS0.out.cells.2.2.2
  obtain ⟨n1, hn1⟩ : ∃ n, (ps).length = n := ⟨_, rfl⟩
  have HQ1 := Lib.hid hn1
  clear hn1
  have HM1 := Lib.hid (show n1 + 1 ≤ 1000000 from by have h := HBD.out; rw [← HQ1.out]; rw [HEQ.out] at h; (try simp only [List.length_append, List.length_cons, List.length_nil] at h ⊢); omega)
  have HL1 := Lib.hid (show (ps).length + 1 ≤ 1000000 from by have h := HBD.out; rw [HEQ.out] at h; (try simp only [List.length_append, List.length_cons, List.length_nil] at h ⊢); omega)
  go_wp2_with (first
    | (go_at_call 144; ((with_reducible refine (rlead_int _ (Tr.mk 18 x ls ks) ⟨18, x, vla, ls.length, vlc, vka, ks.length, vkc⟩ 0 0 rfl _ HS0.out.tree (by decide)).mono ?_); rintro e w1 ⟨rfl, hb⟩; have HS1 := Lib.hid (HS0.out.below hb); clear k0 k1 k2 k3; have k0 : w1.cell? ⟨w.heap.size, 0, none⟩ = some (.int .i64 18) := HS1.out.cells.1; have k1 : w1.cell? ⟨w.heap.size, 1, none⟩ = some (.string x) := HS1.out.cells.2.1; have k2 : w1.cell? ⟨w.heap.size, 2, none⟩ = some (.slice vla ls.length vlc) := HS1.out.cells.2.2.1; have k3 : w1.cell? ⟨w.heap.size, 3, none⟩ = some (.slice vka ks.length vkc) := HS1.out.cells.2.2.2; clear hb))
    | (at_builtin; refine wpList_append_lies _ (by rfl) _ _ 88 (by rfl) B 91 ip _ 2 32 Tryz.underlying88 hip pz0 pz1 pz2 rfl (by decide) _ n1 (pcCells (ps)) (by rfl) ((HS1.out.alloc _).rowN HQ1.out) ⟨w1.heap.size, 0, none⟩ 1 1 (pcCells [(ldR ls 0, (⟨#[91]⟩ : ByteArray))]) (by rfl) (by rfl) (World.news_of_block (cs := #[.string (ldR ls 0), .string ⟨#[91]⟩]) (t := 91) (fr := (0, 0)) (heap_alloc_new w1 _)) (pcCells_one _) (by decide) (by unfold maxLen; have := HM1.out; omega) (by have := HM1.out; omega) (HS1.out.alloc _).le _ (by rfl) ?_; intro g cw2 w2 hown hgr hat hlt; have HS2 := Lib.hid ((HS1.out.alloc _).appN HQ1.out (qs := [(ldR ls 0, (⟨#[91]⟩ : ByteArray))]) rfl hown hgr hat (Nat.le_refl _)); clear k0 k1 k2 k3; have k0 : w2.cell? ⟨w.heap.size, 0, none⟩ = some (.int .i64 18) := HS2.out.cells.1; have k1 : w2.cell? ⟨w.heap.size, 1, none⟩ = some (.string x) := HS2.out.cells.2.1; have k2 : w2.cell? ⟨w.heap.size, 2, none⟩ = some (.slice vla ls.length vlc) := HS2.out.cells.2.2.1; have k3 : w2.cell? ⟨w.heap.size, 3, none⟩ = some (.slice vka ks.length vkc) := HS2.out.cells.2.2.2; clear hown hgr hat hlt))
  obtain ⟨n2, hn2⟩ : ∃ n, (ps ++ [(ldR ls 0, (⟨#[91]⟩ : ByteArray))]).length = n := ⟨_, rfl⟩
  have HQ2 := Lib.hid hn2
  clear hn2
  have HM2 := Lib.hid (show n2 + (rowP ls 2 (List.take ks.length ks)).length ≤ 1000000 from by have h := HBD.out; rw [← HQ2.out]; rw [HEQ.out] at h; (try simp only [List.length_append, List.length_cons, List.length_nil] at h ⊢); omega)
  have HL2 := Lib.hid (show (ps ++ [(ldR ls 0, (⟨#[91]⟩ : ByteArray))]).length + (rowP ls 2 (List.take ks.length ks)).length ≤ 1000000 from by have h := HBD.out; rw [HEQ.out] at h; (try simp only [List.length_append, List.length_cons, List.length_nil] at h ⊢); omega)
  obtain ⟨n3, hn3⟩ : ∃ n, (ps ++ [(ldR ls 0, (⟨#[91]⟩ : ByteArray))] ++ rowP ls 2 (List.take ks.length ks)).length = n := ⟨_, rfl⟩
  have HQ3 := Lib.hid hn3
  clear hn3
  have HM3 := Lib.hid (show n3 + 1 ≤ 1000000 from by have h := HBD.out; rw [← HQ3.out]; rw [HEQ.out] at h; (try simp only [List.length_append, List.length_cons, List.length_nil] at h ⊢); omega)
  have HL3 := Lib.hid (show (ps ++ [(ldR ls 0, (⟨#[91]⟩ : ByteArray))] ++ rowP ls 2 (List.take ks.length ks)).length + 1 ≤ 1000000 from by have h := HBD.out; rw [HEQ.out] at h; (try simp only [List.length_append, List.length_cons, List.length_nil] at h ⊢); omega)
  go_region_held3 (fun w' => w'.cell? ⟨w.heap.size, 0, none⟩ = some (.int .i64 18) ∧ w'.cell? ⟨w.heap.size, 1, none⟩ = some (.string x) ∧ w'.cell? ⟨w.heap.size, 2, none⟩ = some (.slice vla ls.length vlc) ∧ w'.cell? ⟨w.heap.size, 3, none⟩ = some (.slice vka ks.length vkc)) (first | with_reducible exact ⟨k0, k1, k2, k3⟩ | go_keep) (first
    | (go_at_call 145; refine (rrow_any HIH.out B _ (ps ++ [(ldR ls 0, (⟨#[91]⟩ : ByteArray))]) (Tr.mk 18 x ls ks) ⟨18, x, vla, ls.length, vlc, vka, ks.length, vkc⟩ ks.length 2 _ HNN.out HS2.out.drew.tree HZZ.out (Nat.le_refl _) (by decide) HSH.out HS2.out.drew.row HS2.out.drew.le HL2.out).mono ?_; rintro e w3 ⟨lw3, rfl, hr, hg, ho⟩; have HS3 := Lib.hid (HS2.out.drew.call hr hg ho); clear hr hg ho k0 k1 k2 k3; have k0 : w3.cell? ⟨w.heap.size, 0, none⟩ = some (.int .i64 18) := HS3.out.cells.1; have k1 : w3.cell? ⟨w.heap.size, 1, none⟩ = some (.string x) := HS3.out.cells.2.1; have k2 : w3.cell? ⟨w.heap.size, 2, none⟩ = some (.slice vla ls.length vlc) := HS3.out.cells.2.2.1; have k3 : w3.cell? ⟨w.heap.size, 3, none⟩ = some (.slice vka ks.length vkc) := HS3.out.cells.2.2.2)
    | (go_at_call 144; ((with_reducible refine (rlead_int _ (Tr.mk 18 x ls ks) ⟨18, x, vla, ls.length, vlc, vka, ks.length, vkc⟩ 1 1 rfl _ HS3.out.tree (by decide)).mono ?_); rintro e w4 ⟨rfl, hb⟩; have HS4 := Lib.hid (HS3.out.below hb); clear k0 k1 k2 k3; have k0 : w4.cell? ⟨w.heap.size, 0, none⟩ = some (.int .i64 18) := HS4.out.cells.1; have k1 : w4.cell? ⟨w.heap.size, 1, none⟩ = some (.string x) := HS4.out.cells.2.1; have k2 : w4.cell? ⟨w.heap.size, 2, none⟩ = some (.slice vla ls.length vlc) := HS4.out.cells.2.2.1; have k3 : w4.cell? ⟨w.heap.size, 3, none⟩ = some (.slice vka ks.length vkc) := HS4.out.cells.2.2.2; clear hb))
    | (refine step_append_lies _ (by rfl) _ _ _ (by rfl) B 91 ip _ 2 32 Tryz.underlying88 hip pz0 pz1 pz2 rfl (by decide) _ n3 (pcCells (ps ++ [(ldR ls 0, (⟨#[91]⟩ : ByteArray))] ++ rowP ls 2 (List.take ks.length ks))) (by rfl) ((HS4.out.alloc _).rowN HQ3.out) ⟨w4.heap.size, 0, none⟩ 1 1 (pcCells [(ldR ls 1, (⟨#[93]⟩ : ByteArray))]) (by rfl) (by rfl) (World.news_of_block (cs := #[.string (ldR ls 1), .string ⟨#[93]⟩]) (t := 91) (fr := (0, 0)) (heap_alloc_new w4 _)) (pcCells_one _) (by decide) (by unfold maxLen; have := HM3.out; omega) (by have := HM3.out; omega) (HS4.out.alloc _).le _ (by rfl) ?_; intro g cw5 w5 hown hgr hat hlt; have HS5 := Lib.hid ((HS4.out.alloc _).appN HQ3.out (qs := [(ldR ls 1, (⟨#[93]⟩ : ByteArray))]) rfl hown hgr hat (Nat.le_refl _)); clear k0 k1 k2 k3; have k0 : w5.cell? ⟨w.heap.size, 0, none⟩ = some (.int .i64 18) := HS5.out.cells.1; have k1 : w5.cell? ⟨w.heap.size, 1, none⟩ = some (.string x) := HS5.out.cells.2.1; have k2 : w5.cell? ⟨w.heap.size, 2, none⟩ = some (.slice vla ls.length vlc) := HS5.out.cells.2.2.1; have k3 : w5.cell? ⟨w.heap.size, 3, none⟩ = some (.slice vka ks.length vkc) := HS5.out.cells.2.2.2; clear hown hgr hat hlt)
    | fail)
  all_goals
    go_wp2
    go_ret
    exact HS5.out.post (by rw [HEQ.out]; first | done | (simp only [List.append_assoc, List.cons_append, List.nil_append]; done) | (simp only [List.append_assoc, List.cons_append, List.nil_append]; rfl) | (simp; done)) rfl
end Go.Proofs.YtpdmklbfbpdneaaGreat
