/- The walks of the reference's pieces at the kinds 5, 6, 7, 13, 14, 15, 9, 10, 11, 12. Conditions: at most 1000 nodes, few tokens. -/
import Derived.Test.YtpdmklbfbpdneaaGreatSynRRow
import Derived.IntWalk
namespace Go.Proofs.YtpdmklbfbpdneaaGreat
open Go.RowKit
set_option maxRecDepth 100000 in
set_option maxHeartbeats 4000000 in
theorem rpieces_5 {N : Nat} (ih : PcC N) (B : Nat) (l : Value) (ps : List Piece) (x : ByteArray) (ls : List ByteArray) (vla vka : Option Addr) (vlc vkc : Nat) (w : World) (_hN : SizeOf.sizeOf (Tr.mk 5 x ls []) ≤ N + 1) (ht : TrAt (fun k => k < B) w (Tr.mk 5 x ls []) ⟨5, x, vla, ls.length, vlc, vka, 0, vkc⟩)
    (_hz : sizeT (Tr.mk 5 x ls []) ≤ 1000) (hl : PRow w B l ps) (hB : B ≤ w.heap.size) (hb : ps.length + (pieces (Tr.mk 5 x ls [])).length ≤ 1000000) :
    Calls Tryz.prog 111 #[l, .agg #[.int .i64 5, .string x, .slice vla ls.length vlc, .slice vka 0 vkc]] w (PcPost B ps (pieces (Tr.mk 5 x ls [])) l w) := by
  have HIH := Lib.hid ih
  have HBD := Lib.hid hb
  have HEQ := Lib.hid (pieces_leaf x ls 5 ⟨#[73, 110, 116]⟩ rfl)
  have HST := Lib.hid (PSt.start hl ht hB)
  obtain ⟨ip, hip, pz0, pz1, pz2⟩ := info_parts piece_info
  clear ih ht hl hB hb 
  go_enter Tryz.func111, Tryz.ntmps111
  go_wp2_with fail
  generalize hW0 : w.alloc (.cells #[.int .i64 5, .string x, .slice vla ls.length vlc, .slice vka 0 vkc] 25) = W0 at ⊢
  have HS0 := Lib.hid (show PSt B l w (Tr.mk 5 x ls []) ⟨5, x, vla, ls.length, vlc, vka, 0, vkc⟩ l ps W0 from hW0 ▸ HST.out)
  clear HST hW0
  have k0 : W0.cell? ⟨w.heap.size, 0, none⟩ = some (.int .i64 5) := HS0.out.cells.1
  have k1 : W0.cell? ⟨w.heap.size, 1, none⟩ = some (.string x) := HS0.out.cells.2.1
  have k2 : W0.cell? ⟨w.heap.size, 2, none⟩ = some (.slice vla ls.length vlc) := HS0.out.cells.2.2.1
  have k3 : W0.cell? ⟨w.heap.size, 3, none⟩ = some (.slice vka 0 vkc) := HS0.out.cells.2.2.2
  obtain ⟨n1, hn1⟩ : ∃ n, (ps).length = n := ⟨_, rfl⟩
  have HQ1 := Lib.hid hn1
  clear hn1
  have HM1 := Lib.hid (show n1 + 1 ≤ 1000000 from by have h := HBD.out; rw [← HQ1.out]; rw [HEQ.out] at h; (try simp only [List.length_cons, List.length_nil] at h ⊢); omega)
  have HL1 := Lib.hid (show (ps).length + 1 ≤ 1000000 from by have h := HBD.out; rw [HEQ.out] at h; (try simp only [List.length_cons, List.length_nil] at h ⊢); omega)
  go_wp2_with (first
    | (go_at_call 144; ((with_reducible refine (rlead_int _ (Tr.mk 5 x ls []) ⟨5, x, vla, ls.length, vlc, vka, 0, vkc⟩ 0 0 rfl _ HS0.out.tree (by decide)).mono ?_); rintro e w1 ⟨rfl, hb⟩; have HS1 := Lib.hid (HS0.out.below hb); clear k0 k1 k2 k3; have k0 : w1.cell? ⟨w.heap.size, 0, none⟩ = some (.int .i64 5) := HS1.out.cells.1; have k1 : w1.cell? ⟨w.heap.size, 1, none⟩ = some (.string x) := HS1.out.cells.2.1; have k2 : w1.cell? ⟨w.heap.size, 2, none⟩ = some (.slice vla ls.length vlc) := HS1.out.cells.2.2.1; have k3 : w1.cell? ⟨w.heap.size, 3, none⟩ = some (.slice vka 0 vkc) := HS1.out.cells.2.2.2; clear hb))
    | (at_builtin; refine wpList_append_lies _ (by rfl) _ _ 88 (by rfl) B 91 ip _ 2 32 Tryz.underlying88 hip pz0 pz1 pz2 rfl (by decide) _ n1 (pcCells (ps)) (by rfl) ((HS1.out.alloc _).rowN HQ1.out) ⟨w1.heap.size, 0, none⟩ 1 1 (pcCells [(ldR ls 0, (⟨#[73, 110, 116]⟩ : ByteArray))]) (by rfl) (by rfl) (World.news_of_block (cs := #[.string (ldR ls 0), .string ⟨#[73, 110, 116]⟩]) (t := 91) (fr := (0, 0)) (heap_alloc_new w1 _)) (pcCells_one _) (by decide) (by unfold maxLen; have := HM1.out; omega) (by have := HM1.out; omega) (HS1.out.alloc _).le _ (by rfl) ?_; intro g cw2 w2 hown hgr hat hlt; have HS2 := Lib.hid ((HS1.out.alloc _).appN HQ1.out (qs := [(ldR ls 0, (⟨#[73, 110, 116]⟩ : ByteArray))]) rfl hown hgr hat (Nat.le_refl _)); clear k0 k1 k2 k3; have k0 : w2.cell? ⟨w.heap.size, 0, none⟩ = some (.int .i64 5) := HS2.out.cells.1; have k1 : w2.cell? ⟨w.heap.size, 1, none⟩ = some (.string x) := HS2.out.cells.2.1; have k2 : w2.cell? ⟨w.heap.size, 2, none⟩ = some (.slice vla ls.length vlc) := HS2.out.cells.2.2.1; have k3 : w2.cell? ⟨w.heap.size, 3, none⟩ = some (.slice vka 0 vkc) := HS2.out.cells.2.2.2; clear hown hgr hat hlt))
  go_ret
  exact HS2.out.post (by rw [HEQ.out]; first | done | (simp only [List.append_assoc, List.cons_append, List.nil_append]; done) | (simp only [List.append_assoc, List.cons_append, List.nil_append]; rfl) | (simp; done)) rfl
set_option maxRecDepth 100000 in
set_option maxHeartbeats 4000000 in
theorem rpieces_6 {N : Nat} (ih : PcC N) (B : Nat) (l : Value) (ps : List Piece) (x : ByteArray) (ls : List ByteArray) (vla vka : Option Addr) (vlc vkc : Nat) (w : World) (_hN : SizeOf.sizeOf (Tr.mk 6 x ls []) ≤ N + 1) (ht : TrAt (fun k => k < B) w (Tr.mk 6 x ls []) ⟨6, x, vla, ls.length, vlc, vka, 0, vkc⟩)
    (_hz : sizeT (Tr.mk 6 x ls []) ≤ 1000) (hl : PRow w B l ps) (hB : B ≤ w.heap.size) (hb : ps.length + (pieces (Tr.mk 6 x ls [])).length ≤ 1000000) :
    Calls Tryz.prog 111 #[l, .agg #[.int .i64 6, .string x, .slice vla ls.length vlc, .slice vka 0 vkc]] w (PcPost B ps (pieces (Tr.mk 6 x ls [])) l w) := by
  have HIH := Lib.hid ih
  have HBD := Lib.hid hb
  have HEQ := Lib.hid (pieces_leaf x ls 6 ⟨#[84, 101, 120, 116]⟩ rfl)
  have HST := Lib.hid (PSt.start hl ht hB)
  obtain ⟨ip, hip, pz0, pz1, pz2⟩ := info_parts piece_info
  clear ih ht hl hB hb 
  go_enter Tryz.func111, Tryz.ntmps111
  go_wp2_with fail
  generalize hW0 : w.alloc (.cells #[.int .i64 6, .string x, .slice vla ls.length vlc, .slice vka 0 vkc] 25) = W0 at ⊢
  have HS0 := Lib.hid (show PSt B l w (Tr.mk 6 x ls []) ⟨6, x, vla, ls.length, vlc, vka, 0, vkc⟩ l ps W0 from hW0 ▸ HST.out)
  clear HST hW0
  have k0 : W0.cell? ⟨w.heap.size, 0, none⟩ = some (.int .i64 6) := HS0.out.cells.1
  have k1 : W0.cell? ⟨w.heap.size, 1, none⟩ = some (.string x) := HS0.out.cells.2.1
  have k2 : W0.cell? ⟨w.heap.size, 2, none⟩ = some (.slice vla ls.length vlc) := HS0.out.cells.2.2.1
  have k3 : W0.cell? ⟨w.heap.size, 3, none⟩ = some (.slice vka 0 vkc) := HS0.out.cells.2.2.2
  obtain ⟨n1, hn1⟩ : ∃ n, (ps).length = n := ⟨_, rfl⟩
  have HQ1 := Lib.hid hn1
  clear hn1
  have HM1 := Lib.hid (show n1 + 1 ≤ 1000000 from by have h := HBD.out; rw [← HQ1.out]; rw [HEQ.out] at h; (try simp only [List.length_cons, List.length_nil] at h ⊢); omega)
  have HL1 := Lib.hid (show (ps).length + 1 ≤ 1000000 from by have h := HBD.out; rw [HEQ.out] at h; (try simp only [List.length_cons, List.length_nil] at h ⊢); omega)
  go_wp2_with (first
    | (go_at_call 144; ((with_reducible refine (rlead_int _ (Tr.mk 6 x ls []) ⟨6, x, vla, ls.length, vlc, vka, 0, vkc⟩ 0 0 rfl _ HS0.out.tree (by decide)).mono ?_); rintro e w1 ⟨rfl, hb⟩; have HS1 := Lib.hid (HS0.out.below hb); clear k0 k1 k2 k3; have k0 : w1.cell? ⟨w.heap.size, 0, none⟩ = some (.int .i64 6) := HS1.out.cells.1; have k1 : w1.cell? ⟨w.heap.size, 1, none⟩ = some (.string x) := HS1.out.cells.2.1; have k2 : w1.cell? ⟨w.heap.size, 2, none⟩ = some (.slice vla ls.length vlc) := HS1.out.cells.2.2.1; have k3 : w1.cell? ⟨w.heap.size, 3, none⟩ = some (.slice vka 0 vkc) := HS1.out.cells.2.2.2; clear hb))
    | (at_builtin; refine wpList_append_lies _ (by rfl) _ _ 88 (by rfl) B 91 ip _ 2 32 Tryz.underlying88 hip pz0 pz1 pz2 rfl (by decide) _ n1 (pcCells (ps)) (by rfl) ((HS1.out.alloc _).rowN HQ1.out) ⟨w1.heap.size, 0, none⟩ 1 1 (pcCells [(ldR ls 0, (⟨#[84, 101, 120, 116]⟩ : ByteArray))]) (by rfl) (by rfl) (World.news_of_block (cs := #[.string (ldR ls 0), .string ⟨#[84, 101, 120, 116]⟩]) (t := 91) (fr := (0, 0)) (heap_alloc_new w1 _)) (pcCells_one _) (by decide) (by unfold maxLen; have := HM1.out; omega) (by have := HM1.out; omega) (HS1.out.alloc _).le _ (by rfl) ?_; intro g cw2 w2 hown hgr hat hlt; have HS2 := Lib.hid ((HS1.out.alloc _).appN HQ1.out (qs := [(ldR ls 0, (⟨#[84, 101, 120, 116]⟩ : ByteArray))]) rfl hown hgr hat (Nat.le_refl _)); clear k0 k1 k2 k3; have k0 : w2.cell? ⟨w.heap.size, 0, none⟩ = some (.int .i64 6) := HS2.out.cells.1; have k1 : w2.cell? ⟨w.heap.size, 1, none⟩ = some (.string x) := HS2.out.cells.2.1; have k2 : w2.cell? ⟨w.heap.size, 2, none⟩ = some (.slice vla ls.length vlc) := HS2.out.cells.2.2.1; have k3 : w2.cell? ⟨w.heap.size, 3, none⟩ = some (.slice vka 0 vkc) := HS2.out.cells.2.2.2; clear hown hgr hat hlt))
  go_ret
  exact HS2.out.post (by rw [HEQ.out]; first | done | (simp only [List.append_assoc, List.cons_append, List.nil_append]; done) | (simp only [List.append_assoc, List.cons_append, List.nil_append]; rfl) | (simp; done)) rfl
set_option maxRecDepth 100000 in
set_option maxHeartbeats 4000000 in
theorem rpieces_7 {N : Nat} (ih : PcC N) (B : Nat) (l : Value) (ps : List Piece) (x : ByteArray) (ls : List ByteArray) (vla vka : Option Addr) (vlc vkc : Nat) (w : World) (_hN : SizeOf.sizeOf (Tr.mk 7 x ls []) ≤ N + 1) (ht : TrAt (fun k => k < B) w (Tr.mk 7 x ls []) ⟨7, x, vla, ls.length, vlc, vka, 0, vkc⟩)
    (_hz : sizeT (Tr.mk 7 x ls []) ≤ 1000) (hl : PRow w B l ps) (hB : B ≤ w.heap.size) (hb : ps.length + (pieces (Tr.mk 7 x ls [])).length ≤ 1000000) :
    Calls Tryz.prog 111 #[l, .agg #[.int .i64 7, .string x, .slice vla ls.length vlc, .slice vka 0 vkc]] w (PcPost B ps (pieces (Tr.mk 7 x ls [])) l w) := by
  have HIH := Lib.hid ih
  have HBD := Lib.hid hb
  have HEQ := Lib.hid (pieces_leaf x ls 7 ⟨#[66, 111, 111, 108]⟩ rfl)
  have HST := Lib.hid (PSt.start hl ht hB)
  obtain ⟨ip, hip, pz0, pz1, pz2⟩ := info_parts piece_info
  clear ih ht hl hB hb 
  go_enter Tryz.func111, Tryz.ntmps111
  go_wp2_with fail
  generalize hW0 : w.alloc (.cells #[.int .i64 7, .string x, .slice vla ls.length vlc, .slice vka 0 vkc] 25) = W0 at ⊢
  have HS0 := Lib.hid (show PSt B l w (Tr.mk 7 x ls []) ⟨7, x, vla, ls.length, vlc, vka, 0, vkc⟩ l ps W0 from hW0 ▸ HST.out)
  clear HST hW0
  have k0 : W0.cell? ⟨w.heap.size, 0, none⟩ = some (.int .i64 7) := HS0.out.cells.1
  have k1 : W0.cell? ⟨w.heap.size, 1, none⟩ = some (.string x) := HS0.out.cells.2.1
  have k2 : W0.cell? ⟨w.heap.size, 2, none⟩ = some (.slice vla ls.length vlc) := HS0.out.cells.2.2.1
  have k3 : W0.cell? ⟨w.heap.size, 3, none⟩ = some (.slice vka 0 vkc) := HS0.out.cells.2.2.2
  obtain ⟨n1, hn1⟩ : ∃ n, (ps).length = n := ⟨_, rfl⟩
  have HQ1 := Lib.hid hn1
  clear hn1
  have HM1 := Lib.hid (show n1 + 1 ≤ 1000000 from by have h := HBD.out; rw [← HQ1.out]; rw [HEQ.out] at h; (try simp only [List.length_cons, List.length_nil] at h ⊢); omega)
  have HL1 := Lib.hid (show (ps).length + 1 ≤ 1000000 from by have h := HBD.out; rw [HEQ.out] at h; (try simp only [List.length_cons, List.length_nil] at h ⊢); omega)
  go_wp2_with (first
    | (go_at_call 144; ((with_reducible refine (rlead_int _ (Tr.mk 7 x ls []) ⟨7, x, vla, ls.length, vlc, vka, 0, vkc⟩ 0 0 rfl _ HS0.out.tree (by decide)).mono ?_); rintro e w1 ⟨rfl, hb⟩; have HS1 := Lib.hid (HS0.out.below hb); clear k0 k1 k2 k3; have k0 : w1.cell? ⟨w.heap.size, 0, none⟩ = some (.int .i64 7) := HS1.out.cells.1; have k1 : w1.cell? ⟨w.heap.size, 1, none⟩ = some (.string x) := HS1.out.cells.2.1; have k2 : w1.cell? ⟨w.heap.size, 2, none⟩ = some (.slice vla ls.length vlc) := HS1.out.cells.2.2.1; have k3 : w1.cell? ⟨w.heap.size, 3, none⟩ = some (.slice vka 0 vkc) := HS1.out.cells.2.2.2; clear hb))
    | (at_builtin; refine wpList_append_lies _ (by rfl) _ _ 88 (by rfl) B 91 ip _ 2 32 Tryz.underlying88 hip pz0 pz1 pz2 rfl (by decide) _ n1 (pcCells (ps)) (by rfl) ((HS1.out.alloc _).rowN HQ1.out) ⟨w1.heap.size, 0, none⟩ 1 1 (pcCells [(ldR ls 0, (⟨#[66, 111, 111, 108]⟩ : ByteArray))]) (by rfl) (by rfl) (World.news_of_block (cs := #[.string (ldR ls 0), .string ⟨#[66, 111, 111, 108]⟩]) (t := 91) (fr := (0, 0)) (heap_alloc_new w1 _)) (pcCells_one _) (by decide) (by unfold maxLen; have := HM1.out; omega) (by have := HM1.out; omega) (HS1.out.alloc _).le _ (by rfl) ?_; intro g cw2 w2 hown hgr hat hlt; have HS2 := Lib.hid ((HS1.out.alloc _).appN HQ1.out (qs := [(ldR ls 0, (⟨#[66, 111, 111, 108]⟩ : ByteArray))]) rfl hown hgr hat (Nat.le_refl _)); clear k0 k1 k2 k3; have k0 : w2.cell? ⟨w.heap.size, 0, none⟩ = some (.int .i64 7) := HS2.out.cells.1; have k1 : w2.cell? ⟨w.heap.size, 1, none⟩ = some (.string x) := HS2.out.cells.2.1; have k2 : w2.cell? ⟨w.heap.size, 2, none⟩ = some (.slice vla ls.length vlc) := HS2.out.cells.2.2.1; have k3 : w2.cell? ⟨w.heap.size, 3, none⟩ = some (.slice vka 0 vkc) := HS2.out.cells.2.2.2; clear hown hgr hat hlt))
  go_ret
  exact HS2.out.post (by rw [HEQ.out]; first | done | (simp only [List.append_assoc, List.cons_append, List.nil_append]; done) | (simp only [List.append_assoc, List.cons_append, List.nil_append]; rfl) | (simp; done)) rfl
set_option maxRecDepth 100000 in
set_option maxHeartbeats 4000000 in
theorem rpieces_13 {N : Nat} (ih : PcC N) (B : Nat) (l : Value) (ps : List Piece) (x : ByteArray) (ls : List ByteArray) (vla vka : Option Addr) (vlc vkc : Nat) (w : World) (_hN : SizeOf.sizeOf (Tr.mk 13 x ls []) ≤ N + 1) (ht : TrAt (fun k => k < B) w (Tr.mk 13 x ls []) ⟨13, x, vla, ls.length, vlc, vka, 0, vkc⟩)
    (_hz : sizeT (Tr.mk 13 x ls []) ≤ 1000) (hl : PRow w B l ps) (hB : B ≤ w.heap.size) (hb : ps.length + (pieces (Tr.mk 13 x ls [])).length ≤ 1000000) :
    Calls Tryz.prog 111 #[l, .agg #[.int .i64 13, .string x, .slice vla ls.length vlc, .slice vka 0 vkc]] w (PcPost B ps (pieces (Tr.mk 13 x ls [])) l w) := by
  have HIH := Lib.hid ih
  have HBD := Lib.hid hb
  have HEQ := Lib.hid (pieces_leaf x ls 13 ⟨#[116, 114, 117, 101]⟩ rfl)
  have HST := Lib.hid (PSt.start hl ht hB)
  obtain ⟨ip, hip, pz0, pz1, pz2⟩ := info_parts piece_info
  clear ih ht hl hB hb 
  go_enter Tryz.func111, Tryz.ntmps111
  go_wp2_with fail
  generalize hW0 : w.alloc (.cells #[.int .i64 13, .string x, .slice vla ls.length vlc, .slice vka 0 vkc] 25) = W0 at ⊢
  have HS0 := Lib.hid (show PSt B l w (Tr.mk 13 x ls []) ⟨13, x, vla, ls.length, vlc, vka, 0, vkc⟩ l ps W0 from hW0 ▸ HST.out)
  clear HST hW0
  have k0 : W0.cell? ⟨w.heap.size, 0, none⟩ = some (.int .i64 13) := HS0.out.cells.1
  have k1 : W0.cell? ⟨w.heap.size, 1, none⟩ = some (.string x) := HS0.out.cells.2.1
  have k2 : W0.cell? ⟨w.heap.size, 2, none⟩ = some (.slice vla ls.length vlc) := HS0.out.cells.2.2.1
  have k3 : W0.cell? ⟨w.heap.size, 3, none⟩ = some (.slice vka 0 vkc) := HS0.out.cells.2.2.2
  obtain ⟨n1, hn1⟩ : ∃ n, (ps).length = n := ⟨_, rfl⟩
  have HQ1 := Lib.hid hn1
  clear hn1
  have HM1 := Lib.hid (show n1 + 1 ≤ 1000000 from by have h := HBD.out; rw [← HQ1.out]; rw [HEQ.out] at h; (try simp only [List.length_cons, List.length_nil] at h ⊢); omega)
  have HL1 := Lib.hid (show (ps).length + 1 ≤ 1000000 from by have h := HBD.out; rw [HEQ.out] at h; (try simp only [List.length_cons, List.length_nil] at h ⊢); omega)
  go_wp2_with (first
    | (go_at_call 144; ((with_reducible refine (rlead_int _ (Tr.mk 13 x ls []) ⟨13, x, vla, ls.length, vlc, vka, 0, vkc⟩ 0 0 rfl _ HS0.out.tree (by decide)).mono ?_); rintro e w1 ⟨rfl, hb⟩; have HS1 := Lib.hid (HS0.out.below hb); clear k0 k1 k2 k3; have k0 : w1.cell? ⟨w.heap.size, 0, none⟩ = some (.int .i64 13) := HS1.out.cells.1; have k1 : w1.cell? ⟨w.heap.size, 1, none⟩ = some (.string x) := HS1.out.cells.2.1; have k2 : w1.cell? ⟨w.heap.size, 2, none⟩ = some (.slice vla ls.length vlc) := HS1.out.cells.2.2.1; have k3 : w1.cell? ⟨w.heap.size, 3, none⟩ = some (.slice vka 0 vkc) := HS1.out.cells.2.2.2; clear hb))
    | (at_builtin; refine wpList_append_lies _ (by rfl) _ _ 88 (by rfl) B 91 ip _ 2 32 Tryz.underlying88 hip pz0 pz1 pz2 rfl (by decide) _ n1 (pcCells (ps)) (by rfl) ((HS1.out.alloc _).rowN HQ1.out) ⟨w1.heap.size, 0, none⟩ 1 1 (pcCells [(ldR ls 0, (⟨#[116, 114, 117, 101]⟩ : ByteArray))]) (by rfl) (by rfl) (World.news_of_block (cs := #[.string (ldR ls 0), .string ⟨#[116, 114, 117, 101]⟩]) (t := 91) (fr := (0, 0)) (heap_alloc_new w1 _)) (pcCells_one _) (by decide) (by unfold maxLen; have := HM1.out; omega) (by have := HM1.out; omega) (HS1.out.alloc _).le _ (by rfl) ?_; intro g cw2 w2 hown hgr hat hlt; have HS2 := Lib.hid ((HS1.out.alloc _).appN HQ1.out (qs := [(ldR ls 0, (⟨#[116, 114, 117, 101]⟩ : ByteArray))]) rfl hown hgr hat (Nat.le_refl _)); clear k0 k1 k2 k3; have k0 : w2.cell? ⟨w.heap.size, 0, none⟩ = some (.int .i64 13) := HS2.out.cells.1; have k1 : w2.cell? ⟨w.heap.size, 1, none⟩ = some (.string x) := HS2.out.cells.2.1; have k2 : w2.cell? ⟨w.heap.size, 2, none⟩ = some (.slice vla ls.length vlc) := HS2.out.cells.2.2.1; have k3 : w2.cell? ⟨w.heap.size, 3, none⟩ = some (.slice vka 0 vkc) := HS2.out.cells.2.2.2; clear hown hgr hat hlt))
  go_ret
  exact HS2.out.post (by rw [HEQ.out]; first | done | (simp only [List.append_assoc, List.cons_append, List.nil_append]; done) | (simp only [List.append_assoc, List.cons_append, List.nil_append]; rfl) | (simp; done)) rfl
set_option maxRecDepth 100000 in
set_option maxHeartbeats 4000000 in
theorem rpieces_14 {N : Nat} (ih : PcC N) (B : Nat) (l : Value) (ps : List Piece) (x : ByteArray) (ls : List ByteArray) (vla vka : Option Addr) (vlc vkc : Nat) (w : World) (_hN : SizeOf.sizeOf (Tr.mk 14 x ls []) ≤ N + 1) (ht : TrAt (fun k => k < B) w (Tr.mk 14 x ls []) ⟨14, x, vla, ls.length, vlc, vka, 0, vkc⟩)
    (_hz : sizeT (Tr.mk 14 x ls []) ≤ 1000) (hl : PRow w B l ps) (hB : B ≤ w.heap.size) (hb : ps.length + (pieces (Tr.mk 14 x ls [])).length ≤ 1000000) :
    Calls Tryz.prog 111 #[l, .agg #[.int .i64 14, .string x, .slice vla ls.length vlc, .slice vka 0 vkc]] w (PcPost B ps (pieces (Tr.mk 14 x ls [])) l w) := by
  have HIH := Lib.hid ih
  have HBD := Lib.hid hb
  have HEQ := Lib.hid (pieces_leaf x ls 14 ⟨#[102, 97, 108, 115, 101]⟩ rfl)
  have HST := Lib.hid (PSt.start hl ht hB)
  obtain ⟨ip, hip, pz0, pz1, pz2⟩ := info_parts piece_info
  clear ih ht hl hB hb 
  go_enter Tryz.func111, Tryz.ntmps111
  go_wp2_with fail
  generalize hW0 : w.alloc (.cells #[.int .i64 14, .string x, .slice vla ls.length vlc, .slice vka 0 vkc] 25) = W0 at ⊢
  have HS0 := Lib.hid (show PSt B l w (Tr.mk 14 x ls []) ⟨14, x, vla, ls.length, vlc, vka, 0, vkc⟩ l ps W0 from hW0 ▸ HST.out)
  clear HST hW0
  have k0 : W0.cell? ⟨w.heap.size, 0, none⟩ = some (.int .i64 14) := HS0.out.cells.1
  have k1 : W0.cell? ⟨w.heap.size, 1, none⟩ = some (.string x) := HS0.out.cells.2.1
  have k2 : W0.cell? ⟨w.heap.size, 2, none⟩ = some (.slice vla ls.length vlc) := HS0.out.cells.2.2.1
  have k3 : W0.cell? ⟨w.heap.size, 3, none⟩ = some (.slice vka 0 vkc) := HS0.out.cells.2.2.2
  obtain ⟨n1, hn1⟩ : ∃ n, (ps).length = n := ⟨_, rfl⟩
  have HQ1 := Lib.hid hn1
  clear hn1
  have HM1 := Lib.hid (show n1 + 1 ≤ 1000000 from by have h := HBD.out; rw [← HQ1.out]; rw [HEQ.out] at h; (try simp only [List.length_cons, List.length_nil] at h ⊢); omega)
  have HL1 := Lib.hid (show (ps).length + 1 ≤ 1000000 from by have h := HBD.out; rw [HEQ.out] at h; (try simp only [List.length_cons, List.length_nil] at h ⊢); omega)
  go_wp2_with (first
    | (go_at_call 144; ((with_reducible refine (rlead_int _ (Tr.mk 14 x ls []) ⟨14, x, vla, ls.length, vlc, vka, 0, vkc⟩ 0 0 rfl _ HS0.out.tree (by decide)).mono ?_); rintro e w1 ⟨rfl, hb⟩; have HS1 := Lib.hid (HS0.out.below hb); clear k0 k1 k2 k3; have k0 : w1.cell? ⟨w.heap.size, 0, none⟩ = some (.int .i64 14) := HS1.out.cells.1; have k1 : w1.cell? ⟨w.heap.size, 1, none⟩ = some (.string x) := HS1.out.cells.2.1; have k2 : w1.cell? ⟨w.heap.size, 2, none⟩ = some (.slice vla ls.length vlc) := HS1.out.cells.2.2.1; have k3 : w1.cell? ⟨w.heap.size, 3, none⟩ = some (.slice vka 0 vkc) := HS1.out.cells.2.2.2; clear hb))
    | (at_builtin; refine wpList_append_lies _ (by rfl) _ _ 88 (by rfl) B 91 ip _ 2 32 Tryz.underlying88 hip pz0 pz1 pz2 rfl (by decide) _ n1 (pcCells (ps)) (by rfl) ((HS1.out.alloc _).rowN HQ1.out) ⟨w1.heap.size, 0, none⟩ 1 1 (pcCells [(ldR ls 0, (⟨#[102, 97, 108, 115, 101]⟩ : ByteArray))]) (by rfl) (by rfl) (World.news_of_block (cs := #[.string (ldR ls 0), .string ⟨#[102, 97, 108, 115, 101]⟩]) (t := 91) (fr := (0, 0)) (heap_alloc_new w1 _)) (pcCells_one _) (by decide) (by unfold maxLen; have := HM1.out; omega) (by have := HM1.out; omega) (HS1.out.alloc _).le _ (by rfl) ?_; intro g cw2 w2 hown hgr hat hlt; have HS2 := Lib.hid ((HS1.out.alloc _).appN HQ1.out (qs := [(ldR ls 0, (⟨#[102, 97, 108, 115, 101]⟩ : ByteArray))]) rfl hown hgr hat (Nat.le_refl _)); clear k0 k1 k2 k3; have k0 : w2.cell? ⟨w.heap.size, 0, none⟩ = some (.int .i64 14) := HS2.out.cells.1; have k1 : w2.cell? ⟨w.heap.size, 1, none⟩ = some (.string x) := HS2.out.cells.2.1; have k2 : w2.cell? ⟨w.heap.size, 2, none⟩ = some (.slice vla ls.length vlc) := HS2.out.cells.2.2.1; have k3 : w2.cell? ⟨w.heap.size, 3, none⟩ = some (.slice vka 0 vkc) := HS2.out.cells.2.2.2; clear hown hgr hat hlt))
  go_ret
  exact HS2.out.post (by rw [HEQ.out]; first | done | (simp only [List.append_assoc, List.cons_append, List.nil_append]; done) | (simp only [List.append_assoc, List.cons_append, List.nil_append]; rfl) | (simp; done)) rfl
set_option maxRecDepth 100000 in
set_option maxHeartbeats 4000000 in
theorem rpieces_15 {N : Nat} (ih : PcC N) (B : Nat) (l : Value) (ps : List Piece) (x : ByteArray) (ls : List ByteArray) (vla vka : Option Addr) (vlc vkc : Nat) (w : World) (_hN : SizeOf.sizeOf (Tr.mk 15 x ls []) ≤ N + 1) (ht : TrAt (fun k => k < B) w (Tr.mk 15 x ls []) ⟨15, x, vla, ls.length, vlc, vka, 0, vkc⟩)
    (_hz : sizeT (Tr.mk 15 x ls []) ≤ 1000) (hl : PRow w B l ps) (hB : B ≤ w.heap.size) (hb : ps.length + (pieces (Tr.mk 15 x ls [])).length ≤ 1000000) :
    Calls Tryz.prog 111 #[l, .agg #[.int .i64 15, .string x, .slice vla ls.length vlc, .slice vka 0 vkc]] w (PcPost B ps (pieces (Tr.mk 15 x ls [])) l w) := by
  have HIH := Lib.hid ih
  have HBD := Lib.hid hb
  have HEQ := Lib.hid (pieces_leaf x ls 15 ⟨#[63]⟩ rfl)
  have HST := Lib.hid (PSt.start hl ht hB)
  obtain ⟨ip, hip, pz0, pz1, pz2⟩ := info_parts piece_info
  clear ih ht hl hB hb 
  go_enter Tryz.func111, Tryz.ntmps111
  go_wp2_with fail
  generalize hW0 : w.alloc (.cells #[.int .i64 15, .string x, .slice vla ls.length vlc, .slice vka 0 vkc] 25) = W0 at ⊢
  have HS0 := Lib.hid (show PSt B l w (Tr.mk 15 x ls []) ⟨15, x, vla, ls.length, vlc, vka, 0, vkc⟩ l ps W0 from hW0 ▸ HST.out)
  clear HST hW0
  have k0 : W0.cell? ⟨w.heap.size, 0, none⟩ = some (.int .i64 15) := HS0.out.cells.1
  have k1 : W0.cell? ⟨w.heap.size, 1, none⟩ = some (.string x) := HS0.out.cells.2.1
  have k2 : W0.cell? ⟨w.heap.size, 2, none⟩ = some (.slice vla ls.length vlc) := HS0.out.cells.2.2.1
  have k3 : W0.cell? ⟨w.heap.size, 3, none⟩ = some (.slice vka 0 vkc) := HS0.out.cells.2.2.2
  obtain ⟨n1, hn1⟩ : ∃ n, (ps).length = n := ⟨_, rfl⟩
  have HQ1 := Lib.hid hn1
  clear hn1
  have HM1 := Lib.hid (show n1 + 1 ≤ 1000000 from by have h := HBD.out; rw [← HQ1.out]; rw [HEQ.out] at h; (try simp only [List.length_cons, List.length_nil] at h ⊢); omega)
  have HL1 := Lib.hid (show (ps).length + 1 ≤ 1000000 from by have h := HBD.out; rw [HEQ.out] at h; (try simp only [List.length_cons, List.length_nil] at h ⊢); omega)
  go_wp2_with (first
    | (go_at_call 144; ((with_reducible refine (rlead_int _ (Tr.mk 15 x ls []) ⟨15, x, vla, ls.length, vlc, vka, 0, vkc⟩ 0 0 rfl _ HS0.out.tree (by decide)).mono ?_); rintro e w1 ⟨rfl, hb⟩; have HS1 := Lib.hid (HS0.out.below hb); clear k0 k1 k2 k3; have k0 : w1.cell? ⟨w.heap.size, 0, none⟩ = some (.int .i64 15) := HS1.out.cells.1; have k1 : w1.cell? ⟨w.heap.size, 1, none⟩ = some (.string x) := HS1.out.cells.2.1; have k2 : w1.cell? ⟨w.heap.size, 2, none⟩ = some (.slice vla ls.length vlc) := HS1.out.cells.2.2.1; have k3 : w1.cell? ⟨w.heap.size, 3, none⟩ = some (.slice vka 0 vkc) := HS1.out.cells.2.2.2; clear hb))
    | (at_builtin; refine wpList_append_lies _ (by rfl) _ _ 88 (by rfl) B 91 ip _ 2 32 Tryz.underlying88 hip pz0 pz1 pz2 rfl (by decide) _ n1 (pcCells (ps)) (by rfl) ((HS1.out.alloc _).rowN HQ1.out) ⟨w1.heap.size, 0, none⟩ 1 1 (pcCells [(ldR ls 0, (⟨#[63]⟩ : ByteArray))]) (by rfl) (by rfl) (World.news_of_block (cs := #[.string (ldR ls 0), .string ⟨#[63]⟩]) (t := 91) (fr := (0, 0)) (heap_alloc_new w1 _)) (pcCells_one _) (by decide) (by unfold maxLen; have := HM1.out; omega) (by have := HM1.out; omega) (HS1.out.alloc _).le _ (by rfl) ?_; intro g cw2 w2 hown hgr hat hlt; have HS2 := Lib.hid ((HS1.out.alloc _).appN HQ1.out (qs := [(ldR ls 0, (⟨#[63]⟩ : ByteArray))]) rfl hown hgr hat (Nat.le_refl _)); clear k0 k1 k2 k3; have k0 : w2.cell? ⟨w.heap.size, 0, none⟩ = some (.int .i64 15) := HS2.out.cells.1; have k1 : w2.cell? ⟨w.heap.size, 1, none⟩ = some (.string x) := HS2.out.cells.2.1; have k2 : w2.cell? ⟨w.heap.size, 2, none⟩ = some (.slice vla ls.length vlc) := HS2.out.cells.2.2.1; have k3 : w2.cell? ⟨w.heap.size, 3, none⟩ = some (.slice vka 0 vkc) := HS2.out.cells.2.2.2; clear hown hgr hat hlt))
  go_ret
  exact HS2.out.post (by rw [HEQ.out]; first | done | (simp only [List.append_assoc, List.cons_append, List.nil_append]; done) | (simp only [List.append_assoc, List.cons_append, List.nil_append]; rfl) | (simp; done)) rfl
set_option maxRecDepth 100000 in
set_option maxHeartbeats 4000000 in
theorem rpieces_9 {N : Nat} (ih : PcC N) (B : Nat) (l : Value) (ps : List Piece) (x : ByteArray) (ls : List ByteArray) (vla vka : Option Addr) (vlc vkc : Nat) (w : World) (_hN : SizeOf.sizeOf (Tr.mk 9 x ls []) ≤ N + 1) (ht : TrAt (fun k => k < B) w (Tr.mk 9 x ls []) ⟨9, x, vla, ls.length, vlc, vka, 0, vkc⟩)
    (_hz : sizeT (Tr.mk 9 x ls []) ≤ 1000) (hl : PRow w B l ps) (hB : B ≤ w.heap.size) (hb : ps.length + (pieces (Tr.mk 9 x ls [])).length ≤ 1000000) :
    Calls Tryz.prog 111 #[l, .agg #[.int .i64 9, .string x, .slice vla ls.length vlc, .slice vka 0 vkc]] w (PcPost B ps (pieces (Tr.mk 9 x ls [])) l w) := by
  have HIH := Lib.hid ih
  have HBD := Lib.hid hb
  have HEQ := Lib.hid (pieces_name x ls 9 (by decide))
  have HST := Lib.hid (PSt.start hl ht hB)
  obtain ⟨ip, hip, pz0, pz1, pz2⟩ := info_parts piece_info
  clear ih ht hl hB hb 
  go_enter Tryz.func111, Tryz.ntmps111
  go_wp2_with fail
  generalize hW0 : w.alloc (.cells #[.int .i64 9, .string x, .slice vla ls.length vlc, .slice vka 0 vkc] 25) = W0 at ⊢
  have HS0 := Lib.hid (show PSt B l w (Tr.mk 9 x ls []) ⟨9, x, vla, ls.length, vlc, vka, 0, vkc⟩ l ps W0 from hW0 ▸ HST.out)
  clear HST hW0
  have k0 : W0.cell? ⟨w.heap.size, 0, none⟩ = some (.int .i64 9) := HS0.out.cells.1
  have k1 : W0.cell? ⟨w.heap.size, 1, none⟩ = some (.string x) := HS0.out.cells.2.1
  have k2 : W0.cell? ⟨w.heap.size, 2, none⟩ = some (.slice vla ls.length vlc) := HS0.out.cells.2.2.1
  have k3 : W0.cell? ⟨w.heap.size, 3, none⟩ = some (.slice vka 0 vkc) := HS0.out.cells.2.2.2
  obtain ⟨n1, hn1⟩ : ∃ n, (ps).length = n := ⟨_, rfl⟩
  have HQ1 := Lib.hid hn1
  clear hn1
  have HM1 := Lib.hid (show n1 + 1 ≤ 1000000 from by have h := HBD.out; rw [← HQ1.out]; rw [HEQ.out] at h; (try simp only [List.length_cons, List.length_nil] at h ⊢); omega)
  have HL1 := Lib.hid (show (ps).length + 1 ≤ 1000000 from by have h := HBD.out; rw [HEQ.out] at h; (try simp only [List.length_cons, List.length_nil] at h ⊢); omega)
  go_region_held3 (fun w' => w'.cell? ⟨w.heap.size, 0, none⟩ = some (.int .i64 9) ∧ w'.cell? ⟨w.heap.size, 1, none⟩ = some (.string x) ∧ w'.cell? ⟨w.heap.size, 2, none⟩ = some (.slice vla ls.length vlc) ∧ w'.cell? ⟨w.heap.size, 3, none⟩ = some (.slice vka 0 vkc)) (first | with_reducible exact ⟨k0, k1, k2, k3⟩ | go_keep) (first
    | (go_at_call 144; ((with_reducible refine (rlead_int _ (Tr.mk 9 x ls []) ⟨9, x, vla, ls.length, vlc, vka, 0, vkc⟩ 0 0 rfl _ HS0.out.drew.tree (by decide)).mono ?_); rintro e w1 ⟨rfl, hb⟩; have HS1 := Lib.hid (HS0.out.drew.below hb); clear k0 k1 k2 k3; have k0 : w1.cell? ⟨w.heap.size, 0, none⟩ = some (.int .i64 9) := HS1.out.cells.1; have k1 : w1.cell? ⟨w.heap.size, 1, none⟩ = some (.string x) := HS1.out.cells.2.1; have k2 : w1.cell? ⟨w.heap.size, 2, none⟩ = some (.slice vla ls.length vlc) := HS1.out.cells.2.2.1; have k3 : w1.cell? ⟨w.heap.size, 3, none⟩ = some (.slice vka 0 vkc) := HS1.out.cells.2.2.2; clear hb))
    | (refine step_append_lies _ (by rfl) _ _ _ (by rfl) B 91 ip _ 2 32 Tryz.underlying88 hip pz0 pz1 pz2 rfl (by decide) _ n1 (pcCells (ps)) (by rfl) ((HS1.out.alloc _).rowN HQ1.out) ⟨w1.heap.size, 0, none⟩ 1 1 (pcCells [(ldR ls 0, (x : ByteArray))]) (by rfl) (by rfl) (World.news_of_block (cs := #[.string (ldR ls 0), .string x]) (t := 91) (fr := (0, 0)) (heap_alloc_new w1 _)) (pcCells_one _) (by decide) (by unfold maxLen; have := HM1.out; omega) (by have := HM1.out; omega) (HS1.out.alloc _).le _ (by rfl) ?_; intro g cw2 w2 hown hgr hat hlt; have HS2 := Lib.hid ((HS1.out.alloc _).appN HQ1.out (qs := [(ldR ls 0, (x : ByteArray))]) rfl hown hgr hat (Nat.le_refl _)); clear k0 k1 k2 k3; have k0 : w2.cell? ⟨w.heap.size, 0, none⟩ = some (.int .i64 9) := HS2.out.cells.1; have k1 : w2.cell? ⟨w.heap.size, 1, none⟩ = some (.string x) := HS2.out.cells.2.1; have k2 : w2.cell? ⟨w.heap.size, 2, none⟩ = some (.slice vla ls.length vlc) := HS2.out.cells.2.2.1; have k3 : w2.cell? ⟨w.heap.size, 3, none⟩ = some (.slice vka 0 vkc) := HS2.out.cells.2.2.2; clear hown hgr hat hlt)
    | fail)
  all_goals
    go_wp2
    go_ret
    exact HS2.out.post (by rw [HEQ.out]; first | done | (simp only [List.append_assoc, List.cons_append, List.nil_append]; done) | (simp only [List.append_assoc, List.cons_append, List.nil_append]; rfl) | (simp; done)) rfl
set_option maxRecDepth 100000 in
set_option maxHeartbeats 4000000 in
theorem rpieces_10 {N : Nat} (ih : PcC N) (B : Nat) (l : Value) (ps : List Piece) (x : ByteArray) (ls : List ByteArray) (vla vka : Option Addr) (vlc vkc : Nat) (w : World) (_hN : SizeOf.sizeOf (Tr.mk 10 x ls []) ≤ N + 1) (ht : TrAt (fun k => k < B) w (Tr.mk 10 x ls []) ⟨10, x, vla, ls.length, vlc, vka, 0, vkc⟩)
    (_hz : sizeT (Tr.mk 10 x ls []) ≤ 1000) (hl : PRow w B l ps) (hB : B ≤ w.heap.size) (hb : ps.length + (pieces (Tr.mk 10 x ls [])).length ≤ 1000000) :
    Calls Tryz.prog 111 #[l, .agg #[.int .i64 10, .string x, .slice vla ls.length vlc, .slice vka 0 vkc]] w (PcPost B ps (pieces (Tr.mk 10 x ls [])) l w) := by
  have HIH := Lib.hid ih
  have HBD := Lib.hid hb
  have HEQ := Lib.hid (pieces_name x ls 10 (by decide))
  have HST := Lib.hid (PSt.start hl ht hB)
  obtain ⟨ip, hip, pz0, pz1, pz2⟩ := info_parts piece_info
  clear ih ht hl hB hb 
  go_enter Tryz.func111, Tryz.ntmps111
  go_wp2_with fail
  generalize hW0 : w.alloc (.cells #[.int .i64 10, .string x, .slice vla ls.length vlc, .slice vka 0 vkc] 25) = W0 at ⊢
  have HS0 := Lib.hid (show PSt B l w (Tr.mk 10 x ls []) ⟨10, x, vla, ls.length, vlc, vka, 0, vkc⟩ l ps W0 from hW0 ▸ HST.out)
  clear HST hW0
  have k0 : W0.cell? ⟨w.heap.size, 0, none⟩ = some (.int .i64 10) := HS0.out.cells.1
  have k1 : W0.cell? ⟨w.heap.size, 1, none⟩ = some (.string x) := HS0.out.cells.2.1
  have k2 : W0.cell? ⟨w.heap.size, 2, none⟩ = some (.slice vla ls.length vlc) := HS0.out.cells.2.2.1
  have k3 : W0.cell? ⟨w.heap.size, 3, none⟩ = some (.slice vka 0 vkc) := HS0.out.cells.2.2.2
  obtain ⟨n1, hn1⟩ : ∃ n, (ps).length = n := ⟨_, rfl⟩
  have HQ1 := Lib.hid hn1
  clear hn1
  have HM1 := Lib.hid (show n1 + 1 ≤ 1000000 from by have h := HBD.out; rw [← HQ1.out]; rw [HEQ.out] at h; (try simp only [List.length_cons, List.length_nil] at h ⊢); omega)
  have HL1 := Lib.hid (show (ps).length + 1 ≤ 1000000 from by have h := HBD.out; rw [HEQ.out] at h; (try simp only [List.length_cons, List.length_nil] at h ⊢); omega)
  go_region_held3 (fun w' => w'.cell? ⟨w.heap.size, 0, none⟩ = some (.int .i64 10) ∧ w'.cell? ⟨w.heap.size, 1, none⟩ = some (.string x) ∧ w'.cell? ⟨w.heap.size, 2, none⟩ = some (.slice vla ls.length vlc) ∧ w'.cell? ⟨w.heap.size, 3, none⟩ = some (.slice vka 0 vkc)) (first | with_reducible exact ⟨k0, k1, k2, k3⟩ | go_keep) (first
    | (go_at_call 144; ((with_reducible refine (rlead_int _ (Tr.mk 10 x ls []) ⟨10, x, vla, ls.length, vlc, vka, 0, vkc⟩ 0 0 rfl _ HS0.out.drew.tree (by decide)).mono ?_); rintro e w1 ⟨rfl, hb⟩; have HS1 := Lib.hid (HS0.out.drew.below hb); clear k0 k1 k2 k3; have k0 : w1.cell? ⟨w.heap.size, 0, none⟩ = some (.int .i64 10) := HS1.out.cells.1; have k1 : w1.cell? ⟨w.heap.size, 1, none⟩ = some (.string x) := HS1.out.cells.2.1; have k2 : w1.cell? ⟨w.heap.size, 2, none⟩ = some (.slice vla ls.length vlc) := HS1.out.cells.2.2.1; have k3 : w1.cell? ⟨w.heap.size, 3, none⟩ = some (.slice vka 0 vkc) := HS1.out.cells.2.2.2; clear hb))
    | (refine step_append_lies _ (by rfl) _ _ _ (by rfl) B 91 ip _ 2 32 Tryz.underlying88 hip pz0 pz1 pz2 rfl (by decide) _ n1 (pcCells (ps)) (by rfl) ((HS1.out.alloc _).rowN HQ1.out) ⟨w1.heap.size, 0, none⟩ 1 1 (pcCells [(ldR ls 0, (x : ByteArray))]) (by rfl) (by rfl) (World.news_of_block (cs := #[.string (ldR ls 0), .string x]) (t := 91) (fr := (0, 0)) (heap_alloc_new w1 _)) (pcCells_one _) (by decide) (by unfold maxLen; have := HM1.out; omega) (by have := HM1.out; omega) (HS1.out.alloc _).le _ (by rfl) ?_; intro g cw2 w2 hown hgr hat hlt; have HS2 := Lib.hid ((HS1.out.alloc _).appN HQ1.out (qs := [(ldR ls 0, (x : ByteArray))]) rfl hown hgr hat (Nat.le_refl _)); clear k0 k1 k2 k3; have k0 : w2.cell? ⟨w.heap.size, 0, none⟩ = some (.int .i64 10) := HS2.out.cells.1; have k1 : w2.cell? ⟨w.heap.size, 1, none⟩ = some (.string x) := HS2.out.cells.2.1; have k2 : w2.cell? ⟨w.heap.size, 2, none⟩ = some (.slice vla ls.length vlc) := HS2.out.cells.2.2.1; have k3 : w2.cell? ⟨w.heap.size, 3, none⟩ = some (.slice vka 0 vkc) := HS2.out.cells.2.2.2; clear hown hgr hat hlt)
    | fail)
  all_goals
    go_wp2
    go_ret
    exact HS2.out.post (by rw [HEQ.out]; first | done | (simp only [List.append_assoc, List.cons_append, List.nil_append]; done) | (simp only [List.append_assoc, List.cons_append, List.nil_append]; rfl) | (simp; done)) rfl
set_option maxRecDepth 100000 in
set_option maxHeartbeats 4000000 in
theorem rpieces_11 {N : Nat} (ih : PcC N) (B : Nat) (l : Value) (ps : List Piece) (x : ByteArray) (ls : List ByteArray) (vla vka : Option Addr) (vlc vkc : Nat) (w : World) (_hN : SizeOf.sizeOf (Tr.mk 11 x ls []) ≤ N + 1) (ht : TrAt (fun k => k < B) w (Tr.mk 11 x ls []) ⟨11, x, vla, ls.length, vlc, vka, 0, vkc⟩)
    (_hz : sizeT (Tr.mk 11 x ls []) ≤ 1000) (hl : PRow w B l ps) (hB : B ≤ w.heap.size) (hb : ps.length + (pieces (Tr.mk 11 x ls [])).length ≤ 1000000) :
    Calls Tryz.prog 111 #[l, .agg #[.int .i64 11, .string x, .slice vla ls.length vlc, .slice vka 0 vkc]] w (PcPost B ps (pieces (Tr.mk 11 x ls [])) l w) := by
  have HIH := Lib.hid ih
  have HBD := Lib.hid hb
  have HEQ := Lib.hid (pieces_name x ls 11 (by decide))
  have HST := Lib.hid (PSt.start hl ht hB)
  obtain ⟨ip, hip, pz0, pz1, pz2⟩ := info_parts piece_info
  clear ih ht hl hB hb 
  go_enter Tryz.func111, Tryz.ntmps111
  go_wp2_with fail
  generalize hW0 : w.alloc (.cells #[.int .i64 11, .string x, .slice vla ls.length vlc, .slice vka 0 vkc] 25) = W0 at ⊢
  have HS0 := Lib.hid (show PSt B l w (Tr.mk 11 x ls []) ⟨11, x, vla, ls.length, vlc, vka, 0, vkc⟩ l ps W0 from hW0 ▸ HST.out)
  clear HST hW0
  have k0 : W0.cell? ⟨w.heap.size, 0, none⟩ = some (.int .i64 11) := HS0.out.cells.1
  have k1 : W0.cell? ⟨w.heap.size, 1, none⟩ = some (.string x) := HS0.out.cells.2.1
  have k2 : W0.cell? ⟨w.heap.size, 2, none⟩ = some (.slice vla ls.length vlc) := HS0.out.cells.2.2.1
  have k3 : W0.cell? ⟨w.heap.size, 3, none⟩ = some (.slice vka 0 vkc) := HS0.out.cells.2.2.2
  obtain ⟨n1, hn1⟩ : ∃ n, (ps).length = n := ⟨_, rfl⟩
  have HQ1 := Lib.hid hn1
  clear hn1
  have HM1 := Lib.hid (show n1 + 1 ≤ 1000000 from by have h := HBD.out; rw [← HQ1.out]; rw [HEQ.out] at h; (try simp only [List.length_cons, List.length_nil] at h ⊢); omega)
  have HL1 := Lib.hid (show (ps).length + 1 ≤ 1000000 from by have h := HBD.out; rw [HEQ.out] at h; (try simp only [List.length_cons, List.length_nil] at h ⊢); omega)
  go_region_held3 (fun w' => w'.cell? ⟨w.heap.size, 0, none⟩ = some (.int .i64 11) ∧ w'.cell? ⟨w.heap.size, 1, none⟩ = some (.string x) ∧ w'.cell? ⟨w.heap.size, 2, none⟩ = some (.slice vla ls.length vlc) ∧ w'.cell? ⟨w.heap.size, 3, none⟩ = some (.slice vka 0 vkc)) (first | with_reducible exact ⟨k0, k1, k2, k3⟩ | go_keep) (first
    | (go_at_call 144; ((with_reducible refine (rlead_int _ (Tr.mk 11 x ls []) ⟨11, x, vla, ls.length, vlc, vka, 0, vkc⟩ 0 0 rfl _ HS0.out.drew.tree (by decide)).mono ?_); rintro e w1 ⟨rfl, hb⟩; have HS1 := Lib.hid (HS0.out.drew.below hb); clear k0 k1 k2 k3; have k0 : w1.cell? ⟨w.heap.size, 0, none⟩ = some (.int .i64 11) := HS1.out.cells.1; have k1 : w1.cell? ⟨w.heap.size, 1, none⟩ = some (.string x) := HS1.out.cells.2.1; have k2 : w1.cell? ⟨w.heap.size, 2, none⟩ = some (.slice vla ls.length vlc) := HS1.out.cells.2.2.1; have k3 : w1.cell? ⟨w.heap.size, 3, none⟩ = some (.slice vka 0 vkc) := HS1.out.cells.2.2.2; clear hb))
    | (refine step_append_lies _ (by rfl) _ _ _ (by rfl) B 91 ip _ 2 32 Tryz.underlying88 hip pz0 pz1 pz2 rfl (by decide) _ n1 (pcCells (ps)) (by rfl) ((HS1.out.alloc _).rowN HQ1.out) ⟨w1.heap.size, 0, none⟩ 1 1 (pcCells [(ldR ls 0, (x : ByteArray))]) (by rfl) (by rfl) (World.news_of_block (cs := #[.string (ldR ls 0), .string x]) (t := 91) (fr := (0, 0)) (heap_alloc_new w1 _)) (pcCells_one _) (by decide) (by unfold maxLen; have := HM1.out; omega) (by have := HM1.out; omega) (HS1.out.alloc _).le _ (by rfl) ?_; intro g cw2 w2 hown hgr hat hlt; have HS2 := Lib.hid ((HS1.out.alloc _).appN HQ1.out (qs := [(ldR ls 0, (x : ByteArray))]) rfl hown hgr hat (Nat.le_refl _)); clear k0 k1 k2 k3; have k0 : w2.cell? ⟨w.heap.size, 0, none⟩ = some (.int .i64 11) := HS2.out.cells.1; have k1 : w2.cell? ⟨w.heap.size, 1, none⟩ = some (.string x) := HS2.out.cells.2.1; have k2 : w2.cell? ⟨w.heap.size, 2, none⟩ = some (.slice vla ls.length vlc) := HS2.out.cells.2.2.1; have k3 : w2.cell? ⟨w.heap.size, 3, none⟩ = some (.slice vka 0 vkc) := HS2.out.cells.2.2.2; clear hown hgr hat hlt)
    | fail)
  all_goals
    go_wp2
    go_ret
    exact HS2.out.post (by rw [HEQ.out]; first | done | (simp only [List.append_assoc, List.cons_append, List.nil_append]; done) | (simp only [List.append_assoc, List.cons_append, List.nil_append]; rfl) | (simp; done)) rfl
set_option maxRecDepth 100000 in
set_option maxHeartbeats 4000000 in
theorem rpieces_12 {N : Nat} (ih : PcC N) (B : Nat) (l : Value) (ps : List Piece) (x : ByteArray) (ls : List ByteArray) (vla vka : Option Addr) (vlc vkc : Nat) (w : World) (_hN : SizeOf.sizeOf (Tr.mk 12 x ls []) ≤ N + 1) (ht : TrAt (fun k => k < B) w (Tr.mk 12 x ls []) ⟨12, x, vla, ls.length, vlc, vka, 0, vkc⟩)
    (_hz : sizeT (Tr.mk 12 x ls []) ≤ 1000) (hl : PRow w B l ps) (hB : B ≤ w.heap.size) (hb : ps.length + (pieces (Tr.mk 12 x ls [])).length ≤ 1000000) :
    Calls Tryz.prog 111 #[l, .agg #[.int .i64 12, .string x, .slice vla ls.length vlc, .slice vka 0 vkc]] w (PcPost B ps (pieces (Tr.mk 12 x ls [])) l w) := by
  have HIH := Lib.hid ih
  have HBD := Lib.hid hb
  have HEQ := Lib.hid (pieces_name x ls 12 (by decide))
  have HST := Lib.hid (PSt.start hl ht hB)
  obtain ⟨ip, hip, pz0, pz1, pz2⟩ := info_parts piece_info
  clear ih ht hl hB hb 
  go_enter Tryz.func111, Tryz.ntmps111
  go_wp2_with fail
  generalize hW0 : w.alloc (.cells #[.int .i64 12, .string x, .slice vla ls.length vlc, .slice vka 0 vkc] 25) = W0 at ⊢
  have HS0 := Lib.hid (show PSt B l w (Tr.mk 12 x ls []) ⟨12, x, vla, ls.length, vlc, vka, 0, vkc⟩ l ps W0 from hW0 ▸ HST.out)
  clear HST hW0
  have k0 : W0.cell? ⟨w.heap.size, 0, none⟩ = some (.int .i64 12) := HS0.out.cells.1
  have k1 : W0.cell? ⟨w.heap.size, 1, none⟩ = some (.string x) := HS0.out.cells.2.1
  have k2 : W0.cell? ⟨w.heap.size, 2, none⟩ = some (.slice vla ls.length vlc) := HS0.out.cells.2.2.1
  have k3 : W0.cell? ⟨w.heap.size, 3, none⟩ = some (.slice vka 0 vkc) := HS0.out.cells.2.2.2
  obtain ⟨n1, hn1⟩ : ∃ n, (ps).length = n := ⟨_, rfl⟩
  have HQ1 := Lib.hid hn1
  clear hn1
  have HM1 := Lib.hid (show n1 + 1 ≤ 1000000 from by have h := HBD.out; rw [← HQ1.out]; rw [HEQ.out] at h; (try simp only [List.length_cons, List.length_nil] at h ⊢); omega)
  have HL1 := Lib.hid (show (ps).length + 1 ≤ 1000000 from by have h := HBD.out; rw [HEQ.out] at h; (try simp only [List.length_cons, List.length_nil] at h ⊢); omega)
  go_region_held3 (fun w' => w'.cell? ⟨w.heap.size, 0, none⟩ = some (.int .i64 12) ∧ w'.cell? ⟨w.heap.size, 1, none⟩ = some (.string x) ∧ w'.cell? ⟨w.heap.size, 2, none⟩ = some (.slice vla ls.length vlc) ∧ w'.cell? ⟨w.heap.size, 3, none⟩ = some (.slice vka 0 vkc)) (first | with_reducible exact ⟨k0, k1, k2, k3⟩ | go_keep) (first
    | (go_at_call 144; ((with_reducible refine (rlead_int _ (Tr.mk 12 x ls []) ⟨12, x, vla, ls.length, vlc, vka, 0, vkc⟩ 0 0 rfl _ HS0.out.drew.tree (by decide)).mono ?_); rintro e w1 ⟨rfl, hb⟩; have HS1 := Lib.hid (HS0.out.drew.below hb); clear k0 k1 k2 k3; have k0 : w1.cell? ⟨w.heap.size, 0, none⟩ = some (.int .i64 12) := HS1.out.cells.1; have k1 : w1.cell? ⟨w.heap.size, 1, none⟩ = some (.string x) := HS1.out.cells.2.1; have k2 : w1.cell? ⟨w.heap.size, 2, none⟩ = some (.slice vla ls.length vlc) := HS1.out.cells.2.2.1; have k3 : w1.cell? ⟨w.heap.size, 3, none⟩ = some (.slice vka 0 vkc) := HS1.out.cells.2.2.2; clear hb))
    | (refine step_append_lies _ (by rfl) _ _ _ (by rfl) B 91 ip _ 2 32 Tryz.underlying88 hip pz0 pz1 pz2 rfl (by decide) _ n1 (pcCells (ps)) (by rfl) ((HS1.out.alloc _).rowN HQ1.out) ⟨w1.heap.size, 0, none⟩ 1 1 (pcCells [(ldR ls 0, (x : ByteArray))]) (by rfl) (by rfl) (World.news_of_block (cs := #[.string (ldR ls 0), .string x]) (t := 91) (fr := (0, 0)) (heap_alloc_new w1 _)) (pcCells_one _) (by decide) (by unfold maxLen; have := HM1.out; omega) (by have := HM1.out; omega) (HS1.out.alloc _).le _ (by rfl) ?_; intro g cw2 w2 hown hgr hat hlt; have HS2 := Lib.hid ((HS1.out.alloc _).appN HQ1.out (qs := [(ldR ls 0, (x : ByteArray))]) rfl hown hgr hat (Nat.le_refl _)); clear k0 k1 k2 k3; have k0 : w2.cell? ⟨w.heap.size, 0, none⟩ = some (.int .i64 12) := HS2.out.cells.1; have k1 : w2.cell? ⟨w.heap.size, 1, none⟩ = some (.string x) := HS2.out.cells.2.1; have k2 : w2.cell? ⟨w.heap.size, 2, none⟩ = some (.slice vla ls.length vlc) := HS2.out.cells.2.2.1; have k3 : w2.cell? ⟨w.heap.size, 3, none⟩ = some (.slice vka 0 vkc) := HS2.out.cells.2.2.2; clear hown hgr hat hlt)
    | fail)
  all_goals
    go_wp2
    go_ret
    exact HS2.out.post (by rw [HEQ.out]; first | done | (simp only [List.append_assoc, List.cons_append, List.nil_append]; done) | (simp only [List.append_assoc, List.cons_append, List.nil_append]; rfl) | (simp; done)) rfl
end Go.Proofs.YtpdmklbfbpdneaaGreat
