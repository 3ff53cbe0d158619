/- The contracts of the reference's Pieces, Print and Valid. Conditions: at most 1000 nodes, a text of less than 10^13 bytes. -/
import Derived.Test.YtpdmklbfbpdneaaGreatSynRPcs
import Derived.Test.YtpdmklbfbpdneaaGreatSynRLed
import Derived.Test.YtpdmklbfbpdneaaGreatLexRFuses
import Derived.IntWalk
namespace Go.Proofs.YtpdmklbfbpdneaaGreat
open Go.RowKit
theorem prow_nil (w : World) (B : Nat) : PRow w B (.slice none 0 0) [] := World.ownsRow_nil _ _ _ _
set_option maxRecDepth 100000 in
set_option maxHeartbeats 1000000 in
theorem rPieces_any (B : Nat) (t : Tr) (v : TV) (w : World) (ht : TrAt (fun k => k < B) w t v) (hs : shapedT t = true) (hz : sizeT t ≤ 1000) (hB : B ≤ w.heap.size) (hb : (pieces t).length ≤ 1000000) :
    Calls Tryz.prog 72 #[.agg #[.int .i64 v.kind, .string v.text, .slice v.la v.ll v.lc, .slice v.ka v.kl v.kc]] w fun e w' => ∃ l, e = .returned l ∧ PRow w' w.heap.size l (pieces t) ∧ Below w.heap.size w w' := by
  have HB0 := Lib.hid ((Below.refl w.heap.size w).alloc (Nat.le_refl _) (trO v))
  have HT := Lib.hid (TrAt.move (S' := fun k => k < w.heap.size) (fun k h => Nat.lt_of_lt_of_le h hB) (fun k hk _ => HB0.out.block k (Nat.lt_of_lt_of_le hk hB)) _ _ ht)
  have HS := Lib.hid hs
  have HZ := Lib.hid hz
  have HBD := Lib.hid hb
  have hsz : (w.alloc (trO v)).heap.size = w.heap.size + 1 := by simp
  have HSZ := Lib.hid (show w.heap.size ≤ (w.alloc (trO v)).heap.size from by rw [hsz]; omega)
  clear ht hs hz hB hb hsz
  go_enter Tryz.func72, Tryz.ntmps72
  go_wp2_with (go_at_call 111; refine (rpieces_all _ w.heap.size _ [] t v _ (Nat.le_refl _) HT.out HS.out HZ.out (prow_nil _ _) HSZ.out (by have := HBD.out; simpa using this)).mono ?_; rintro e w2 ⟨l2, rfl, hr, hg, ho⟩; have HR := Lib.hid hr; have HG := Lib.hid hg; clear hr hg ho)
  go_ret
  exact ⟨_, rfl, HR.out, HB0.out.grown HG.out HSZ.out (fun k hk => by cases hk)⟩
theorem foldW_take {z : List UInt8 × ByteArray} {ps : List Piece} {i : Nat} {p : Piece} (h : ps[i]? = some p) : foldW z (ps.take (i + 1)) = tokW (foldW z (ps.take i)) p.1 p.2 := by
  rw [take_snoc h, foldW_append, foldW_one]
theorem foldW_last {z : List UInt8 × ByteArray} {ps : List Piece} {i : Nat} {p : Piece} (h : ps[i]? = some p) : (foldW z (ps.take (i + 1))).2 = p.2 := by rw [foldW_take h]; rfl
theorem bl_list (s : ByteArray) : bl s = s.data.toList := by unfold bl suf; rw [List.drop_zero]
theorem fuses_nil (x : ByteArray) : fusesB ⟨#[]⟩ x = false := by
  have : classN (suf ⟨#[]⟩ 0) = 0 := rfl
  unfold fusesB
  simp [this]
theorem sizeP_get {ps : List Piece} {i : Nat} {p : Piece} (h : ps[i]? = some p) : sizeP (ps.take i) + (p.1.size + p.2.size + 1) ≤ sizeP ps := by
  conv => rhs; rw [← List.take_append_drop i ps, sizeP_append]
  obtain ⟨hi, he⟩ := List.getElem?_eq_some_iff.1 h
  rw [List.drop_eq_getElem_cons hi, he, sizeP]
  omega
theorem sizeP_two {ps : List Piece} {i : Nat} {p q : Piece} (h : ps[i]? = some p) (k : ps[i + 1]? = some q) : p.2.size + q.2.size ≤ sizeP ps := by
  have h1 := sizeP_get k
  rw [take_snoc h, sizeP_append] at h1
  simp only [sizeP] at h1
  omega
theorem fold_le {ps : List Piece} (i : Nat) : (foldW ([], ⟨#[]⟩) (ps.take i)).1.length ≤ sizeP (ps.take i) := by
  have := foldW_le (ps.take i) ([], ⟨#[]⟩)
  simpa using this
/-- Where Print stands. -/
def PrAt (ps : List Piece) (W : World) (v i : Value) (wr : World) : Prop := ∃ (j : Nat) (s : ByteArray), v = .string s ∧ i = .int .i64 j ∧ j ≤ ps.length ∧ bl s = (foldW ([], ⟨#[]⟩) (ps.take j)).1 ∧ Below W.heap.size W wr
theorem fold_plain {ps : List Piece} {j : Nat} {p : Piece} {s : ByteArray} (hp : ps[j]? = some p) (hs : bl s = (foldW ([], ⟨#[]⟩) (ps.take j)).1) (h : sepW (foldW ([], ⟨#[]⟩) (ps.take j)).2 p.1 p.2 = p.1) : bl (s ++ p.1 ++ p.2) = (foldW ([], ⟨#[]⟩) (ps.take (j + 1))).1 := by
  rw [foldW_take hp, bl_append, bl_append, hs]
  unfold tokW
  rw [h, bl_list, bl_list]
theorem fold_blank {ps : List Piece} {j : Nat} {p : Piece} {s : ByteArray} (hp : ps[j]? = some p) (hs : bl s = (foldW ([], ⟨#[]⟩) (ps.take j)).1) (h : sepW (foldW ([], ⟨#[]⟩) (ps.take j)).2 p.1 p.2 = ⟨#[32]⟩) (h0 : p.1.size = 0) : bl (s ++ ⟨#[32]⟩ ++ p.1 ++ p.2) = (foldW ([], ⟨#[]⟩) (ps.take (j + 1))).1 := by
  rw [foldW_take hp, bl_append, bl_append, bl_append, hs, size_zero h0]
  unfold tokW
  rw [size_zero h0] at h
  rw [h, bl_list, bl_list, bl_list]
  simp
theorem ret_text {a b : ByteArray} (h : a = b) : Ending.returned (.string a) = .returned (.string b) := by rw [h]
theorem add_plain (b n : Nat) : ((⟨b, 0, none⟩ : Addr).add n) = ⟨b, n, none⟩ := by unfold Addr.add; split <;> simp_all
set_option maxRecDepth 100000 in
set_option maxHeartbeats 4000000 in
theorem rprint_any (S : Nat → Prop) (t : Tr) (v : TV) (w : World) (h : TrAt S w t v) (hz : sizeT t ≤ 1000) (hs : smallT t = true) (hw : wordsT t = true) (hb : (pieces t).length ≤ 1000000) (hsz : sizeP (pieces t) ≤ 10000000000000) :
    Calls Tryz.prog 37 #[.agg #[.int .i64 v.kind, .string v.text, .slice v.la v.ll v.lc, .slice v.ka v.kl v.kc]] w fun e w' => e = .returned (.string (printT t)) ∧ Below w.heap.size w w' := by
  have HB0 := Lib.hid ((Below.refl w.heap.size w).alloc (Nat.le_refl _) (trO v))
  have HX := Lib.hid (heap_alloc_new w (trO v))
  have HT := Lib.hid (h.keep HB0.out)
  have HTL := Lib.hid (TrAt.low t v h)
  have HZ := Lib.hid hz
  have HS := Lib.hid hs
  have HW := Lib.hid hw
  have HBD := Lib.hid hb
  have HSZ := Lib.hid hsz
  have HPT := Lib.hid (show printT t = (if shapedT t && ledT t then ⟨(textL t).toArray⟩ else ⟨#[]⟩) from rfl)
  clear h hz hs hw hb hsz
  go_enter Tryz.func37, Tryz.ntmps37
  go_wp2_with fail
  generalize hW0 : w.alloc (.cells #[.int .i64 v.kind, .string v.text, .slice v.la v.ll v.lc, .slice v.ka v.kl v.kc] 25) = W0 at ⊢
  have HB0' := Lib.hid (show Below w.heap.size w W0 from hW0 ▸ HB0.out)
  have HX' := Lib.hid (show W0.heap[w.heap.size]? = some (trO v) from hW0 ▸ HX.out)
  have HT' := Lib.hid (show TrAt S W0 t v from hW0 ▸ HT.out)
  clear HB0 HX HT hW0
  have k0 : W0.cell? ⟨w.heap.size, 0, none⟩ = some (.int .i64 v.kind) := cells_of HX'.out 0 _ rfl
  have k1 : W0.cell? ⟨w.heap.size, 1, none⟩ = some (.string v.text) := cells_of HX'.out 1 _ rfl
  have k2 : W0.cell? ⟨w.heap.size, 2, none⟩ = some (.slice v.la v.ll v.lc) := cells_of HX'.out 2 _ rfl
  have k3 : W0.cell? ⟨w.heap.size, 3, none⟩ = some (.slice v.ka v.kl v.kc) := cells_of HX'.out 3 _ rfl
  cases hp : (shapedT t && ledT t)
  · have HR := Lib.hid (show printT t = ⟨#[]⟩ from by rw [HPT.out, hp]; rfl)
    go_wp2_with (go_at_call 69; refine (rprintable_any S t v _ HT'.out HZ.out HS.out HW.out).mono ?_; rw [hp]; rintro e w2 ⟨rfl, hb2⟩; have HB2 := Lib.hid (HB0'.out.trans (hb2.mono HB0'.out.size)); clear hb2 k0 k1 k2 k3)
    go_ret
    exact ⟨ret_text HR.out.symm, HB2.out⟩
  · have HR := Lib.hid (show printT t = ⟨(textL t).toArray⟩ from by rw [HPT.out, hp]; rfl)
    have HSH := Lib.hid (show shapedT t = true from by rw [Bool.and_eq_true] at hp; exact hp.1)
    go_wp2_with (first
      | (go_at_call 69; refine (rprintable_any S t v _ HT'.out HZ.out HS.out HW.out).mono ?_; rw [hp]; rintro e w2 ⟨rfl, hb2⟩; have HB2 := Lib.hid (HB0'.out.trans (hb2.mono HB0'.out.size)); have HX2 := Lib.hid ((hb2.block w.heap.size (lt_of_heap HX'.out)).trans HX'.out); clear hb2 k0 k1 k2 k3; have k0 : w2.cell? ⟨w.heap.size, 0, none⟩ = some (.int .i64 v.kind) := cells_of HX2.out 0 _ rfl; have k1 : w2.cell? ⟨w.heap.size, 1, none⟩ = some (.string v.text) := cells_of HX2.out 1 _ rfl; have k2 : w2.cell? ⟨w.heap.size, 2, none⟩ = some (.slice v.la v.ll v.lc) := cells_of HX2.out 2 _ rfl; have k3 : w2.cell? ⟨w.heap.size, 3, none⟩ = some (.slice v.ka v.kl v.kc) := cells_of HX2.out 3 _ rfl)
      | (go_at_call 72; refine (rPieces_any w.heap.size t v _ (TrAt.move (fun _ h => h) (fun k hk _ => HB2.out.block k hk) _ _ HTL.out) HSH.out HZ.out HB2.out.size HBD.out).mono ?_; rintro e w3 ⟨l3, rfl, hr3, hb3⟩; have HR3 := Lib.hid hr3; have HB3 := Lib.hid (HB2.out.trans (hb3.mono HB2.out.size)); clear hr3 hb3 k0 k1 k2 k3))
    clear hp
    obtain ⟨PS, hPS⟩ : ∃ PS, PS = pieces t := ⟨_, rfl⟩
    have HPS := Lib.hid hPS
    have HBP := Lib.hid (show PS.length ≤ 1000000 from by rw [hPS]; exact HBD.out)
    have HSP := Lib.hid (show sizeP PS ≤ 10000000000000 from by rw [hPS]; exact HSZ.out)
    have HR4 := Lib.hid (show PRow w3 w2.heap.size l3 PS from by rw [hPS]; exact HR3.out)
    obtain ⟨LA, LC, hl3⟩ := own_shape (show w3.ownsRow w2.heap.size 91 2 l3 PS.length (pcCells PS) from HR4.out)
    subst hl3
    have hpn : (PS.length : Int) ≤ 1000000 := by have := HBP.out; omega
    clear hPS HR3
    go_loopw [4, 5] (fun s i wr => PrAt PS w3 s i wr) (fun _ i _ => PS.length - (intOf i).toNat)
    case atStart => exact ⟨0, ⟨#[]⟩, rfl, rfl, Nat.zero_le _, rfl, Below.refl _ _⟩
    case round =>
      obtain ⟨j, s, rfl, rfl, hj, hs, hbr⟩ := hrel
      have HSB := Lib.hid hs
      have HBR := Lib.hid hbr
      have HR5 := Lib.hid (HR4.out.keep hbr)
      clear hs hbr
      by_cases hlt : j < PS.length
      · obtain ⟨⟨pl, px⟩, hp⟩ : ∃ p, PS[j]? = some p := ⟨_, List.getElem?_eq_getElem hlt⟩
        obtain ⟨g, cg, hlv, _⟩ := World.ownsRow.form HR5.out (by omega)
        injection hlv with e1 e2 e3
        subst e1
        clear e2 e3
        have hcs := World.ownsRow.cells (g := g) HR5.out rfl
        have p0 : wr.cell? ⟨g, j * 2, none⟩ = some (.string pl) := by have := hcs (j * 2) _ (pcCells_get PS j _ hp).1; rw [add_plain] at this; exact this
        have p1 : wr.cell? ⟨g, j * 2 + 1, none⟩ = some (.string px) := by have := hcs (j * 2 + 1) _ (pcCells_get PS j _ hp).2; rw [add_plain] at this; exact this
        have HP := Lib.hid hp
        have hsg := sizeP_get hp
        have hfl := fold_le (ps := PS) j
        have hsl : s.size ≤ sizeP (PS.take j) := by have h1 := bl_length s; rw [HSB.out] at h1; omega
        have hmx := HSP.out
        simp only at hsg
        have hq0 := fun w : World => run_string_add_sum (P := Tryz.prog) w s ⟨#[32]⟩ (by have : (⟨#[32]⟩ : ByteArray).size = 1 := rfl; omega)
        have hq1 := fun w : World => run_string_add_sum (P := Tryz.prog) w s pl (by omega)
        have hq2 := fun w : World => run_string_add_sum (P := Tryz.prog) w (s ++ pl) px (by rw [ByteArray.size_append]; omega)
        have hj0 : (0 : Int) ≤ (j : Int) := by omega
        have hj1 : (j : Int) < (PS.length : Int) := by omega
        have hj2 : (j : Int) + 1 ≤ 1000000 := by omega
        have HLE := Lib.hid (show s.size + pl.size + px.size + 1 ≤ 10000000000000 from by omega)
        clear hcs hsg hfl hsl hmx
        by_cases h0 : j = 0
        · have HE := Lib.hid (fold_plain hp HSB.out (by subst h0; show sepW ⟨#[]⟩ pl px = pl; unfold sepW; rw [if_neg (fun h => by rw [fuses_nil] at h; exact absurd h.2 (by decide))]))
          have d0 : decide (0 < j) = false := decide_eq_false (by omega)
          have d1 : decide ((0 : Int) < (j : Int)) = false := decide_eq_false (by omega)
          clear hp h0 hq0
          go_wp2_with fail
          go_quiet (fail)
          go_wp2_with fail
          go_quiet (fail)
          go_wp2
          go_roundw
          case measure => simp [intOf]; omega
          case rel => exact ⟨j + 1, s ++ pl ++ px, rfl, by go_num, by omega, HE.out, below_drewN HBR.out _⟩
        · obtain ⟨m, hm⟩ : ∃ m, j = m + 1 := ⟨j - 1, by omega⟩
          have d0 : decide (0 < j) = true := decide_eq_true (by omega)
          have d1 : decide ((0 : Int) < (j : Int)) = true := decide_eq_true (by omega)
          by_cases hl0 : pl.size = 0
          · have := size_zero hl0
            subst this
            obtain ⟨⟨ql, qx⟩, hq⟩ : ∃ p, PS[m]? = some p := ⟨_, List.getElem?_eq_getElem (by omega)⟩
            have q1 : wr.cell? ⟨g, m * 2 + 1, none⟩ = some (.string qx) := by have := World.ownsRow.cells (g := g) HR5.out rfl (m * 2 + 1) _ (pcCells_get PS m _ hq).2; rw [add_plain] at this; exact this
            have HLS := Lib.hid (show (foldW ([], ⟨#[]⟩) (PS.take j)).2 = qx from by rw [hm]; exact foldW_last hq)
            have HFS := Lib.hid (show qx.size + px.size < maxLen from by have h1 := sizeP_two hq (show PS[m + 1]? = some (⟨#[]⟩, px) from hm ▸ hp); have h2 := HSP.out; unfold maxLen; simp only at h1; omega)
            have hw1 : IntKind.i64.wrap ((j : Int) - 1) = (m : Int) := by rw [show (j : Int) - 1 = (m : Int) from by omega]; exact IntWalk.i64_in _ (by omega)
            have hw3 : (m : Int) < (PS.length : Int) := by omega
            have hw4 : (0 : Int) ≤ (m : Int) := by omega
            clear hq hm h0
            cases hf : fusesB qx px
            · have HE := Lib.hid (fold_plain hp HSB.out (by rw [HLS.out]; unfold sepW; rw [if_neg (fun h => by rw [hf] at h; exact absurd h.2 (by decide))]))
              clear hp hl0 hq0
              go_wp2_with fail
              go_region_held3 (fun w' => w'.cell? ⟨g, j * 2, none⟩ = some (.string ⟨#[]⟩) ∧ w'.cell? ⟨g, j * 2 + 1, none⟩ = some (.string px) ∧ w'.cell? ⟨g, m * 2 + 1, none⟩ = some (.string qx)) (first | with_reducible exact ⟨p0, p1, q1⟩ | go_keep) (first | (go_at_call 73; ((with_reducible refine (rfuses_any qx px _ HFS.out).mono ?_); rw [hf]; rintro e w5 ⟨rfl, hb5⟩; have hb6 : Below wr.heap.size wr w5 := ((Below.refl wr.heap.size wr).drew).trans hb5; have HB5 := Lib.hid (HBR.out.trans (hb6.mono HBR.out.size)); have gl := World.block_lt_of_cell? wr _ p1; have e0 := (World.cell?_of_block (w := wr) (a := ⟨g, j * 2, none⟩) (hb6.block g gl)).trans p0; have e1 := (World.cell?_of_block (w := wr) (a := ⟨g, j * 2 + 1, none⟩) (hb6.block g gl)).trans p1; have e2 := (World.cell?_of_block (w := wr) (a := ⟨g, m * 2 + 1, none⟩) (hb6.block g gl)).trans q1; clear hb5 hb6 gl p0 p1 q1; have p0 := e0; have p1 := e1; have q1 := e2; clear e0 e1 e2)) | fail)
              all_goals
                clear q1 hw1 hw3 hw4 d0 d1
                go_wp2_with fail
                go_quiet (fail)
                go_wp2
                go_roundw
                case measure => simp [intOf]; omega
                case rel => exact ⟨j + 1, s ++ ⟨#[]⟩ ++ px, rfl, by go_num, by omega, HE.out, below_drewN HB5.out _⟩
            · have HE := Lib.hid (fold_blank hp HSB.out (by rw [HLS.out]; unfold sepW; rw [if_pos ⟨rfl, hf⟩]) rfl)
              have hq1 := fun w : World => run_string_add_sum (P := Tryz.prog) w (s ++ ⟨#[32]⟩) ⟨#[]⟩ (by rw [ByteArray.size_append]; have h1 : (⟨#[32]⟩ : ByteArray).size = 1 := rfl; have h2 : (⟨#[]⟩ : ByteArray).size = 0 := rfl; have := HLE.out; omega)
              have hq2 := fun w : World => run_string_add_sum (P := Tryz.prog) w (s ++ ⟨#[32]⟩ ++ ⟨#[]⟩) px (by rw [ByteArray.size_append, ByteArray.size_append]; have h1 : (⟨#[32]⟩ : ByteArray).size = 1 := rfl; have h2 : (⟨#[]⟩ : ByteArray).size = 0 := rfl; have := HLE.out; omega)
              clear hp hl0
              go_wp2_with fail
              go_region_held3 (fun w' => w'.cell? ⟨g, j * 2, none⟩ = some (.string ⟨#[]⟩) ∧ w'.cell? ⟨g, j * 2 + 1, none⟩ = some (.string px) ∧ w'.cell? ⟨g, m * 2 + 1, none⟩ = some (.string qx)) (first | with_reducible exact ⟨p0, p1, q1⟩ | go_keep) (first | (go_at_call 73; ((with_reducible refine (rfuses_any qx px _ HFS.out).mono ?_); rw [hf]; rintro e w5 ⟨rfl, hb5⟩; have hb6 : Below wr.heap.size wr w5 := ((Below.refl wr.heap.size wr).drew).trans hb5; have HB5 := Lib.hid (HBR.out.trans (hb6.mono HBR.out.size)); have gl := World.block_lt_of_cell? wr _ p1; have e0 := (World.cell?_of_block (w := wr) (a := ⟨g, j * 2, none⟩) (hb6.block g gl)).trans p0; have e1 := (World.cell?_of_block (w := wr) (a := ⟨g, j * 2 + 1, none⟩) (hb6.block g gl)).trans p1; have e2 := (World.cell?_of_block (w := wr) (a := ⟨g, m * 2 + 1, none⟩) (hb6.block g gl)).trans q1; clear hb5 hb6 gl p0 p1 q1; have p0 := e0; have p1 := e1; have q1 := e2; clear e0 e1 e2)) | fail)
              all_goals
                clear q1 hw1 hw3 hw4 d0 d1
                go_wp2_with fail
                go_quiet (fail)
                go_wp2
                go_roundw
                case measure => simp [intOf]; omega
                case rel => exact ⟨j + 1, s ++ ⟨#[32]⟩ ++ ⟨#[]⟩ ++ px, rfl, by go_num, by omega, HE.out, below_drewN HB5.out _⟩
          · have HE := Lib.hid (fold_plain hp HSB.out (by unfold sepW; rw [if_neg (fun h => hl0 h.1)]))
            have hne : pl.toList.isEmpty = false := by have h1 := suf_ne (s := pl) (by omega); rw [suf_zero] at h1; simpa using h1
            clear hp hm h0 hq0 hl0
            go_wp2_with fail
            go_quiet (fail)
            go_wp2_with fail
            go_quiet (fail)
            go_wp2
            go_roundw
            case measure => simp [intOf]; omega
            case rel => exact ⟨j + 1, s ++ pl ++ px, rfl, by go_num, by omega, HE.out, below_drewN HBR.out _⟩
      · have hje : j = PS.length := by omega
        have HF := Lib.hid (show (⟨(textL t).toArray⟩ : ByteArray) = s from bl_inj (by rw [HSB.out, hje, List.take_length, bl_list]; unfold textL; rw [HPS.out]))
        go_wp2
        go_ret
        exact ⟨ret_text (HF.out.symm.trans HR.out.symm), HB3.out.trans (HBR.out.mono HB3.out.size)⟩
end Go.Proofs.YtpdmklbfbpdneaaGreat
namespace Go.Proofs.YtpdmklbfbpdneaaGreat
open Go.RowKit
theorem valid_form (t : Tr) : validT t = ((shapedT t && ledT t) && limT t && decide (depthT t ≤ 40) && decide ((textL t).length ≤ 4096)) := by
  unfold validT
  rw [within_depth]
set_option maxRecDepth 100000 in
set_option maxHeartbeats 2000000 in
theorem rvalid_any (S : Nat → Prop) (t : Tr) (v : TV) (w : World) (h : TrAt S w t v) (hz : sizeT t ≤ 1000) (hs : smallT t = true) (hw : wordsT t = true) (hb : (pieces t).length ≤ 1000000) (hsz : sizeP (pieces t) ≤ 10000000000000) :
    Calls Tryz.prog 35 #[.agg #[.int .i64 v.kind, .string v.text, .slice v.la v.ll v.lc, .slice v.ka v.kl v.kc]] w fun e w' => e = .returned (.bool (validT t)) ∧ Below w.heap.size w w' := by
  have HB0 := Lib.hid ((Below.refl w.heap.size w).alloc (Nat.le_refl _) (trO v))
  have HX := Lib.hid (heap_alloc_new w (trO v))
  have HT := Lib.hid (h.keep HB0.out)
  have HZ := Lib.hid hz
  have HZ2 := Lib.hid (show sizeT t ≤ 140737488355328 from by omega)
  have HS := Lib.hid hs
  have HW := Lib.hid hw
  have HBD := Lib.hid hb
  have HSZ := Lib.hid hsz
  have HV := Lib.hid (valid_form t)
  clear h hz hs hw hb hsz
  go_enter Tryz.func35, Tryz.ntmps35
  go_wp2_with fail
  generalize hW0 : w.alloc (.cells #[.int .i64 v.kind, .string v.text, .slice v.la v.ll v.lc, .slice v.ka v.kl v.kc] 25) = w1 at ⊢
  have HB1 := Lib.hid (show Below w.heap.size w w1 from hW0 ▸ HB0.out)
  have HX1 := Lib.hid (show w1.heap[w.heap.size]? = some (trO v) from hW0 ▸ HX.out)
  have HT1 := Lib.hid (show TrAt S w1 t v from hW0 ▸ HT.out)
  clear HB0 HX HT hW0
  have k0 : w1.cell? ⟨w.heap.size, 0, none⟩ = some (.int .i64 v.kind) := cells_of HX1.out 0 _ rfl
  have k1 : w1.cell? ⟨w.heap.size, 1, none⟩ = some (.string v.text) := cells_of HX1.out 1 _ rfl
  have k2 : w1.cell? ⟨w.heap.size, 2, none⟩ = some (.slice v.la v.ll v.lc) := cells_of HX1.out 2 _ rfl
  have k3 : w1.cell? ⟨w.heap.size, 3, none⟩ = some (.slice v.ka v.kl v.kc) := cells_of HX1.out 3 _ rfl
  cases hp : (shapedT t && ledT t)
  · have HR := Lib.hid (show validT t = false from by rw [HV.out, hp]; rfl)
    go_wp2_with (first
      | (go_at_call 69; refine (rprintable_any S t v _ HT1.out HZ.out HS.out HW.out).mono ?_; rw [hp]; rintro e w2 ⟨rfl, hb⟩; have HB2 := Lib.hid (HB1.out.trans (hb.mono HB1.out.size)); have HX2 := Lib.hid ((hb.block w.heap.size (lt_of_heap HX1.out)).trans HX1.out); have HT2 := Lib.hid (HT1.out.keep hb); clear hb k0 k1 k2 k3; have k0 : w2.cell? ⟨w.heap.size, 0, none⟩ = some (.int .i64 v.kind) := cells_of HX2.out 0 _ rfl; have k1 : w2.cell? ⟨w.heap.size, 1, none⟩ = some (.string v.text) := cells_of HX2.out 1 _ rfl; have k2 : w2.cell? ⟨w.heap.size, 2, none⟩ = some (.slice v.la v.ll v.lc) := cells_of HX2.out 2 _ rfl; have k3 : w2.cell? ⟨w.heap.size, 3, none⟩ = some (.slice v.ka v.kl v.kc) := cells_of HX2.out 3 _ rfl)
      | fail)
    go_ret
    exact ⟨ret_bool (by first | exact HR.out.symm | (rw [HR.out]; simp_all; done)), HB2.out⟩
  · cases hl : limT t
    · have HR := Lib.hid (show validT t = false from by rw [HV.out, hp, hl]; rfl)
      go_wp2_with (first
        | (go_at_call 69; refine (rprintable_any S t v _ HT1.out HZ.out HS.out HW.out).mono ?_; rw [hp]; rintro e w2 ⟨rfl, hb⟩; have HB2 := Lib.hid (HB1.out.trans (hb.mono HB1.out.size)); have HX2 := Lib.hid ((hb.block w.heap.size (lt_of_heap HX1.out)).trans HX1.out); have HT2 := Lib.hid (HT1.out.keep hb); clear hb k0 k1 k2 k3; have k0 : w2.cell? ⟨w.heap.size, 0, none⟩ = some (.int .i64 v.kind) := cells_of HX2.out 0 _ rfl; have k1 : w2.cell? ⟨w.heap.size, 1, none⟩ = some (.string v.text) := cells_of HX2.out 1 _ rfl; have k2 : w2.cell? ⟨w.heap.size, 2, none⟩ = some (.slice v.la v.ll v.lc) := cells_of HX2.out 2 _ rfl; have k3 : w2.cell? ⟨w.heap.size, 3, none⟩ = some (.slice v.ka v.kl v.kc) := cells_of HX2.out 3 _ rfl)
        | (go_at_call 70; refine (rlimits_any _ S t v _ (Nat.le_refl _) HT2.out HZ.out).mono ?_; rw [hl]; rintro e w3 ⟨rfl, hb⟩; have HB3 := Lib.hid (HB2.out.trans (hb.mono HB2.out.size)); have HX3 := Lib.hid ((hb.block w.heap.size (lt_of_heap HX2.out)).trans HX2.out); have HT3 := Lib.hid (HT2.out.keep hb); clear hb k0 k1 k2 k3; have k0 : w3.cell? ⟨w.heap.size, 0, none⟩ = some (.int .i64 v.kind) := cells_of HX3.out 0 _ rfl; have k1 : w3.cell? ⟨w.heap.size, 1, none⟩ = some (.string v.text) := cells_of HX3.out 1 _ rfl; have k2 : w3.cell? ⟨w.heap.size, 2, none⟩ = some (.slice v.la v.ll v.lc) := cells_of HX3.out 2 _ rfl; have k3 : w3.cell? ⟨w.heap.size, 3, none⟩ = some (.slice v.ka v.kl v.kc) := cells_of HX3.out 3 _ rfl)
        | fail)
      go_ret
      exact ⟨ret_bool (by first | exact HR.out.symm | (rw [HR.out]; simp_all; done)), HB3.out⟩
    · by_cases hd : depthT t ≤ 40
      · have HR := Lib.hid (show validT t = decide ((textL t).length ≤ 4096) from by rw [HV.out, hp, hl, decide_eq_true hd]; rfl)
        have HPT := Lib.hid (show (printT t).size = (textL t).length from by unfold printT; rw [hp]; rfl)
        have d1 : decide ((depthT t : Int) ≤ 40) = true := decide_eq_true (by omega)
        have d2 : decide (depthT t ≤ 40) = true := decide_eq_true hd
        clear hd
        by_cases hx : (textL t).length ≤ 4096
        · have x1 : decide (((printT t).size : Int) ≤ 4096) = true := decide_eq_true (by rw [HPT.out]; omega)
          have x2 : decide ((printT t).size ≤ 4096) = true := decide_eq_true (by rw [HPT.out]; omega)
          have HR2 := Lib.hid (show validT t = true from by rw [HR.out]; exact decide_eq_true hx)
          clear hx HR
          go_wp2_with (first
            | (go_at_call 69; refine (rprintable_any S t v _ HT1.out HZ.out HS.out HW.out).mono ?_; rw [hp]; rintro e w2 ⟨rfl, hb⟩; have HB2 := Lib.hid (HB1.out.trans (hb.mono HB1.out.size)); have HX2 := Lib.hid ((hb.block w.heap.size (lt_of_heap HX1.out)).trans HX1.out); have HT2 := Lib.hid (HT1.out.keep hb); clear hb k0 k1 k2 k3; have k0 : w2.cell? ⟨w.heap.size, 0, none⟩ = some (.int .i64 v.kind) := cells_of HX2.out 0 _ rfl; have k1 : w2.cell? ⟨w.heap.size, 1, none⟩ = some (.string v.text) := cells_of HX2.out 1 _ rfl; have k2 : w2.cell? ⟨w.heap.size, 2, none⟩ = some (.slice v.la v.ll v.lc) := cells_of HX2.out 2 _ rfl; have k3 : w2.cell? ⟨w.heap.size, 3, none⟩ = some (.slice v.ka v.kl v.kc) := cells_of HX2.out 3 _ rfl)
            | (go_at_call 70; refine (rlimits_any _ S t v _ (Nat.le_refl _) HT2.out HZ.out).mono ?_; rw [hl]; rintro e w3 ⟨rfl, hb⟩; have HB3 := Lib.hid (HB2.out.trans (hb.mono HB2.out.size)); have HX3 := Lib.hid ((hb.block w.heap.size (lt_of_heap HX2.out)).trans HX2.out); have HT3 := Lib.hid (HT2.out.keep hb); clear hb k0 k1 k2 k3; have k0 : w3.cell? ⟨w.heap.size, 0, none⟩ = some (.int .i64 v.kind) := cells_of HX3.out 0 _ rfl; have k1 : w3.cell? ⟨w.heap.size, 1, none⟩ = some (.string v.text) := cells_of HX3.out 1 _ rfl; have k2 : w3.cell? ⟨w.heap.size, 2, none⟩ = some (.slice v.la v.ll v.lc) := cells_of HX3.out 2 _ rfl; have k3 : w3.cell? ⟨w.heap.size, 3, none⟩ = some (.slice v.ka v.kl v.kc) := cells_of HX3.out 3 _ rfl)
            | (go_at_call 71; refine (rdepth2_any _ S t v _ (Nat.le_refl _) HT3.out HZ2.out).mono ?_; rintro e w4 ⟨rfl, hb⟩; have HB4 := Lib.hid (HB3.out.trans (hb.mono HB3.out.size)); have HX4 := Lib.hid ((hb.block w.heap.size (lt_of_heap HX3.out)).trans HX3.out); have HT4 := Lib.hid (HT3.out.keep hb); clear hb k0 k1 k2 k3; have k0 : w4.cell? ⟨w.heap.size, 0, none⟩ = some (.int .i64 v.kind) := cells_of HX4.out 0 _ rfl; have k1 : w4.cell? ⟨w.heap.size, 1, none⟩ = some (.string v.text) := cells_of HX4.out 1 _ rfl; have k2 : w4.cell? ⟨w.heap.size, 2, none⟩ = some (.slice v.la v.ll v.lc) := cells_of HX4.out 2 _ rfl; have k3 : w4.cell? ⟨w.heap.size, 3, none⟩ = some (.slice v.ka v.kl v.kc) := cells_of HX4.out 3 _ rfl)
            | (go_at_call 37; refine (rprint_any S t v _ HT4.out HZ.out HS.out HW.out HBD.out HSZ.out).mono ?_; rintro e w5 ⟨rfl, hb⟩; have HB5 := Lib.hid (HB4.out.trans (hb.mono HB4.out.size)); have HX5 := Lib.hid ((hb.block w.heap.size (lt_of_heap HX4.out)).trans HX4.out); have HT5 := Lib.hid (HT4.out.keep hb); clear hb k0 k1 k2 k3; have k0 : w5.cell? ⟨w.heap.size, 0, none⟩ = some (.int .i64 v.kind) := cells_of HX5.out 0 _ rfl; have k1 : w5.cell? ⟨w.heap.size, 1, none⟩ = some (.string v.text) := cells_of HX5.out 1 _ rfl; have k2 : w5.cell? ⟨w.heap.size, 2, none⟩ = some (.slice v.la v.ll v.lc) := cells_of HX5.out 2 _ rfl; have k3 : w5.cell? ⟨w.heap.size, 3, none⟩ = some (.slice v.ka v.kl v.kc) := cells_of HX5.out 3 _ rfl)
            | fail)
          go_ret
          exact ⟨ret_bool (by first | exact HR2.out.symm | (rw [HR2.out]; simp_all; done)), HB5.out⟩
        · have x1 : decide (((printT t).size : Int) ≤ 4096) = false := decide_eq_false (by rw [HPT.out]; omega)
          have x2 : decide ((printT t).size ≤ 4096) = false := decide_eq_false (by rw [HPT.out]; omega)
          have HR2 := Lib.hid (show validT t = false from by rw [HR.out]; exact decide_eq_false hx)
          clear hx HR
          go_wp2_with (first
            | (go_at_call 69; refine (rprintable_any S t v _ HT1.out HZ.out HS.out HW.out).mono ?_; rw [hp]; rintro e w2 ⟨rfl, hb⟩; have HB2 := Lib.hid (HB1.out.trans (hb.mono HB1.out.size)); have HX2 := Lib.hid ((hb.block w.heap.size (lt_of_heap HX1.out)).trans HX1.out); have HT2 := Lib.hid (HT1.out.keep hb); clear hb k0 k1 k2 k3; have k0 : w2.cell? ⟨w.heap.size, 0, none⟩ = some (.int .i64 v.kind) := cells_of HX2.out 0 _ rfl; have k1 : w2.cell? ⟨w.heap.size, 1, none⟩ = some (.string v.text) := cells_of HX2.out 1 _ rfl; have k2 : w2.cell? ⟨w.heap.size, 2, none⟩ = some (.slice v.la v.ll v.lc) := cells_of HX2.out 2 _ rfl; have k3 : w2.cell? ⟨w.heap.size, 3, none⟩ = some (.slice v.ka v.kl v.kc) := cells_of HX2.out 3 _ rfl)
            | (go_at_call 70; refine (rlimits_any _ S t v _ (Nat.le_refl _) HT2.out HZ.out).mono ?_; rw [hl]; rintro e w3 ⟨rfl, hb⟩; have HB3 := Lib.hid (HB2.out.trans (hb.mono HB2.out.size)); have HX3 := Lib.hid ((hb.block w.heap.size (lt_of_heap HX2.out)).trans HX2.out); have HT3 := Lib.hid (HT2.out.keep hb); clear hb k0 k1 k2 k3; have k0 : w3.cell? ⟨w.heap.size, 0, none⟩ = some (.int .i64 v.kind) := cells_of HX3.out 0 _ rfl; have k1 : w3.cell? ⟨w.heap.size, 1, none⟩ = some (.string v.text) := cells_of HX3.out 1 _ rfl; have k2 : w3.cell? ⟨w.heap.size, 2, none⟩ = some (.slice v.la v.ll v.lc) := cells_of HX3.out 2 _ rfl; have k3 : w3.cell? ⟨w.heap.size, 3, none⟩ = some (.slice v.ka v.kl v.kc) := cells_of HX3.out 3 _ rfl)
            | (go_at_call 71; refine (rdepth2_any _ S t v _ (Nat.le_refl _) HT3.out HZ2.out).mono ?_; rintro e w4 ⟨rfl, hb⟩; have HB4 := Lib.hid (HB3.out.trans (hb.mono HB3.out.size)); have HX4 := Lib.hid ((hb.block w.heap.size (lt_of_heap HX3.out)).trans HX3.out); have HT4 := Lib.hid (HT3.out.keep hb); clear hb k0 k1 k2 k3; have k0 : w4.cell? ⟨w.heap.size, 0, none⟩ = some (.int .i64 v.kind) := cells_of HX4.out 0 _ rfl; have k1 : w4.cell? ⟨w.heap.size, 1, none⟩ = some (.string v.text) := cells_of HX4.out 1 _ rfl; have k2 : w4.cell? ⟨w.heap.size, 2, none⟩ = some (.slice v.la v.ll v.lc) := cells_of HX4.out 2 _ rfl; have k3 : w4.cell? ⟨w.heap.size, 3, none⟩ = some (.slice v.ka v.kl v.kc) := cells_of HX4.out 3 _ rfl)
            | (go_at_call 37; refine (rprint_any S t v _ HT4.out HZ.out HS.out HW.out HBD.out HSZ.out).mono ?_; rintro e w5 ⟨rfl, hb⟩; have HB5 := Lib.hid (HB4.out.trans (hb.mono HB4.out.size)); have HX5 := Lib.hid ((hb.block w.heap.size (lt_of_heap HX4.out)).trans HX4.out); have HT5 := Lib.hid (HT4.out.keep hb); clear hb k0 k1 k2 k3; have k0 : w5.cell? ⟨w.heap.size, 0, none⟩ = some (.int .i64 v.kind) := cells_of HX5.out 0 _ rfl; have k1 : w5.cell? ⟨w.heap.size, 1, none⟩ = some (.string v.text) := cells_of HX5.out 1 _ rfl; have k2 : w5.cell? ⟨w.heap.size, 2, none⟩ = some (.slice v.la v.ll v.lc) := cells_of HX5.out 2 _ rfl; have k3 : w5.cell? ⟨w.heap.size, 3, none⟩ = some (.slice v.ka v.kl v.kc) := cells_of HX5.out 3 _ rfl)
            | fail)
          go_ret
          exact ⟨ret_bool (by first | exact HR2.out.symm | (rw [HR2.out]; simp_all; done)), HB5.out⟩
      · have HR := Lib.hid (show validT t = false from by rw [HV.out, hp, hl, decide_eq_false hd]; rfl)
        have d1 : decide ((depthT t : Int) ≤ 40) = false := decide_eq_false (by omega)
        have d2 : decide (depthT t ≤ 40) = false := decide_eq_false hd
        clear hd
        go_wp2_with (first
          | (go_at_call 69; refine (rprintable_any S t v _ HT1.out HZ.out HS.out HW.out).mono ?_; rw [hp]; rintro e w2 ⟨rfl, hb⟩; have HB2 := Lib.hid (HB1.out.trans (hb.mono HB1.out.size)); have HX2 := Lib.hid ((hb.block w.heap.size (lt_of_heap HX1.out)).trans HX1.out); have HT2 := Lib.hid (HT1.out.keep hb); clear hb k0 k1 k2 k3; have k0 : w2.cell? ⟨w.heap.size, 0, none⟩ = some (.int .i64 v.kind) := cells_of HX2.out 0 _ rfl; have k1 : w2.cell? ⟨w.heap.size, 1, none⟩ = some (.string v.text) := cells_of HX2.out 1 _ rfl; have k2 : w2.cell? ⟨w.heap.size, 2, none⟩ = some (.slice v.la v.ll v.lc) := cells_of HX2.out 2 _ rfl; have k3 : w2.cell? ⟨w.heap.size, 3, none⟩ = some (.slice v.ka v.kl v.kc) := cells_of HX2.out 3 _ rfl)
          | (go_at_call 70; refine (rlimits_any _ S t v _ (Nat.le_refl _) HT2.out HZ.out).mono ?_; rw [hl]; rintro e w3 ⟨rfl, hb⟩; have HB3 := Lib.hid (HB2.out.trans (hb.mono HB2.out.size)); have HX3 := Lib.hid ((hb.block w.heap.size (lt_of_heap HX2.out)).trans HX2.out); have HT3 := Lib.hid (HT2.out.keep hb); clear hb k0 k1 k2 k3; have k0 : w3.cell? ⟨w.heap.size, 0, none⟩ = some (.int .i64 v.kind) := cells_of HX3.out 0 _ rfl; have k1 : w3.cell? ⟨w.heap.size, 1, none⟩ = some (.string v.text) := cells_of HX3.out 1 _ rfl; have k2 : w3.cell? ⟨w.heap.size, 2, none⟩ = some (.slice v.la v.ll v.lc) := cells_of HX3.out 2 _ rfl; have k3 : w3.cell? ⟨w.heap.size, 3, none⟩ = some (.slice v.ka v.kl v.kc) := cells_of HX3.out 3 _ rfl)
          | (go_at_call 71; refine (rdepth2_any _ S t v _ (Nat.le_refl _) HT3.out HZ2.out).mono ?_; rintro e w4 ⟨rfl, hb⟩; have HB4 := Lib.hid (HB3.out.trans (hb.mono HB3.out.size)); have HX4 := Lib.hid ((hb.block w.heap.size (lt_of_heap HX3.out)).trans HX3.out); have HT4 := Lib.hid (HT3.out.keep hb); clear hb k0 k1 k2 k3; have k0 : w4.cell? ⟨w.heap.size, 0, none⟩ = some (.int .i64 v.kind) := cells_of HX4.out 0 _ rfl; have k1 : w4.cell? ⟨w.heap.size, 1, none⟩ = some (.string v.text) := cells_of HX4.out 1 _ rfl; have k2 : w4.cell? ⟨w.heap.size, 2, none⟩ = some (.slice v.la v.ll v.lc) := cells_of HX4.out 2 _ rfl; have k3 : w4.cell? ⟨w.heap.size, 3, none⟩ = some (.slice v.ka v.kl v.kc) := cells_of HX4.out 3 _ rfl)
          | fail)
        go_ret
        exact ⟨ret_bool (by first | exact HR.out.symm | (rw [HR.out]; simp_all; done)), HB4.out⟩
end Go.Proofs.YtpdmklbfbpdneaaGreat
