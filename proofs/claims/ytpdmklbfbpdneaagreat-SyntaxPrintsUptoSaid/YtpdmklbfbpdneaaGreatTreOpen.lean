/- Texts of stage 3 that this seat needs: TrInts, TreFind, TreNumber, TreSame, TreRSame, TreClone, TreAt, TreAwake, TreOpen. -/
import Derived.Test.YtpdmklbfbpdneaaGreatRows
import Derived.WalkKit
import Derived.WalkSpells
import Derived.WalkLawsBesides
import Derived.Lib.Hide
import Derived.ChangeSlices
import Derived.ProofKit
import Derived.Below
import Derived.Test.YtpdmklbfbpdneaaGreatTreSize
import Derived.Deep.RegionLaw
import Derived.Deep.DrawnRows
import Derived.Shelf.RegionOpenPlain
import Derived.StillTailTactics
import Derived.Deep.AppendLies
import Derived.Laws.OwnMore
import Derived.Deep.Slices
namespace Go.Proofs.YtpdmklbfbpdneaaGreat
open Go.RowKit Go.ChangeShapes Go.WideShapes
/-- A slice of ints that reads as a list. -/
def IntsAt (w : World) (A : Option Addr) (zs : List Int) : Prop := zs ≠ [] → ∃ b off, A = some ⟨b, off, none⟩ ∧ b < w.heap.size ∧ ∀ (i : Nat) (x : Int), zs[i]? = some x → w.cell? ⟨b, off + i, none⟩ = some (.int .i64 x)
theorem IntsAt.keep {w w' : World} {A : Option Addr} {zs : List Int} (h : IntsAt w A zs) (hb : Below w.heap.size w w') : IntsAt w' A zs := fun hne => by
  obtain ⟨b, off, hA, hlt, hc⟩ := h hne
  exact ⟨b, off, hA, Nat.lt_of_lt_of_le hlt hb.size, fun i x hx => (World.cell?_of_block (w := w) (a := ⟨b, off + i, none⟩) (hb.block b hlt)).trans (hc i x hx)⟩
theorem IntsAt.at {w : World} {A : Option Addr} {zs : List Int} (h : IntsAt w A zs) {i : Nat} (hi : i < zs.length) : ∃ b off, A = some ⟨b, off, none⟩ ∧ b < w.heap.size ∧ ∀ (i : Nat) (x : Int), zs[i]? = some x → w.cell? ⟨b, off + i, none⟩ = some (.int .i64 x) := h (fun e => by rw [e] at hi; simp at hi)
section
variable {H : Type} {enc : TypeId × Value → H} {w : World} {base : Nat} {spare : Nat → Bool} {held : Bool}
theorem cells_int1 : Tryz.prog.cellsOf 3 = 1 := by kernel_rfl
theorem open_ints1 {fuel : Nat} {cs : List Value} {x : DataW H × List MemPlace} (h : DataW.trod enc Tryz.prog w base spare held fuel 26 cs = some x) :
    ∃ (A : Option Addr) (c : Nat) (zs : List Int), cs = [.slice A zs.length c] ∧ IntsAt w A zs ∧ zs.length ≤ maxLen ∧ zs.length ≤ c ∧ ∀ z ∈ zs, (Lit.int .i64 z).wf = true := by
  rcases open_ints Tryz.underlying26 Tryz.underlying3 cells_int1 h with ⟨hcs, _⟩ | ⟨a, len, cap, zs, hcs, _, hl, hm, hz, _, hc, hwf⟩
  · exact ⟨none, 0, [], hcs, fun h => absurd rfl h, Nat.zero_le _, Nat.zero_le _, fun z h => by simp at h⟩
  · have hlz : len ≤ zs.length := by rw [hz]; split <;> omega
    have hlen : (zs.take len).length = len := by rw [List.length_take]; omega
    refine ⟨some a, cap, zs.take len, by rw [hlen]; exact hcs, fun hne => ?_, by rw [hlen]; omega, by rw [hlen]; exact hl, fun z hz => hwf z (List.mem_of_mem_take hz)⟩
    have h0 : 0 < len := by
      rcases Nat.eq_zero_or_pos len with h | h
      · subst h
        exact absurd rfl hne
      · exact h
    obtain ⟨b, off, spot⟩ := a
    have hspot : spot = none := by
      have := World.cell?_spot (hc 0 (by omega))
      simpa [Addr.add] using this
    subst hspot
    have hadd : ∀ n : Nat, ((⟨b, off, none⟩ : Addr).add n) = ⟨b, off + n, none⟩ := fun n => by unfold Addr.add; split <;> simp_all
    refine ⟨b, off, rfl, ?_, fun i x hx => ?_⟩
    · have := hc 0 (by omega)
      rw [hadd] at this
      exact World.block_lt_of_cell? w _ this
    · have hi := (List.getElem?_eq_some_iff.1 hx).1
      rw [hlen] at hi
      have := hc i (by omega)
      rw [hadd] at this
      rw [this]
      rw [List.getElem?_take_of_lt hi] at hx
      rw [List.getD_eq_getElem?_getD, hx]
      rfl
end
end Go.Proofs.YtpdmklbfbpdneaaGreat
namespace Go.Proofs.YtpdmklbfbpdneaaGreat
open Go.RowKit
def kidB (t : Tr) (i : Int) : Bool := decide (0 ≤ i) && decide (i < (t.kids.length : Int))
def kidAt (t : Tr) (i : Int) : Tr := (t.kids[i.toNat]?).getD noTr
theorem kidB_get {t : Tr} {i : Int} (h : kidB t i = true) : 0 ≤ i ∧ i < (t.kids.length : Int) ∧ t.kids[i.toNat]? = some (kidAt t i) := by
  unfold kidB at h
  simp only [Bool.and_eq_true, decide_eq_true_eq] at h
  refine ⟨h.1, h.2, ?_⟩
  unfold kidAt
  rw [List.getElem?_eq_getElem (by omega)]
  rfl
def findT : Tr → List Int → Option Tr
  | t, [] => some t
  | t, i :: r => if kidB t i then findT (kidAt t i) r else none
def numG : Nat → Tr → List Int → Int
  | n, _, [] => n
  | n, t, i :: r => if kidB t i then numG (n + 1 + sizeL (t.kids.take i.toNat)) (kidAt t i) r else -1
set_option maxHeartbeats 1000000 in
theorem haskid_any (S : Nat → Prop) (t : Tr) (v : TV) (i : Int) (w : World) (h : TrAt S w t v) :
    Calls Tryz.prog 129 #[.agg #[.int .i64 v.kind, .string v.text, .slice v.la v.ll v.lc, .slice v.ka v.kl v.kc], .int .i64 i] w fun e w' => e = .returned (.bool (kidB t i)) ∧ Below w.heap.size w w' := by
  have hkl := h.kl.1
  clear h
  obtain ⟨vk, vx, vla, vll, vlc, vka, vkl, vkc⟩ := v
  simp only at hkl
  subst hkl
  have HX := Lib.hid (heap_alloc_new w (trO ⟨vk, vx, vla, vll, vlc, vka, t.kids.length, vkc⟩))
  have HB0 := Lib.hid ((Below.refl w.heap.size w).alloc (Nat.le_refl _) (trO ⟨vk, vx, vla, vll, vlc, vka, t.kids.length, vkc⟩))
  have k3 : (w.alloc (trO ⟨vk, vx, vla, vll, vlc, vka, t.kids.length, vkc⟩)).cell? ⟨w.heap.size, 3, none⟩ = some (.slice vka t.kids.length vkc) := cells_of HX.out 3 _ rfl
  have HR := Lib.hid (show kidB t i = (decide (0 ≤ i) && decide (i < (t.kids.length : Int))) from rfl)
  by_cases h0 : 0 ≤ i
  · have d0 := decide_eq_true h0
    by_cases h1 : i < (t.kids.length : Int)
    · have d1 := decide_eq_true h1
      have HRR := Lib.hid (show kidB t i = true from by rw [HR.out, d0, d1]; rfl)
      clear HR
      go_enter Tryz.func129, Tryz.ntmps129
      go_wp2
      go_ret
      exact ⟨by rw [HRR.out]; rfl, HB0.out⟩
    · have d1 := decide_eq_false h1
      have HRR := Lib.hid (show kidB t i = false from by rw [HR.out, d1, Bool.and_false])
      clear HR
      go_enter Tryz.func129, Tryz.ntmps129
      go_wp2
      go_ret
      exact ⟨by rw [HRR.out]; rfl, HB0.out⟩
  · have d0 := decide_eq_false h0
    have HRR := Lib.hid (show kidB t i = false from by rw [HR.out, d0, Bool.false_and])
    clear HR
    go_enter Tryz.func129, Tryz.ntmps129
    go_wp2
    go_ret
    exact ⟨by rw [HRR.out]; rfl, HB0.out⟩
/-- The four cells of a tree at a place. -/
def CellsAt (w : World) (b o : Nat) (y : TV) : Prop := w.cell? ⟨b, o, none⟩ = some (.int .i64 y.kind) ∧ w.cell? ⟨b, o + 1, none⟩ = some (.string y.text) ∧ w.cell? ⟨b, o + 2, none⟩ = some (.slice y.la y.ll y.lc) ∧ w.cell? ⟨b, o + 3, none⟩ = some (.slice y.ka y.kl y.kc)
theorem CellsAt.keep {w w' : World} {b o : Nat} {y : TV} (h : CellsAt w b o y) (hb : Below w.heap.size w w') : CellsAt w' b o y := by
  have hlt : b < w.heap.size := World.block_lt_of_cell? w _ h.1
  have hk : ∀ i, w'.cell? ⟨b, i, none⟩ = w.cell? ⟨b, i, none⟩ := fun i => World.cell?_of_block (w := w) (a := ⟨b, i, none⟩) (hb.block b hlt)
  exact ⟨(hk _).trans h.1, (hk _).trans h.2.1, (hk _).trans h.2.2.1, (hk _).trans h.2.2.2⟩
/-- Where find stands. -/
def FindAt (S : Nat → Prop) (t0 : Tr) (zs : List Int) (pb po : Nat) (w : World) (p i : Value) (wr : World) : Prop :=
  ∃ (j b o : Nat) (y : TV) (cur : Tr), p = .pointer (some ⟨b, o, none⟩) ∧ i = .int .i64 j ∧ j ≤ zs.length ∧ findT t0 zs = findT cur (zs.drop j) ∧ CellsAt wr b o y ∧ TrAt S wr cur y ∧ (b = pb ∧ o = po ∨ S b) ∧ Below w.heap.size w wr
def FindPost (S : Nat → Prop) (t : Tr) (zs : List Int) (pb po : Nat) (w : World) (e : Ending) (w' : World) : Prop :=
  Below w.heap.size w w' ∧ match findT t zs with
    | none => e = .returned (.pointer none)
    | some u => ∃ b o y, e = .returned (.pointer (some ⟨b, o, none⟩)) ∧ CellsAt w' b o y ∧ TrAt S w' u y ∧ (b = pb ∧ o = po ∨ S b)
theorem drop_cons {α : Type} {l : List α} {j : Nat} {x : α} (h : l[j]? = some x) : l.drop j = x :: l.drop (j + 1) := by
  obtain ⟨hj, he⟩ := List.getElem?_eq_some_iff.1 h
  rw [List.drop_eq_getElem_cons hj, he]
set_option maxRecDepth 100000 in
set_option maxHeartbeats 1000000 in
theorem find_any (S : Nat → Prop) (t : Tr) (y0 : TV) (pb po : Nat) (A : Option Addr) (c : Nat) (zs : List Int) (w : World) (hc : CellsAt w pb po y0) (h : TrAt S w t y0) (hA : IntsAt w A zs) (hz : zs.length ≤ maxLen) :
    Calls Tryz.prog 89 #[.pointer (some ⟨pb, po, none⟩), .slice A zs.length c] w (FindPost S t zs pb po w) := by
  have HC := Lib.hid hc
  have HT := Lib.hid h
  have HA := Lib.hid hA
  have hmax : zs.length ≤ 9223372036854775807 := by unfold maxLen at hz; omega
  clear hc h hA hz
  go_enter Tryz.func89, Tryz.ntmps89
  go_wp2
  go_loopw [0, 9] (fun p i wr => FindAt S t zs pb po w p i wr) (fun _ i _ => zs.length - (intOf i).toNat)
  case atStart => exact ⟨0, pb, po, y0, t, rfl, rfl, Nat.zero_le _, rfl, HC.out, HT.out, .inl ⟨rfl, rfl⟩, Below.refl _ _⟩
  case round =>
    obtain ⟨j, b, o, y, cur, rfl, rfl, hj, hf, hcy, hty, hbo, hb⟩ := hrel
    have HF := Lib.hid hf
    have HTY := Lib.hid hty
    have HCY := Lib.hid hcy
    have HBO := Lib.hid hbo
    have HBR := Lib.hid hb
    clear hf hty hbo hb
    by_cases hlt : j < zs.length
    · obtain ⟨z, hz⟩ : ∃ z, zs[j]? = some z := ⟨_, List.getElem?_eq_getElem hlt⟩
      obtain ⟨ab, ao, rfl, _, hac⟩ := (HA.out.keep HBR.out).at hlt
      have a0 := hac j z hz
      have HD := Lib.hid (drop_cons hz)
      obtain ⟨c0, c1, c2, c3⟩ := hcy
      have hbl : b < wr.heap.size := World.block_lt_of_cell? wr _ c0
      clear hac hz
      cases hkb : kidB cur z
      · have HR := Lib.hid (show findT t zs = none from by rw [HF.out, HD.out, findT, hkb]; rfl)
        go_wp2_with (go_at_call 129; refine (haskid_any S cur y z _ HTY.out).mono ?_; rw [hkb]; rintro e w2 ⟨rfl, hb2⟩; have HB2 := Lib.hid (HBR.out.trans (hb2.mono HBR.out.size)); clear hb2)
        go_ret
        refine ⟨HB2.out, ?_⟩
        rw [HR.out]
        rfl
      · obtain ⟨z0, z1, z2⟩ := kidB_get hkb
        have HR := Lib.hid (show findT t zs = findT (kidAt cur z) (zs.drop (j + 1)) from by rw [HF.out, HD.out, findT, hkb]; rfl)
        obtain ⟨m, rfl⟩ : ∃ m : Nat, z = (m : Int) := ⟨z.toNat, by omega⟩
        rw [Int.toNat_natCast] at z2
        have hm : m < cur.kids.length := by omega
        go_wp2_with (go_at_call 129; refine (haskid_any S cur y m _ HTY.out).mono ?_; rw [hkb]; rintro e w2 ⟨rfl, hb2⟩; have HB2 := Lib.hid (HBR.out.trans (hb2.mono HBR.out.size)); have HC2 := Lib.hid (HCY.out.keep hb2); have HT2 := Lib.hid (HTY.out.keep hb2); clear hb2 c0 c1 c2 c3 hbl a0; obtain ⟨c0, c1, c2, c3⟩ := HC2.out; have hbl : b < w2.heap.size := World.block_lt_of_cell? w2 _ c0; have hkl := HT2.out.kl.1; rw [hkl] at c3; obtain ⟨kb, ko, hka⟩ : ∃ b off, y.ka = some ⟨b, off, none⟩ := HT2.out.addr.resolve_left (by omega); rw [hka] at c3)
        go_roundw
        case measure => simp [intOf]; omega
        case rel =>
          obtain ⟨u, d0, d1, d2, d3, hu⟩ := HT2.out.at hka z2
          obtain ⟨_, b', off', hA', hSb, _⟩ := HT2.out.kid z2
          rw [hka] at hA'
          injection hA' with e
          injection e with e1 e2 _
          subst e1
          exact ⟨j + 1, kb, ko + m * 4, u, kidAt cur m, rfl, by go_num, by omega, HR.out, ⟨d0, d1, d2, d3⟩, hu, .inr hSb, HB2.out⟩
    · have HR := Lib.hid (show findT t zs = some cur from by rw [HF.out, List.drop_eq_nil_of_le (by omega)]; rfl)
      go_wp2
      go_ret
      refine ⟨HBR.out, ?_⟩
      rw [HR.out]
      exact ⟨b, o, y, rfl, HCY.out, HTY.out, HBO.out⟩
end Go.Proofs.YtpdmklbfbpdneaaGreat
namespace Go.Proofs.YtpdmklbfbpdneaaGreat
open Go.RowKit Go.Shelf
/-- Where Number's inner loop stands. -/
def SumAt (cur : Tr) (q m : Nat) (W : World) (n i : Value) (wr : World) : Prop := ∃ l : Nat, i = .int .i64 l ∧ l ≤ q ∧ n = .int .i64 ((m + 1 + sizeL (cur.kids.take l) : Nat) : Int) ∧ Below W.heap.size W wr
/-- Where Number stands. -/
def NumAt (t0 : Tr) (zs : List Int) (w : World) (n i : Value) (wr : World) : Prop :=
  ∃ (j m : Nat) (x : TV) (cur : Tr), n = .int .i64 m ∧ i = .int .i64 j ∧ j ≤ zs.length ∧ numG 0 t0 zs = numG m cur (zs.drop j) ∧ wr.heap[w.heap.size]? = some (trO x) ∧ TrAt (fun k => k < w.heap.size) wr cur x ∧ Below w.heap.size w wr ∧ m + sizeT cur ≤ 140737488355328
theorem size_kid_take {t k : Tr} {j : Nat} (h : t.kids[j]? = some k) : 1 + sizeL (t.kids.take j) + sizeT k ≤ sizeT t := by
  have h1 := sizeL_take h
  have h2 := sizeL_take_le t.kids (j + 1)
  rw [sizeT_eq t]
  omega
set_option maxRecDepth 100000 in
set_option maxHeartbeats 2000000 in
theorem tnumber_any (S : Nat → Prop) (t : Tr) (v : TV) (A : Option Addr) (c : Nat) (zs : List Int) (w : World) (h : TrAt S w t v) (hA : IntsAt w A zs) (hz : zs.length ≤ maxLen) (hs : sizeT t ≤ 140737488355328) :
    Calls Tryz.prog 83 #[.agg #[.int .i64 v.kind, .string v.text, .slice v.la v.ll v.lc, .slice v.ka v.kl v.kc], .slice A zs.length c] w fun e w' => e = .returned (.int .i64 (numG 0 t zs)) ∧ Below w.heap.size w w' := by
  have HB0 := Lib.hid ((Below.refl w.heap.size w).alloc (Nat.le_refl _) (trO v))
  have HT := Lib.hid (TrAt.low t v (h.keep HB0.out))
  have HTL := Lib.hid (show TrAt (fun k => k < w.heap.size) (w.alloc (trO v)) t v from (TrAt.low t v h).keep HB0.out)
  have HX := Lib.hid (heap_alloc_new w (trO v))
  have HA := Lib.hid hA
  have HS := Lib.hid hs
  have hmax : zs.length ≤ 9223372036854775807 := by unfold maxLen at hz; omega
  clear h hA hz hs
  go_enter Tryz.func83, Tryz.ntmps83
  go_wp2
  go_loopw [5, 12] (fun n i wr => NumAt t zs w n i wr) (fun _ i _ => zs.length - (intOf i).toNat)
  case atStart => exact ⟨0, 0, v, t, rfl, rfl, Nat.zero_le _, rfl, HX.out, HTL.out, HB0.out, by have := HS.out; omega⟩
  case round =>
    obtain ⟨j, m, x, cur, rfl, rfl, hj, hf, hx, hty, hb, hms⟩ := hrel
    have HF := Lib.hid hf
    have HTY := Lib.hid hty
    have HXX := Lib.hid hx
    have HBR := Lib.hid hb
    have HMS := Lib.hid hms
    have hkl := hty.kl.1
    obtain ⟨vk, vx, vla, vll, vlc, vka, vkl, vkc⟩ := x
    simp only at hkl
    subst hkl
    clear hf hty hx hb hms
    have k0 := cells_of HXX.out 0 _ rfl
    have k1 := cells_of HXX.out 1 _ rfl
    have k2 := cells_of HXX.out 2 _ rfl
    have k3 := cells_of HXX.out 3 _ rfl
    have hbl := lt_of_heap HXX.out
    by_cases hlt : j < zs.length
    · obtain ⟨z, hz⟩ : ∃ z, zs[j]? = some z := ⟨_, List.getElem?_eq_getElem hlt⟩
      obtain ⟨ab, ao, rfl, _, hac⟩ := (HA.out.keep HBR.out).at hlt
      have a0 := hac j z hz
      have HD := Lib.hid (drop_cons hz)
      clear hac hz
      cases hkb : kidB cur z
      · have HR := Lib.hid (show numG 0 t zs = -1 from by rw [HF.out, HD.out, numG, hkb]; rfl)
        go_wp2_with (go_at_call 129; refine (haskid_any _ cur _ z _ HTY.out).mono ?_; rw [hkb]; rintro e w2 ⟨rfl, hb2⟩; have HB2 := Lib.hid (HBR.out.trans (hb2.mono HBR.out.size)); clear hb2)
        go_ret
        exact ⟨by rw [HR.out]; rfl, HB2.out⟩
      · obtain ⟨z0, z1, z2⟩ := kidB_get hkb
        have HR := Lib.hid (show numG 0 t zs = numG (m + 1 + sizeL (cur.kids.take z.toNat)) (kidAt cur z) (zs.drop (j + 1)) from by rw [HF.out, HD.out, numG, hkb]; rfl)
        obtain ⟨q, rfl⟩ : ∃ q : Nat, z = (q : Int) := ⟨z.toNat, by omega⟩
        rw [Int.toNat_natCast] at z2 HR
        have hq : q < cur.kids.length := by omega
        obtain ⟨kb, ko, hka⟩ : ∃ b off, vka = some ⟨b, off, none⟩ := HTY.out.addr.resolve_left (by omega)
        subst hka
        have hcap := HTY.out.caps.2
        simp only at hcap
        have hsk := size_kid_take z2
        have hms := HMS.out
        have hqc : (q : Int) ≤ (vkc : Int) := by omega
        have hm1 : (m : Int) + 1 ≤ 140737488355328 := by omega
        have HSK := Lib.hid hsk
        clear hsk hms
        go_wp2_with (go_at_call 129; refine (haskid_any _ cur _ q _ HTY.out).mono ?_; rw [hkb]; rintro e w2 ⟨rfl, hb2⟩; have HB2 := Lib.hid (HBR.out.trans (hb2.mono HBR.out.size)); have HX2 := Lib.hid ((hb2.block w.heap.size hbl).trans HXX.out); have HT2 := Lib.hid (HTY.out.keep hb2); clear hb2 k0 k1 k2 k3 hbl a0; have k3 := cells_of HX2.out 3 _ rfl)
        go_loopw [5, 27] (fun n i wr => SumAt cur q m w2 n i wr) (fun _ i _ => q - (intOf i).toNat)
        case atStart => exact ⟨0, rfl, Nat.zero_le _, by go_num, Below.refl _ _⟩
        case round =>
          obtain ⟨l, rfl, hl, rfl, hb3⟩ := hrel
          have HB3 := Lib.hid hb3
          have HX3 := Lib.hid ((hb3.block w.heap.size (lt_of_heap HX2.out)).trans HX2.out)
          have HT3 := Lib.hid (HT2.out.keep hb3)
          clear hb3 k3
          by_cases hlq : l < q
          · obtain ⟨k, hk⟩ : ∃ k, cur.kids[l]? = some k := ⟨_, List.getElem?_eq_getElem (by omega)⟩
            obtain ⟨u, c0, c1, c2, c3, hu⟩ := HT3.out.at rfl hk
            have HU := Lib.hid hu
            have HS1 := Lib.hid (sizeL_take hk)
            have hs0 := sizeL_take hk
            have hle : sizeL (cur.kids.take (l + 1)) ≤ sizeL (cur.kids.take q) := by
              have : cur.kids.take (l + 1) = (cur.kids.take q).take (l + 1) := by rw [List.take_take, Nat.min_eq_left (by omega)]
              rw [this]
              exact sizeL_take_le _ _
            have hsk := HSK.out
            have hms := HMS.out
            have HSZ := Lib.hid (show sizeT k ≤ 140737488355328 by omega)
            have q1 : ((m : Nat) : Int) + 1 + ((sizeL (cur.kids.take l) : Nat) : Int) + (sizeT k : Nat) ≤ 140737488355328 := by omega
            have hj0 : (0 : Int) ≤ (l : Int) := by omega
            have hj1 : (l : Int) < (q : Int) := by omega
            have HA1 := Lib.hid ((Below.refl wr.heap.size wr).alloc (Nat.le_refl _) (trO u))
            have hlm : (l : Int) + 1 ≤ 140737488355328 := by have h1 := kids_le_size cur.kids; have h2 := sizeT_eq cur; omega
            clear hk hu hs0 hle hsk hms
            go_wp2_with (go_at_call 130; refine (size_any (SizeOf.sizeOf k) _ k u _ (Nat.le_refl _) (HU.out.keep HA1.out) HSZ.out).mono ?_; rintro e w4 ⟨rfl, hb4⟩; have HB4 := Lib.hid (HB3.out.trans ((HA1.out.trans (hb4.mono HA1.out.size)).mono HB3.out.size)); clear hb4)
            go_roundw
            case measure => simp [intOf]; omega
            case rel => exact ⟨l + 1, by go_num, by omega, by rw [HS1.out]; go_num, HB4.out⟩
          · have hlq' : l = q := by omega
            subst hlq'
            obtain ⟨u, c0, c1, c2, c3, hu⟩ := HT3.out.at rfl z2
            have HU := Lib.hid hu
            have k0 := cells_of HX3.out 0 _ rfl
            have k1 := cells_of HX3.out 1 _ rfl
            have k2 := cells_of HX3.out 2 _ rfl
            have k3 := cells_of HX3.out 3 _ rfl
            have rf := Lib.frozen_of_heap HX3.out
            have hbl := lt_of_heap HX3.out
            have kbl : kb < wr.heap.size := World.block_lt_of_cell? wr _ c3
            have hl0 : (0 : Int) ≤ (l : Int) := by omega
            have hl1 : (l : Int) < (cur.kids.length : Int) := by omega
            have HK := Lib.hid z2
            clear hu z2 hkb hl hlq hq hqc z0 z1 hm1
            go_wp2
            go_roundw
            case measure => simp [intOf]; omega
            case rel =>
              have hbw : Below w.heap.size w wr := HB2.out.trans (HB3.out.mono HB2.out.size)
              have hms := HMS.out
              have hsk := HSK.out
              exact ⟨j + 1, m + 1 + sizeL (cur.kids.take l), u, kidAt cur l, by go_num, by go_num, by omega, HR.out, setT_heap u HX3.out, TrAt.move (fun _ h => h) (fun k hk _ => (setT_below wr w.heap.size u).block k hk) _ _ HU.out, hbw.trans (setT_below wr w.heap.size u), by omega⟩
    · have HR := Lib.hid (show numG 0 t zs = m from by rw [HF.out, List.drop_eq_nil_of_le (by omega)]; rfl)
      go_wp2
      go_ret
      exact ⟨by rw [HR.out]; rfl, HBR.out⟩
end Go.Proofs.YtpdmklbfbpdneaaGreat
namespace Go.Proofs.YtpdmklbfbpdneaaGreat
open Go.RowKit Go.Shelf
theorem mixed : Tryz.prog.follows Departure.mixedOrders = true := by kernel_rfl
def textsEq : List ByteArray → List ByteArray → Bool
  | [], [] => true
  | a :: r, b :: s => (a.toList == b.toList) && textsEq r s
  | _, _ => false
mutual
def sameT : Tr → Tr → Bool
  | .mk k x ls ks, .mk k' x' ls' ks' => (k == k') && (x.toList == x'.toList) && textsEq ls ls' && sameL ks ks'
def sameL : List Tr → List Tr → Bool
  | [], [] => true
  | a :: r, b :: s => sameT a b && sameL r s
  | _, _ => false
end
theorem sameT_eq (a b : Tr) : sameT a b = ((a.kind == b.kind) && (a.text.toList == b.text.toList) && textsEq a.leads b.leads && sameL a.kids b.kids) := by
  cases a; cases b; rw [sameT]; rfl
theorem textsEq_len : (a b : List ByteArray) → a.length ≠ b.length → textsEq a b = false
  | [], [], h => absurd rfl h
  | [], _ :: _, _ => rfl
  | _ :: _, [], _ => rfl
  | a :: r, b :: s, h => by
    unfold textsEq
    rw [textsEq_len r s (by simpa using h), Bool.and_false]
theorem sameL_len : (a b : List Tr) → a.length ≠ b.length → sameL a b = false
  | [], [], h => absurd rfl h
  | [], _ :: _, _ => by unfold sameL; rfl
  | _ :: _, [], _ => by unfold sameL; rfl
  | a :: r, b :: s, h => by
    rw [sameL, sameL_len r s (by simpa using h), Bool.and_false]
theorem textsEq_nil : textsEq [] [] = true := rfl
theorem sameL_nil : sameL [] [] = true := by rw [sameL]
theorem textsEq_cons (a b : ByteArray) (r s : List ByteArray) : textsEq (a :: r) (b :: s) = ((a.toList == b.toList) && textsEq r s) := rfl
theorem sameL_cons (a b : Tr) (r s : List Tr) : sameL (a :: r) (b :: s) = (sameT a b && sameL r s) := by rw [sameL]
/-- A slice of strings in memory. -/
theorem StrsAt.at {S : Nat → Prop} {w : World} {A : Option Addr} {l : List ByteArray} (h : StrsAt S w A l) {j : Nat} (hj : j < l.length) : ∃ b off, A = some ⟨b, off, none⟩ ∧ ∀ (i : Nat) (x : ByteArray), l[i]? = some x → w.cell? ⟨b, off + i, none⟩ = some (.string x) := by
  obtain ⟨b, off, hA, _, hc⟩ := h (fun e => by rw [e] at hj; simp at hj)
  exact ⟨b, off, hA, hc⟩
theorem StrsAt.keep {S : Nat → Prop} {w w' : World} {A : Option Addr} {l : List ByteArray} (h : StrsAt S w A l) (hb : Below w.heap.size w w') : StrsAt S w' A l := h.move (fun _ h => h) (fun k _ hlt => hb.block k hlt)
def TextsAt (a b : List ByteArray) (w : World) (i : Value) (wr : World) : Prop := ∃ j : Nat, i = .int .i64 j ∧ j ≤ a.length ∧ textsEq a b = textsEq (a.drop j) (b.drop j) ∧ Below w.heap.size w wr
set_option maxRecDepth 100000 in
set_option maxHeartbeats 1000000 in
theorem rtexts_any (S S' : Nat → Prop) (A B : Option Addr) (ca cb : Nat) (a b : List ByteArray) (w : World) (ha : StrsAt S w A a) (hb : StrsAt S' w B b) (hm : a.length ≤ 140737488355328) :
    Calls Tryz.prog 21 #[.slice A a.length ca, .slice B b.length cb] w fun e w' => e = .returned (.bool (textsEq a b)) ∧ Below w.heap.size w w' := by
  have HA := Lib.hid ha
  have HB := Lib.hid hb
  clear ha hb
  by_cases hl : a.length = b.length
  · have hne : ((a.length : Int) != (b.length : Int)) = false := by rw [hl]; simp
    go_enter Tryz.func21, Tryz.ntmps21
    go_wp2
    go_loopw [5] (fun i wr => TextsAt a b w i wr) (fun i _ => a.length - (intOf i).toNat)
    case atStart => exact ⟨0, rfl, Nat.zero_le _, rfl, Below.refl _ _⟩
    case round =>
      obtain ⟨j, rfl, hj, hf, hbr⟩ := hrel
      have HF := Lib.hid hf
      have HBR := Lib.hid hbr
      clear hf hbr
      by_cases hlt : j < a.length
      · obtain ⟨x, hx⟩ : ∃ x, a[j]? = some x := ⟨_, List.getElem?_eq_getElem hlt⟩
        obtain ⟨y, hy⟩ : ∃ y, b[j]? = some y := ⟨_, List.getElem?_eq_getElem (by omega)⟩
        obtain ⟨xb, xo, rfl, hxc⟩ := (HA.out.keep HBR.out).at hlt
        obtain ⟨yb, yo, rfl, hyc⟩ := (HB.out.keep HBR.out).at (j := j) (by omega)
        have c0 := hxc j x hx
        have d0 := hyc j y hy
        have HD := Lib.hid (show textsEq a b = ((x.toList == y.toList) && textsEq (a.drop (j + 1)) (b.drop (j + 1))) from by rw [HF.out, drop_cons hx, drop_cons hy, textsEq_cons])
        have hjb : (j : Int) < (b.length : Int) := by omega
        have hja : (j : Int) < (a.length : Int) := by omega
        have hj0 : (0 : Int) ≤ (j : Int) := by omega
        clear hxc hyc hx hy
        cases hxy : (x.toList == y.toList)
        · have HR := Lib.hid (show textsEq a b = false from by rw [HD.out, hxy, Bool.false_and])
          go_wp2_with fail
          first | go_region_o | go_region
          all_goals
            go_simp
            go_wp2
            go_ret
            exact ⟨by rw [HR.out]; rfl, HBR.out.drew⟩
        · have HR := Lib.hid (show textsEq a b = textsEq (a.drop (j + 1)) (b.drop (j + 1)) from by rw [HD.out, hxy, Bool.true_and])
          go_wp2_with fail
          first | go_region_o | go_region
          all_goals
            go_wp2
            go_roundw
            case measure => simp [intOf]; omega
            case rel => exact ⟨j + 1, by go_num, by omega, HR.out, HBR.out.drew⟩
      · have HR := Lib.hid (show textsEq a b = true from by rw [HF.out, List.drop_eq_nil_of_le (by omega), List.drop_eq_nil_of_le (by omega)]; rfl)
        go_wp2
        go_ret
        exact ⟨by rw [HR.out]; rfl, HBR.out⟩
  · have hne : ((a.length : Int) != (b.length : Int)) = true := by simp; omega
    have HR := Lib.hid (textsEq_len a b hl)
    go_enter Tryz.func21, Tryz.ntmps21
    go_wp2
    go_ret
    exact ⟨by rw [HR.out]; rfl, Below.refl _ _⟩
/-- A slice of trees in memory. -/
def KidsIn (S : Nat → Prop) (w : World) (A : Option Addr) (l : List Tr) : Prop := l ≠ [] → ∃ b off, A = some ⟨b, off, none⟩ ∧ S b ∧ TrsAt S w b off l
theorem TrAt.kidsIn {S : Nat → Prop} {w : World} {t : Tr} {v : TV} (h : TrAt S w t v) : KidsIn S w v.ka t.kids := by
  cases t with
  | mk k x ls ks =>
    unfold TrAt at h
    exact h.2.2.2.2.2.1
theorem TrAt.strsIn {S : Nat → Prop} {w : World} {t : Tr} {v : TV} (h : TrAt S w t v) : StrsAt S w v.la t.leads := by
  cases t with
  | mk k x ls ks =>
    unfold TrAt at h
    exact h.2.2.2.2.1
theorem KidsIn.keep {S : Nat → Prop} {w w' : World} {A : Option Addr} {l : List Tr} (h : KidsIn S w A l) (hb : Below w.heap.size w w') : KidsIn S w' A l := fun hne => by
  obtain ⟨b, off, hA, hS, ht⟩ := h hne
  exact ⟨b, off, hA, hS, TrsAt.move (fun _ h => h) (fun k _ hlt => hb.block k hlt) b hS l off ht⟩
theorem KidsIn.at {S : Nat → Prop} {w : World} {A : Option Addr} {l : List Tr} (h : KidsIn S w A l) {j : Nat} {k : Tr} (hk : l[j]? = some k) : ∃ b off, A = some ⟨b, off, none⟩ ∧ ∃ u : TV, w.cell? ⟨b, off + j * 4, none⟩ = some (.int .i64 u.kind) ∧ w.cell? ⟨b, off + j * 4 + 1, none⟩ = some (.string u.text) ∧ w.cell? ⟨b, off + j * 4 + 2, none⟩ = some (.slice u.la u.ll u.lc) ∧ w.cell? ⟨b, off + j * 4 + 3, none⟩ = some (.slice u.ka u.kl u.kc) ∧ TrAt S w k u := by
  obtain ⟨b, off, hA, hS, ht⟩ := h (fun e => by rw [e] at hk; simp at hk)
  exact ⟨b, off, hA, TrsAt.get l off ht j k hk⟩
def SameC (f : Nat) (N : Nat) : Prop := ∀ (S S' : Nat → Prop) (a b : Tr) (u v : TV) (w : World), SizeOf.sizeOf a ≤ N → TrAt S w a u → TrAt S' w b v → smallT a = true →
    Calls Tryz.prog f #[.agg #[.int .i64 u.kind, .string u.text, .slice u.la u.ll u.lc, .slice u.ka u.kl u.kc], .agg #[.int .i64 v.kind, .string v.text, .slice v.la v.ll v.lc, .slice v.ka v.kl v.kc]] w fun e w' => e = .returned (.bool (sameT a b)) ∧ Below w.heap.size w w'
def EqAt (a b : List Tr) (w : World) (i : Value) (wr : World) : Prop := ∃ j : Nat, i = .int .i64 j ∧ j ≤ a.length ∧ sameL a b = sameL (a.drop j) (b.drop j) ∧ Below w.heap.size w wr
end Go.Proofs.YtpdmklbfbpdneaaGreat
namespace Go.Proofs.YtpdmklbfbpdneaaGreat
open Go.RowKit Go.Shelf
end Go.Proofs.YtpdmklbfbpdneaaGreat
namespace Go.Proofs.YtpdmklbfbpdneaaGreat
open Go.RowKit Go.Shelf
section
variable {P : Program} {w : World} {ops : Array Oper} {rest : List Oper} {o : Oper} {a : Act} {Q : Exit → Act → World → Prop}
theorem wpList_append_zero (hgd : o.guard = none) (s x : Operand) (t : TypeId)
    (ho : o.op = .call { callee := .builtin .append, args := #[s, x], argTypes := #[t, t] }) (e : TypeId) (i : TypeInfo) (ht : P.underlying t = some (.slice e)) (hi : P.info? e = some i)
    (hs : a.eval s = .slice none 0 0) {A : Option Addr} {c : Nat} (hx : a.eval x = .slice A 0 c) (h : wpList P ops Q rest (a.put o.dst (.slice none 0 0)) w) : wpList P ops Q (o :: rest) a w := by
  refine wpList_plain hgd fun K hK => ?_
  have hr : (Builtin.append_ #[t, t] o.type #[.slice none 0 0, .slice A 0 c]).run P w = .ok (.slice none 0 0) w := by
    cases A <;> simp [Builtin.append_, run_underlying ht, sizeOf, typeInfo, hi, Builtin.lenOf, Builtin.firstCells, loadCells, loadCellsFrom]
  unfold Oper.wp execOp
  simp only [ho, resolve, invoke, builtin, Sem.run_bind, Sem.run_pure, Result.andThen_ok, List.map_toArray, List.map_cons, List.map_nil, hs, hx, hr]
  exact hK _ _ h
/-- A slice, copied behind nil. -/
theorem wpList_copy (hgd : o.guard = none) (s x : Operand) (t : TypeId)
    (ho : o.op = .call { callee := .builtin .append, args := #[s, x], argTypes := #[t, t] })
    (e : TypeId) (i : TypeInfo) (z : Value) (size bytes : Nat) (ht : P.underlying t = some (.slice e)) (hi : P.info? e = some i) (hz : i.zero = some z)
    (hsize : i.size = size) (hby : i.bytes = bytes) (hzs : z.cells.size = size) (hsz : 0 < size)
    (hs : a.eval s = .slice none 0 0) {A : Option Addr} {m c : Nat} {news : List Value} (hx : a.eval x = .slice A m c) (hl : news.length = m * size)
    (hnews : 0 < m → ∃ b off, A = some ⟨b, off, none⟩ ∧ ∀ j u, news[j]? = some u → w.cell? ⟨b, off + j, none⟩ = some u) (h1 : ∀ u ∈ news, u.oneCell' = true)
    (hbytes : m * bytes ≤ 140737488355328) (h63 : m ≤ maxLen)
    (h : ∀ v' w', w'.ownsRow w.heap.size e size v' m news → w.grownBy w' none → wpList P ops Q rest (a.put o.dst v') w') : wpList P ops Q (o :: rest) a w := by
  rcases Nat.eq_zero_or_pos m with hm | hm
  · subst hm
    have hn : news = [] := List.eq_nil_of_length_eq_zero (by rw [hl]; omega)
    subst hn
    exact wpList_append_zero hgd s x t ho e i ht hi hs hx (h _ w (World.ownsRow_nil _ _ _ _) ⟨rfl, rfl, rfl, Nat.le_refl _, fun _ _ _ => rfl⟩)
  · obtain ⟨b, off, hA, hc⟩ := hnews hm
    subst hA
    have hadd : ∀ j, ((⟨b, off, none⟩ : Addr).add j) = ⟨b, off + j, none⟩ := fun j => by unfold Addr.add; split <;> simp_all
    refine wpList_append_lies w hgd s x t ho w.heap.size e i z size bytes ht hi hz hsize hby hzs hsz (.slice none 0 0) 0 [] hs (World.ownsRow_nil _ _ _ _) ⟨b, off, none⟩ m c news hx hl (fun j u hu => by rw [hadd]; exact hc j u hu) h1 hm (by omega) (by rw [Nat.zero_add]; exact hbytes) (Nat.le_refl _) w.heap.size rfl ?_
    intro g cap w' hown hg _ _
    rw [Nat.zero_add, List.nil_append] at hown
    exact h _ w' (by rw [Nat.zero_add]; exact hown) hg
end
mutual
/-- No list in a tree is too long to be copied. -/
def fitT : Tr → Bool
  | .mk _ _ ls ks => decide (ls.length ≤ 8796093022208) && decide (ks.length ≤ 1900000000000) && fitL ks
def fitL : List Tr → Bool
  | [] => true
  | t :: r => fitT t && fitL r
end
theorem fitL_get : (l : List Tr) → (j : Nat) → (k : Tr) → fitL l = true → l[j]? = some k → fitT k = true
  | [], j, k, _, h => by simp at h
  | a :: r, j, k, hs, h => by
    unfold fitL at hs
    rw [Bool.and_eq_true] at hs
    cases j with
    | zero => simp at h; subst h; exact hs.1
    | succ j => exact fitL_get r j k hs.2 (by simpa using h)
theorem fitT_kids {t : Tr} (h : fitT t = true) : t.leads.length ≤ 8796093022208 ∧ t.kids.length ≤ 1900000000000 ∧ ∀ (j : Nat) (k : Tr), t.kids[j]? = some k → fitT k = true := by
  cases t with
  | mk kd tx ls ks =>
    unfold fitT at h
    simp only [Bool.and_eq_true, decide_eq_true_eq] at h
    exact ⟨h.1.1, h.1.2, fun j k hk => fitL_get ks j k h.2 hk⟩
/-- The cells of the trees of a list. -/
theorem TrsAt.vals {S : Nat → Prop} {w : World} {b : Nat} : (l : List Tr) → (off : Nat) → TrsAt S w b off l → ∃ us : List TV, us.length = l.length ∧ (∀ (i : Nat) (k : Tr) (u : TV), l[i]? = some k → us[i]? = some u → TrAt S w k u) ∧ ∀ (j : Nat) (x : Value), (tvCells us)[j]? = some x → w.cell? ⟨b, off + j, none⟩ = some x
  | [], off, h => ⟨[], rfl, fun i k u h => by simp at h, fun j x h => by simp [tvCells] at h⟩
  | t :: r, off, h => by
    unfold TrsAt at h
    obtain ⟨v, c0, c1, c2, c3, ht, hr⟩ := h
    obtain ⟨us, h1, h2, h3⟩ := TrsAt.vals r (off + 4) hr
    refine ⟨v :: us, by simp [h1], fun i k u hk hu => ?_, fun j x hx => ?_⟩
    · cases i with
      | zero => simp at hk hu; subst hk hu; exact ht
      | succ i => exact h2 i k u (by simpa using hk) (by simpa using hu)
    · have hs : tvCells (v :: us) = v.cells ++ tvCells us := by unfold tvCells; rw [List.flatMap_cons]
      rw [hs] at hx
      have h4 : v.cells.length = 4 := rfl
      rcases Nat.lt_or_ge j 4 with hj | hj
      · rw [List.getElem?_append_left (by omega)] at hx
        rcases (show j = 0 ∨ j = 1 ∨ j = 2 ∨ j = 3 from by omega) with rfl | rfl | rfl | rfl
        · simp [TV.cells] at hx; subst hx; exact c0
        · simp [TV.cells] at hx; subst hx; exact c1
        · simp [TV.cells] at hx; subst hx; exact c2
        · simp [TV.cells] at hx; subst hx; exact c3
      · rw [List.getElem?_append_right (by omega), h4] at hx
        have := h3 (j - 4) x hx
        rw [show off + 4 + (j - 4) = off + j from by omega] at this
        exact this
theorem KidsIn.vals {S : Nat → Prop} {w : World} {t : Tr} {v : TV} (h : TrAt S w t v) : ∃ us : List TV, us.length = t.kids.length ∧ (∀ (i : Nat) (k : Tr) (u : TV), t.kids[i]? = some k → us[i]? = some u → TrAt S w k u) ∧ (0 < t.kids.length → ∃ b off, v.ka = some ⟨b, off, none⟩ ∧ ∀ (j : Nat) (x : Value), (tvCells us)[j]? = some x → w.cell? ⟨b, off + j, none⟩ = some x) := by
  cases t with
  | mk k x ls ks =>
    unfold TrAt at h
    by_cases hk : ks = []
    · subst hk
      exact ⟨[], rfl, (fun i k u h _ => by simp [Tr.kids] at h), (fun h => absurd h (by simp [Tr.kids]))⟩
    · obtain ⟨b, off, hA, _, ht⟩ := h.2.2.2.2.2.1 hk
      obtain ⟨us, h1, h2, h3⟩ := TrsAt.vals ks off ht
      exact ⟨us, h1, h2, fun _ => ⟨b, off, hA, h3⟩⟩
theorem StrsAt.vals {S : Nat → Prop} {w : World} {A : Option Addr} {l : List ByteArray} (h : StrsAt S w A l) : 0 < l.length → ∃ b off, A = some ⟨b, off, none⟩ ∧ ∀ (j : Nat) (x : Value), (l.map Value.string)[j]? = some x → w.cell? ⟨b, off + j, none⟩ = some x := fun h0 => by
  obtain ⟨b, off, hA, _, hc⟩ := h (fun e => by rw [e] at h0; simp at h0)
  refine ⟨b, off, hA, fun j x hx => ?_⟩
  rw [List.getElem?_map] at hx
  cases hl : l[j]? with
  | none => rw [hl] at hx; cases hx
  | some y =>
    rw [hl] at hx
    simp at hx
    subst hx
    exact hc j y hl
theorem strings_one (l : List ByteArray) : ∀ u ∈ l.map Value.string, u.oneCell' = true := by
  intro u hu
  obtain ⟨x, _, rfl⟩ := List.mem_map.1 hu
  rfl
theorem grown_below {w w' : World} (h : w.grownBy w' none) : Below w.heap.size w w' := ⟨h.os, h.tape, h.output, h.size, fun k hk => h.block k hk (by simp)⟩
def RowIs (cs : Array Value) (vs : List TV) : Prop := ∀ i v, vs[i]? = some v → cs[i * 4]? = some (.int .i64 v.kind) ∧ cs[i * 4 + 1]? = some (.string v.text) ∧ cs[i * 4 + 2]? = some (.slice v.la v.ll v.lc) ∧ cs[i * 4 + 3]? = some (.slice v.ka v.kl v.kc)
def setR (cs : Array Value) (j : Nat) (y : TV) : Array Value := (((cs.setIfInBounds (j * 4) (.int .i64 y.kind)).setIfInBounds (j * 4 + 1) (.string y.text)).setIfInBounds (j * 4 + 2) (.slice y.la y.ll y.lc)).setIfInBounds (j * 4 + 3) (.slice y.ka y.kl y.kc)
theorem RowIs.set {cs : Array Value} {vs : List TV} (h : RowIs cs vs) {j : Nat} (hj : j < vs.length) (y : TV) : RowIs (setR cs j y) (vs.set j y) := by
  obtain ⟨x, hx⟩ : ∃ x, vs[j]? = some x := ⟨_, List.getElem?_eq_getElem hj⟩
  obtain ⟨g0, g1, g2, g3⟩ := h j x hx
  have l0 := (Array.getElem?_eq_some_iff.1 g0).1
  have l1 := (Array.getElem?_eq_some_iff.1 g1).1
  have l2 := (Array.getElem?_eq_some_iff.1 g2).1
  have l3 := (Array.getElem?_eq_some_iff.1 g3).1
  intro i v hv
  unfold setR
  by_cases hij : i = j
  · subst hij
    rw [List.getElem?_set_self hj] at hv
    injection hv with hv
    subst hv
    refine ⟨?_, ?_, ?_, ?_⟩ <;> simp [Array.getElem?_setIfInBounds] <;> omega
  · rw [List.getElem?_set_ne (fun e => hij e.symm)] at hv
    obtain ⟨f0, f1, f2, f3⟩ := h i v hv
    refine ⟨?_, ?_, ?_, ?_⟩
    · rw [Array.getElem?_setIfInBounds_ne (by omega), Array.getElem?_setIfInBounds_ne (by omega), Array.getElem?_setIfInBounds_ne (by omega), Array.getElem?_setIfInBounds_ne (by omega)]; exact f0
    · rw [Array.getElem?_setIfInBounds_ne (by omega), Array.getElem?_setIfInBounds_ne (by omega), Array.getElem?_setIfInBounds_ne (by omega), Array.getElem?_setIfInBounds_ne (by omega)]; exact f1
    · rw [Array.getElem?_setIfInBounds_ne (by omega), Array.getElem?_setIfInBounds_ne (by omega), Array.getElem?_setIfInBounds_ne (by omega), Array.getElem?_setIfInBounds_ne (by omega)]; exact f2
    · rw [Array.getElem?_setIfInBounds_ne (by omega), Array.getElem?_setIfInBounds_ne (by omega), Array.getElem?_setIfInBounds_ne (by omega), Array.getElem?_setIfInBounds_ne (by omega)]; exact f3
/-- All blocks but one are as they were. -/
structure Rest1 (g : Nat) (w w' : World) : Prop where
  os : w'.os = w.os
  tape : w'.tape = w.tape
  output : w'.output = w.output
  size : w.heap.size ≤ w'.heap.size
  block : ∀ k, k < w.heap.size → k ≠ g → w'.heap[k]? = w.heap[k]?
theorem Rest1.refl (g : Nat) (w : World) : Rest1 g w w := ⟨rfl, rfl, rfl, Nat.le_refl _, fun _ _ _ => rfl⟩
theorem Rest1.trans {g : Nat} {u v w : World} (h : Rest1 g u v) (k : Rest1 g v w) : Rest1 g u w := ⟨k.os.trans h.os, k.tape.trans h.tape, k.output.trans h.output, Nat.le_trans h.size k.size, fun i hi hx => (k.block i (Nat.lt_of_lt_of_le hi h.size) hx).trans (h.block i hi hx)⟩
theorem Rest1.below {g : Nat} {w w' : World} (h : Below w.heap.size w w') : Rest1 g w w' := ⟨h.os, h.tape, h.output, h.size, fun k hk _ => h.block k hk⟩
theorem Rest1.set (w : World) (g o : Nat) (u : Value) : Rest1 g w (w.setCell ⟨g, o, none⟩ u) := ⟨rfl, rfl, rfl, by simp [World.setCell], fun k _ hk => Below.heap_setCell _ _ _ _ (fun e : k = g => hk e)⟩
theorem Rest1.down {g B : Nat} {w w' : World} (h : Rest1 g w w') (hg : B ≤ g) (hB : B ≤ w.heap.size) : Below B w w' := ⟨h.os, h.tape, h.output, h.size, fun k hk => h.block k (Nat.lt_of_lt_of_le hk hB) (by omega)⟩
def setK (w : World) (g j : Nat) (y : TV) : World := (((w.setCell ⟨g, j * 4, none⟩ (.int .i64 y.kind)).setCell ⟨g, j * 4 + 1, none⟩ (.string y.text)).setCell ⟨g, j * 4 + 2, none⟩ (.slice y.la y.ll y.lc)).setCell ⟨g, j * 4 + 3, none⟩ (.slice y.ka y.kl y.kc)
theorem setK_heap {w : World} {g j : Nat} {cs : Array Value} {T : TypeId} (y : TV) (h : w.heap[g]? = some (.cells cs T (0, 0))) : (setK w g j y).heap[g]? = some (.cells (setR cs j y) T (0, 0)) := heap_set (heap_set (heap_set (heap_set h rfl) rfl) rfl) rfl
theorem setK_rest (w : World) (g j : Nat) (y : TV) : Rest1 g w (setK w g j y) := (((Rest1.set w g _ _).trans (Rest1.set _ g _ _)).trans (Rest1.set _ g _ _)).trans (Rest1.set _ g _ _)
/-- Where clone's loop stands. -/
def ClAt (t : Tr) (us : List TV) (g : Nat) (W : World) (i : Value) (wr : World) : Prop :=
  ∃ (j : Nat) (vs : List TV) (cs : Array Value), i = .int .i64 j ∧ j ≤ t.kids.length ∧ vs.length = t.kids.length ∧ (∀ i, j ≤ i → vs[i]? = us[i]?) ∧ wr.heap[g]? = some (.cells cs 25 (0, 0)) ∧ RowIs cs vs ∧
    (∀ (i : Nat) (k : Tr) (u : TV), i < j → t.kids[i]? = some k → vs[i]? = some u → TrAt (fun b => g < b ∧ b < wr.heap.size) wr k u) ∧ Rest1 g W wr
theorem TrAt.make {S : Nat → Prop} {w : World} {t : Tr} {v : TV} (h1 : v.kind = t.kind) (h2 : v.text = t.text) (h3 : v.ll = t.leads.length) (h4 : v.kl = t.kids.length) (h5 : StrsAt S w v.la t.leads) (h6 : KidsIn S w v.ka t.kids) (h7 : v.ll ≤ v.lc ∧ v.kl ≤ v.kc) : TrAt S w t v := by
  cases t
  unfold TrAt
  exact ⟨h1, h2, h3, h4, h5, h6, h7⟩
theorem own_strs {w : World} {B c : Nat} {a : Option Addr} {l : List ByteArray} (h : w.ownsRow B 9 1 (.slice a l.length c) l.length (l.map Value.string)) : StrsAt (fun k => B ≤ k ∧ k < w.heap.size) w a l := fun hne => by
  have hl : 0 < l.length := by
    rcases Nat.eq_zero_or_pos l.length with h | h
    · exact absurd (List.eq_nil_of_length_eq_zero h) hne
    · exact h
  rcases h.2 with ⟨_, h0⟩ | ⟨g, cap, cur, hv, hb, hh, hnc, hm, hsz, htk⟩
  · omega
  · injection hv with e1 e2 e3
    refine ⟨g, 0, e1, ⟨hb, lt_of_heap hh⟩, fun i x hx => ?_⟩
    refine cells_of hh _ _ ?_
    have h1 : (l.map Value.string)[i]? = some (.string x) := by rw [List.getElem?_map, hx]; rfl
    rw [← htk] at h1
    have hlt : i < l.length * 1 := by
      have := (List.getElem?_eq_some_iff.1 h1).1
      rw [List.length_take] at this
      omega
    rw [List.getElem?_take_of_lt hlt] at h1
    rw [Nat.zero_add, ← Array.getElem?_toList]
    exact h1
theorem set_other {w : World} {b o k : Nat} {u : Value} (h : k ≠ b) : (w.setCell ⟨b, o, none⟩ u).heap[k]? = w.heap[k]? := Below.heap_setCell _ _ _ _ (fun e : k = b => h e)
theorem setT_other {w : World} {b k : Nat} (u : TV) (h : k ≠ b) : (setT w b u).heap[k]? = w.heap[k]? := (((set_other h).trans (set_other h)).trans (set_other h)).trans (set_other h)
theorem setT_size (w : World) (b : Nat) (u : TV) : (setT w b u).heap.size = w.heap.size := by simp [setT, World.setCell]
set_option maxRecDepth 100000 in
set_option maxHeartbeats 2000000 in
theorem clone_any (N : Nat) : ∀ (S : Nat → Prop) (t : Tr) (v : TV) (w : World), SizeOf.sizeOf t ≤ N → TrAt S w t v → fitT t = true →
    Calls Tryz.prog 90 #[.agg #[.int .i64 v.kind, .string v.text, .slice v.la v.ll v.lc, .slice v.ka v.kl v.kc]] w fun e w' => ∃ u : TV, e = .returned (.agg #[.int .i64 u.kind, .string u.text, .slice u.la u.ll u.lc, .slice u.ka u.kl u.kc]) ∧ TrAt (fun k => w.heap.size ≤ k ∧ k < w'.heap.size) w' t u ∧ Below w.heap.size w w' := by
  induction N with
  | zero => intro S t v w h; have := tr_pos t; omega
  | succ N ih =>
    intro S t v w hN h hz
    have HIH := Lib.hid ih
    obtain ⟨hf1, hf2, hf3⟩ := fitT_kids hz
    have HF1 := Lib.hid hf1
    have HF2 := Lib.hid hf2
    have HF3 := Lib.hid hf3
    have HN := Lib.hid hN
    obtain ⟨e1, e2, e3, e4⟩ := h.kl
    have hb0 := ((Below.refl w.heap.size w).alloc (Nat.le_refl _) (trO v)).alloc (by rw [World.size_alloc]; omega) (.cells #[.int .i64 0, .string ⟨#[]⟩, .slice none 0 0, .slice none 0 0] 25)
    have HB0 := Lib.hid hb0
    have HT := Lib.hid (TrAt.keep (TrAt.low t v h) hb0)
    obtain ⟨vk, vx, vla, vll, vlc, vka, vkl, vkc⟩ := v
    simp only at e1 e2 e3 e4
    subst e1 e2
    have HE3 := Lib.hid e3
    have HE4 := Lib.hid e4
    have HX := Lib.hid (show ((w.alloc (trO ⟨vk, vx, vla, t.leads.length, vlc, vka, t.kids.length, vkc⟩)).alloc (.cells #[.int .i64 0, .string ⟨#[]⟩, .slice none 0 0, .slice none 0 0] 25)).heap[w.heap.size]? = some (trO ⟨vk, vx, vla, t.leads.length, vlc, vka, t.kids.length, vkc⟩) from (((Below.refl (w.alloc (trO ⟨vk, vx, vla, t.leads.length, vlc, vka, t.kids.length, vkc⟩)).heap.size _).alloc (Nat.le_refl _) _).block w.heap.size (by simp)).trans (heap_alloc_new w _))
    have HR := Lib.hid (show ((w.alloc (trO ⟨vk, vx, vla, t.leads.length, vlc, vka, t.kids.length, vkc⟩)).alloc (.cells #[.int .i64 0, .string ⟨#[]⟩, .slice none 0 0, .slice none 0 0] 25)).heap[w.heap.size + 1]? = some (.cells #[.int .i64 0, .string ⟨#[]⟩, .slice none 0 0, .slice none 0 0] 25 (0, 0)) from by rw [← World.size_alloc w (trO ⟨vk, vx, vla, t.leads.length, vlc, vka, t.kids.length, vkc⟩)]; exact heap_alloc_new _ _)
    obtain ⟨is, his, hs0, hs1, hs2⟩ := info_parts string_info
    obtain ⟨it, hit, ht0, ht1, ht2⟩ := info_parts tree_info
    have k2 := cells_of HX.out 2 _ rfl
    have k3 := cells_of HX.out 3 _ rfl
    have rf := Lib.frozen_of_heap HX.out
    have hbl := lt_of_heap HX.out
    clear ih hf1 hf2 hf3 h hz hN hb0 e3 e4
    go_enter Tryz.func90, Tryz.ntmps90
    go_wp2_with (first
      | (at_builtin; refine wpList_copy rfl _ _ 22 rfl 9 is _ 1 16 Tryz.underlying22 his hs0 hs1 hs2 rfl (by decide) rfl (A := vla) (m := t.leads.length) (c := vlc) (news := t.leads.map Value.string) rfl (by simp) HT.out.strsIn.vals (strings_one _) (by have := HF1.out; omega) (by have := HF1.out; unfold maxLen; omega) ?_; intro LA w1 hown1 hg1; obtain ⟨la', lc', rfl⟩ := own_shape hown1; have HO1 := Lib.hid hown1; have HG1 := Lib.hid (grown_below hg1); have hx1 := (HG1.out.block w.heap.size hbl).trans HX.out; have HB1 := Lib.hid ((HB0.out.trans (HG1.out.mono (by simp; omega))).setCell (p := ⟨w.heap.size, 2, none⟩) (Nat.le_refl _) (.slice la' t.leads.length lc')); have HX1 := Lib.hid (heap_set (i := 2) (y := .slice la' t.leads.length lc') hx1 rfl); have HT1 := Lib.hid (TrAt.move (w' := w1.setCell ⟨w.heap.size, 2, none⟩ (.slice la' t.leads.length lc')) (fun _ h => h) (fun k hk _ => (Below.setCell (p := ⟨w.heap.size, 2, none⟩) (show Below w.heap.size _ w1 from HG1.out.mono (by simp; omega)) (Nat.le_refl _) (.slice la' t.leads.length lc')).block k hk) _ _ HT.out); obtain ⟨us, hul, hut, huc⟩ := KidsIn.vals HT1.out; have HUL := Lib.hid hul; have HUT := Lib.hid hut; have HUC := Lib.hid huc; clear hown1 hg1 k2 k3 rf hbl hul hut huc; have k0 := cells_of hx1 0 _ rfl; have k1 := cells_of hx1 1 _ rfl; have k2 := cells_of hx1 2 _ rfl; have k3 := cells_of hx1 3 _ rfl; have rf := Lib.frozen_of_heap hx1; have hbl := lt_of_heap hx1; clear hx1)
      | (at_builtin; refine wpList_copy rfl _ _ 23 rfl 25 it _ 4 72 Tryz.underlying23 hit ht0 ht1 ht2 rfl (by decide) rfl (A := vka) (m := t.kids.length) (c := vkc) (news := tvCells us) rfl (by rw [tvCells_length, HUL.out]) HUC.out (tvCells_one us) (by have := HF2.out; omega) (by have := HF2.out; unfold maxLen; omega) ?_; intro KA w2 hown2 hg2; obtain ⟨ka', kc', rfl⟩ := own_shape hown2; have HO2 := Lib.hid hown2; have HG2 := Lib.hid (grown_below hg2); have hx2 := (HG2.out.block w.heap.size (lt_of_heap HX1.out)).trans HX1.out; clear hown2 hg2 k0 k1 k2 k3 rf hbl; have k0 := cells_of hx2 0 _ rfl; have k1 := cells_of hx2 1 _ rfl; have k2 := cells_of hx2 2 _ rfl; have k3 := cells_of hx2 3 _ rfl; have rf := Lib.frozen_of_heap hx2; have hbl := lt_of_heap hx2; have HX2 := Lib.hid (heap_set (i := 3) (y := .slice ka' t.kids.length kc') hx2 rfl); clear hx2))
    have r1 := (HG1.out.block (w.heap.size + 1) (lt_of_heap HR.out)).trans HR.out
    have r1' : (w1.setCell ⟨w.heap.size, 2, none⟩ (.slice la' t.leads.length lc')).heap[w.heap.size + 1]? = _ := (set_other (by omega)).trans r1
    have r2 := (HG2.out.block (w.heap.size + 1) (lt_of_heap r1')).trans r1'
    have r2' : (w2.setCell ⟨w.heap.size, 3, none⟩ (.slice ka' t.kids.length kc')).heap[w.heap.size + 1]? = _ := (set_other (by omega)).trans r2
    have HR2 := Lib.hid r2'
    have HLS := Lib.hid (own_strs HO1.out)
    have HC1 := Lib.hid (row_cap HO1.out)
    have HC2 := Lib.hid (row_cap HO2.out)
    have hs1 : (w1.setCell ⟨w.heap.size, 2, none⟩ (.slice la' t.leads.length lc')).heap.size = w1.heap.size := by simp [World.setCell]
    have hs0' : ((w.alloc (trO ⟨vk, vx, vla, t.leads.length, vlc, vka, t.kids.length, vkc⟩)).alloc (.cells #[.int .i64 0, .string ⟨#[]⟩, .slice none 0 0, .slice none 0 0] 25)).heap.size = w.heap.size + 2 := by simp
    -- the leads' block, in the last world
    have HLW2 := Lib.hid (show ∀ b, w.heap.size + 2 ≤ b → b < w1.heap.size → b < (w2.setCell ⟨w.heap.size, 3, none⟩ (.slice ka' t.kids.length kc')).heap.size ∧ (w2.setCell ⟨w.heap.size, 3, none⟩ (.slice ka' t.kids.length kc')).heap[b]? = w1.heap[b]? from fun b hb hb1 => ⟨by
      have := HG2.out.size
      rw [hs1] at this
      simp [World.setCell]
      omega, ((set_other (by omega)).trans (HG2.out.block b (by rw [hs1]; exact hb1))).trans (set_other (by omega))⟩)
    have HS0 := Lib.hid hs0'
    have HS1 := Lib.hid hs1
    clear r1 r1' r2 r2' hs1 hs0'
    by_cases hn0 : t.kids.length = 0
    · have HN0 := Lib.hid hn0
      have HD12 : Below w.heap.size (w1.setCell ⟨w.heap.size, 2, none⟩ (.slice la' t.leads.length lc')) (w2.setCell ⟨w.heap.size, 3, none⟩ (.slice ka' t.kids.length kc')) := Below.setCell (p := ⟨w.heap.size, 3, none⟩) (show Below w.heap.size _ w2 from HG2.out.mono (Nat.le_of_lt (lt_of_heap HX1.out))) (Nat.le_refl _) _
      have HDW := Lib.hid HD12
      clear k0 k1 k2 k3 rf hbl HD12 hn0
      go_loopw [16] (fun i wr => i = .int .i64 0 ∧ w2.setCell ⟨w.heap.size, 3, none⟩ (.slice ka' t.kids.length kc') = wr) (fun _ _ => 0)
      case atStart => exact ⟨rfl, rfl⟩
      case round =>
        obtain ⟨rfl, rfl⟩ := hrel
        have hn1 : ¬ 0 < t.kids.length := by have := HN0.out; omega
        have k0 := cells_of HX2.out 0 _ rfl
        have k1 := cells_of HX2.out 1 _ rfl
        have k2 := cells_of HX2.out 2 _ rfl
        have k3 := cells_of HX2.out 3 _ rfl
        have tbl := lt_of_heap HX2.out
        have r0 := cells_of HR2.out 0 _ rfl
        have r1 := cells_of HR2.out 1 _ rfl
        have r2 := cells_of HR2.out 2 _ rfl
        have r3 := cells_of HR2.out 3 _ rfl
        have rbl := lt_of_heap HR2.out
        have rrf := Lib.frozen_of_heap HR2.out
        generalize hW : w2.setCell ⟨w.heap.size, 3, none⟩ (.slice ka' t.kids.length kc') = WR at HX2 HR2 HLW2 HDW k0 k1 k2 k3 tbl r0 r1 r2 r3 rbl rrf ⊢
        clear hW
        go_wp2
        refine bodyPost_ret (v := .agg #[.int .i64 vk, .string vx, .slice la' t.leads.length lc', .slice ka' t.kids.length kc']) (by simp [results, Tryz.results90, go_sem, *]) rfl ?_
        refine ⟨⟨vk, vx, la', t.leads.length, lc', ka', t.kids.length, kc'⟩, rfl, ?_, ?_⟩
        · have hsz : (setT WR (w.heap.size + 1) ⟨vk, vx, la', t.leads.length, lc', ka', t.kids.length, kc'⟩).heap.size = WR.heap.size := setT_size _ _ _
          have hlw : ∀ b, w.heap.size + 2 ≤ b → b < w1.heap.size → b < WR.heap.size ∧ (setT WR (w.heap.size + 1) ⟨vk, vx, la', t.leads.length, lc', ka', t.kids.length, kc'⟩).heap[b]? = w1.heap[b]? := fun b hb hb1 => by
            obtain ⟨h1, h2⟩ := HLW2.out b hb hb1
            exact ⟨h1, (setT_other ⟨vk, vx, la', t.leads.length, lc', ka', t.kids.length, kc'⟩ (by omega)).trans h2⟩
          have hlo : ∀ b, ((w.alloc (trO ⟨vk, vx, vla, t.leads.length, vlc, vka, t.kids.length, vkc⟩)).alloc (.cells #[.int .i64 0, .string ⟨#[]⟩, .slice none 0 0, .slice none 0 0] 25)).heap.size ≤ b → w.heap.size + 2 ≤ b := fun b hb => by rw [HS0.out] at hb; exact hb
          show TrAt _ (setT WR (w.heap.size + 1) ⟨vk, vx, la', t.leads.length, lc', ka', t.kids.length, kc'⟩) t _
          exact TrAt.make HE3.out HE4.out rfl rfl (HLS.out.move (fun b hb => ⟨by have := hlo b hb.1; omega, Nat.lt_of_lt_of_le (hlw b (hlo b hb.1) hb.2).1 (Nat.le_of_eq hsz.symm)⟩) (fun b hb _ => (hlw b (hlo b hb.1) hb.2).2)) (fun h => absurd (List.eq_nil_of_length_eq_zero HN0.out) h) ⟨HC1.out, HC2.out⟩
        · exact (HB1.out.trans HDW.out).trans ((setT_below WR (w.heap.size + 1) ⟨vk, vx, la', t.leads.length, lc', ka', t.kids.length, kc'⟩).mono (Nat.le_succ _))
    · obtain ⟨g, hg1, hg2, cur, hg3, hg4⟩ : ∃ g, ka' = some ⟨g, 0, none⟩ ∧ (w1.setCell ⟨w.heap.size, 2, none⟩ (.slice la' t.leads.length lc')).heap.size ≤ g ∧ ∃ cur, w2.heap[g]? = some (.cells cur 25 (0, 0)) ∧ RowIs cur us := by
        rcases HO2.out.2 with ⟨_, h0⟩ | ⟨g, cap, cur, hv, hb, hh, hnc, hm, hsz, htk⟩
        · exact absurd h0 hn0
        · injection hv with e1 e2 e3
          refine ⟨g, e1, hb, cur, hh, fun i v hv => ?_⟩
          obtain ⟨q0, q1, q2, q3⟩ := tvCells_get us i v hv
          have hget : ∀ (o : Nat) (x : Value), (tvCells us)[o]? = some x → cur[o]? = some x := fun o x hx => by
            rw [← htk] at hx
            have hlt : o < t.kids.length * 4 := by
              have := (List.getElem?_eq_some_iff.1 hx).1
              rw [List.length_take] at this
              omega
            rw [List.getElem?_take_of_lt hlt] at hx
            rw [← Array.getElem?_toList]
            exact hx
          exact ⟨hget _ _ q0, hget _ _ q1, hget _ _ q2, hget _ _ q3⟩
      subst hg1
      have HG3 := Lib.hid hg3
      have HG4 := Lib.hid hg4
      have hgt : w.heap.size + 1 < g := by
        have h1 := HG1.out.size
        have h2 : (w1.setCell ⟨w.heap.size, 2, none⟩ (.slice la' t.leads.length lc')).heap.size = w1.heap.size := by simp [World.setCell]
        rw [h2] at hg2
        simp at h1
        omega
      have HGT := Lib.hid hgt
      have HGE := Lib.hid (show w1.heap.size ≤ g from by rw [HS1.out] at hg2; exact hg2)
      have hg2l := lt_of_heap hg3
      have HD12 : Below w.heap.size (w1.setCell ⟨w.heap.size, 2, none⟩ (.slice la' t.leads.length lc')) (w2.setCell ⟨w.heap.size, 3, none⟩ (.slice (some ⟨g, 0, none⟩) t.kids.length kc')) := Below.setCell (p := ⟨w.heap.size, 3, none⟩) (show Below w.heap.size _ w2 from HG2.out.mono (Nat.le_of_lt (lt_of_heap HX1.out))) (Nat.le_refl _) _
      have HW2 := Lib.hid (show (w2.setCell ⟨w.heap.size, 3, none⟩ (.slice (some ⟨g, 0, none⟩) t.kids.length kc')).heap[g]? = some (.cells cur 25 (0, 0)) from (Below.heap_setCell _ _ _ _ (fun e : g = w.heap.size => by omega)).trans hg3)
      have HDW := Lib.hid HD12
      have HLT2 := Lib.hid (show w.heap.size < (w2.setCell ⟨w.heap.size, 3, none⟩ (.slice (some ⟨g, 0, none⟩) t.kids.length kc')).heap.size from lt_of_heap HX2.out)
      clear k0 k1 k2 k3 rf hbl hg3 hg4 hgt hg2 HD12 hn0 hg2l
      go_loopw [16] (fun i wr => ClAt t us g (w2.setCell ⟨w.heap.size, 3, none⟩ (.slice (some ⟨g, 0, none⟩) t.kids.length kc')) i wr) (fun i _ => t.kids.length - (intOf i).toNat)
      case atStart => exact ⟨0, us, cur, rfl, Nat.zero_le _, HUL.out, fun _ _ => rfl, HW2.out, HG4.out, fun i k u h => absurd h (Nat.not_lt_zero _), Rest1.refl _ _⟩
      case round =>
        obtain ⟨j, vs, cs, rfl, hj, hvl, hve, hcs, hri, hfr, hrs⟩ := hrel
        have HVL := Lib.hid hvl
        have HVE := Lib.hid hve
        have HCS := Lib.hid hcs
        have HRI := Lib.hid hri
        have HFR := Lib.hid hfr
        have HRS := Lib.hid hrs
        have htb := (hrs.block w.heap.size HLT2.out (by have := HGT.out; omega)).trans HX2.out
        have HTB := Lib.hid htb
        have HDN := Lib.hid (HDW.out.trans (hrs.down (B := w.heap.size) (by have := HGT.out; omega) (Nat.le_of_lt HLT2.out)))
        clear hvl hve hcs hri hfr hrs
        by_cases hlt : j < t.kids.length
        · obtain ⟨k, hk⟩ : ∃ k, t.kids[j]? = some k := ⟨_, List.getElem?_eq_getElem hlt⟩
          obtain ⟨u, hu⟩ : ∃ u, us[j]? = some u := ⟨_, List.getElem?_eq_getElem (by rw [HUL.out]; exact hlt)⟩
          obtain ⟨q0, q1, q2, q3⟩ := HRI.out j u ((HVE.out j (Nat.le_refl _)).trans hu)
          have c0 := cells_of HCS.out _ _ q0
          have c1 := cells_of HCS.out _ _ q1
          have c2 := cells_of HCS.out _ _ q2
          have c3 := cells_of HCS.out _ _ q3
          have k3 := cells_of htb 3 _ rfl
          have gbl := lt_of_heap HCS.out
          have tbl := lt_of_heap htb
          have grf := Lib.frozen_of_heap HCS.out
          have HK := Lib.hid hk
          have HU := Lib.hid (TrAt.move (fun _ h => h) (fun b hb _ => HDN.out.block b hb) _ _ (HUT.out j k u hk hu))
          have HNK := Lib.hid (show SizeOf.sizeOf k ≤ N from by have := kid_sizeOf hk; have := HN.out; omega)
          have HFK := Lib.hid (HF3.out j k hk)
          have HBA := Lib.hid (((Below.refl wr.heap.size wr).alloc (Nat.le_refl _) (trO u)).drew)
          have hja : (j : Int) < (t.kids.length : Int) := by omega
          have hj0 : (0 : Int) ≤ (j : Int) := by omega
          have HUJ := Lib.hid hu
          clear hk hu q0 q1 q2 q3 htb
          go_wp2_with fail
          go_region_law (go_simp; go_at_call 90; refine (HIH.out _ k u _ HNK.out (HU.out.keep HBA.out) HFK.out).mono ?_; rintro e w5 ⟨y, rfl, hty, hb5⟩; have HTY := Lib.hid hty; have HB5 := Lib.hid (HBA.out.trans (hb5.mono HBA.out.size)); have HCS5 := Lib.hid ((HB5.out.block g gbl).trans HCS.out); have HTB5 := Lib.hid ((HB5.out.block w.heap.size tbl).trans HTB.out); have HLW := Lib.hid (show wr.heap.size < w5.heap.size from Nat.lt_of_lt_of_le (show wr.heap.size < (wr.alloc (trO u)).drew.heap.size by simp [World.drew]) hb5.size); clear hb5 hty c0 c1 c2 c3 k3 gbl tbl grf; obtain ⟨q0, q1, q2, q3⟩ := HRI.out j u ((HVE.out j (Nat.le_refl _)).trans HUJ.out); have c0 := cells_of HCS5.out _ _ q0; have c1 := cells_of HCS5.out _ _ q1; have c2 := cells_of HCS5.out _ _ q2; have c3 := cells_of HCS5.out _ _ q3; have gbl := lt_of_heap HCS5.out; have grf := Lib.frozen_of_heap HCS5.out; have k3 := cells_of HTB5.out 3 _ rfl; have tbl := lt_of_heap HTB5.out; clear q0 q1 q2 q3)
          all_goals
            clear c0 c1 c2 c3 k3 gbl tbl grf hja hj0
            have hj2 : (j : Int) + 1 ≤ 1900000000001 := by have := HF2.out; omega
            go_wp2
            go_roundw
            case measure => simp [intOf]; omega
            case rel =>
              have hR : Rest1 g wr (setK w5 g j y) := (Rest1.below HB5.out).trans (setK_rest w5 g j y)
              have hjv : j < vs.length := by rw [HVL.out]; exact hlt
              have hgw := lt_of_heap HCS.out
              refine ⟨j + 1, vs.set j y, setR cs j y, by go_num, by omega, by rw [List.length_set]; exact HVL.out, fun i hi => by rw [List.getElem?_set_ne (by omega)]; exact HVE.out i (by omega), setK_heap y HCS5.out, HRI.out.set hjv y, fun i k' u' hi hk' hu' => ?_, HRS.out.trans hR⟩
              by_cases hij : i = j
              · subst hij
                rw [List.getElem?_set_self hjv] at hu'
                injection hu' with hu'
                subst hu'
                have := HK.out.symm.trans hk'
                injection this with this
                subst this
                refine TrAt.move (fun b hb => ⟨?_, Nat.lt_of_lt_of_le hb.2 (setK_rest w5 g i y).size⟩) (fun b hb hlt => (setK_rest w5 g i y).block b hlt (fun e => ?_)) _ _ HTY.out
                · have h1 := hb.1
                  simp [World.drew] at h1
                  omega
                · have h1 := hb.1
                  simp [World.drew] at h1
                  omega
              · rw [List.getElem?_set_ne (fun e => hij e.symm)] at hu'
                exact TrAt.move (fun b hb => ⟨hb.1, Nat.lt_of_lt_of_le hb.2 hR.size⟩) (fun b hb hlt => hR.block b hlt (fun e => by have := hb.1; omega)) _ _ (HFR.out i k' u' (by omega) hk' hu')
        · have hjn : j = t.kids.length := by omega
          subst hjn
          have k0 := cells_of htb 0 _ rfl
          have k1 := cells_of htb 1 _ rfl
          have k2 := cells_of htb 2 _ rfl
          have k3 := cells_of htb 3 _ rfl
          have tbl := lt_of_heap htb
          have hrb := (HRS.out.block (w.heap.size + 1) (lt_of_heap HR2.out) (by have := HGT.out; omega)).trans HR2.out
          have r0 := cells_of hrb 0 _ rfl
          have r1 := cells_of hrb 1 _ rfl
          have r2 := cells_of hrb 2 _ rfl
          have r3 := cells_of hrb 3 _ rfl
          have rbl := lt_of_heap hrb
          have rrf := Lib.frozen_of_heap hrb
          have HRB := Lib.hid hrb
          clear hrb htb
          go_wp2
          refine bodyPost_ret (v := .agg #[.int .i64 vk, .string vx, .slice la' t.leads.length lc', .slice (some ⟨g, 0, none⟩) t.kids.length kc']) (by simp [results, Tryz.results90, go_sem, *]) rfl ?_
          refine ⟨⟨vk, vx, la', t.leads.length, lc', some ⟨g, 0, none⟩, t.kids.length, kc'⟩, rfl, ?_, ?_⟩
          · have hsz : (setT wr (w.heap.size + 1) ⟨vk, vx, la', t.leads.length, lc', some ⟨g, 0, none⟩, t.kids.length, kc'⟩).heap.size = wr.heap.size := setT_size _ _ _
            have hlw : ∀ b, w.heap.size + 2 ≤ b → b < w1.heap.size → b < wr.heap.size ∧ (setT wr (w.heap.size + 1) ⟨vk, vx, la', t.leads.length, lc', some ⟨g, 0, none⟩, t.kids.length, kc'⟩).heap[b]? = w1.heap[b]? := fun b hb hb1 => by
              obtain ⟨h1, h2⟩ := HLW2.out b hb hb1
              have hbg : b ≠ g := by have := HGE.out; omega
              exact ⟨Nat.lt_of_lt_of_le h1 HRS.out.size, ((setT_other ⟨vk, vx, la', t.leads.length, lc', some ⟨g, 0, none⟩, t.kids.length, kc'⟩ (by omega)).trans (HRS.out.block b h1 hbg)).trans h2⟩
            have hlo : ∀ b, ((w.alloc (trO ⟨vk, vx, vla, t.leads.length, vlc, vka, t.kids.length, vkc⟩)).alloc (.cells #[.int .i64 0, .string ⟨#[]⟩, .slice none 0 0, .slice none 0 0] 25)).heap.size ≤ b → w.heap.size + 2 ≤ b := fun b hb => by rw [HS0.out] at hb; exact hb
            show TrAt _ (setT wr (w.heap.size + 1) ⟨vk, vx, la', t.leads.length, lc', some ⟨g, 0, none⟩, t.kids.length, kc'⟩) t _
            refine TrAt.make HE3.out HE4.out rfl rfl (HLS.out.move (fun b hb => ⟨by have := hlo b hb.1; omega, Nat.lt_of_lt_of_le (hlw b (hlo b hb.1) hb.2).1 (Nat.le_of_eq hsz.symm)⟩) (fun b hb _ => (hlw b (hlo b hb.1) hb.2).2)) (fun _ => ⟨g, 0, rfl, ⟨by have := HGT.out; omega, Nat.lt_of_lt_of_le (lt_of_heap HCS.out) (Nat.le_of_eq hsz.symm)⟩, TrsAt.of t.kids 0 (fun i k hk => ?_)⟩) ⟨HC1.out, HC2.out⟩
            have hi := (List.getElem?_eq_some_iff.1 hk).1
            obtain ⟨u, hu⟩ : ∃ u, vs[i]? = some u := ⟨_, List.getElem?_eq_getElem (by rw [HVL.out]; exact hi)⟩
            obtain ⟨q0, q1, q2, q3⟩ := HRI.out i u hu
            have hg' : (setT wr (w.heap.size + 1) ⟨vk, vx, la', t.leads.length, lc', some ⟨g, 0, none⟩, t.kids.length, kc'⟩).heap[g]? = some (.cells cs 25 (0, 0)) := (setT_other ⟨vk, vx, la', t.leads.length, lc', some ⟨g, 0, none⟩, t.kids.length, kc'⟩ (by have := HGT.out; omega)).trans HCS.out
            refine ⟨u, ?_, ?_, ?_, ?_, TrAt.move (fun b hb => ⟨by have := HGT.out; have := hb.1; omega, Nat.lt_of_lt_of_le hb.2 (Nat.le_of_eq hsz.symm)⟩) (fun b hb _ => setT_other ⟨vk, vx, la', t.leads.length, lc', some ⟨g, 0, none⟩, t.kids.length, kc'⟩ (by have := HGT.out; have := hb.1; omega)) _ _ (HFR.out i k u hi hk hu)⟩
            · rw [Nat.zero_add]; exact cells_of hg' _ _ q0
            · rw [Nat.zero_add]; exact cells_of hg' _ _ q1
            · rw [Nat.zero_add]; exact cells_of hg' _ _ q2
            · rw [Nat.zero_add]; exact cells_of hg' _ _ q3
          · exact (HB1.out.trans HDN.out).trans ((setT_below wr (w.heap.size + 1) ⟨vk, vx, la', t.leads.length, lc', some ⟨g, 0, none⟩, t.kids.length, kc'⟩).mono (Nat.le_succ _))
end Go.Proofs.YtpdmklbfbpdneaaGreat
namespace Go.Proofs.YtpdmklbfbpdneaaGreat
open Go.RowKit Go.Shelf
/-- What At answers: a tree, and whether it is there. -/
def AtPost (t : Tr) (zs : List Int) (w : World) (e : Ending) (w' : World) : Prop :=
  Below w.heap.size w w' ∧ ∃ u : TV, e = .returned (.tuple #[.agg #[.int .i64 u.kind, .string u.text, .slice u.la u.ll u.lc, .slice u.ka u.kl u.kc], .bool (findT t zs).isSome]) ∧ ∃ S : Nat → Prop, (∀ k, S k → k < w'.heap.size) ∧ TrAt S w' ((findT t zs).getD noTr) u
theorem fit_find : ∀ (zs : List Int) (t u : Tr), fitT t = true → findT t zs = some u → fitT u = true ∧ SizeOf.sizeOf u ≤ SizeOf.sizeOf t
  | [], t, u, h, hf => by injection hf with hf; subst hf; exact ⟨h, Nat.le_refl _⟩
  | i :: r, t, u, h, hf => by
    unfold findT at hf
    cases hk : kidB t i
    · rw [hk] at hf; cases hf
    · rw [hk] at hf
      obtain ⟨_, _, h3⟩ := kidB_get hk
      obtain ⟨h4, h5⟩ := fit_find r (kidAt t i) u ((fitT_kids h).2.2 _ _ h3) hf
      exact ⟨h4, Nat.le_trans h5 (Nat.le_of_lt (kid_sizeOf h3))⟩
set_option maxRecDepth 100000 in
set_option maxHeartbeats 1000000 in
theorem at_any (S : Nat → Prop) (t : Tr) (v : TV) (A : Option Addr) (c : Nat) (zs : List Int) (w : World) (h : TrAt S w t v) (hA : IntsAt w A zs) (hz : zs.length ≤ maxLen) (hf : fitT t = true) :
    Calls Tryz.prog 54 #[.agg #[.int .i64 v.kind, .string v.text, .slice v.la v.ll v.lc, .slice v.ka v.kl v.kc], .slice A zs.length c] w (AtPost t zs w) := by
  have hb0 := ((Below.refl w.heap.size w).alloc (Nat.le_refl _) (trO v)).alloc (by rw [World.size_alloc]; omega) (.cells #[.int .i64 0, .string ⟨#[]⟩, .slice none 0 0, .slice none 0 0] 25)
  have HB0 := Lib.hid hb0
  have HT := Lib.hid (h.keep hb0)
  have HA := Lib.hid (hA.keep hb0)
  have hx : ((w.alloc (trO v)).alloc (.cells #[.int .i64 0, .string ⟨#[]⟩, .slice none 0 0, .slice none 0 0] 25)).heap[w.heap.size]? = some (trO v) := (((Below.refl (w.alloc (trO v)).heap.size _).alloc (Nat.le_refl _) _).block w.heap.size (by simp)).trans (heap_alloc_new w _)
  have HC := Lib.hid (show CellsAt ((w.alloc (trO v)).alloc (.cells #[.int .i64 0, .string ⟨#[]⟩, .slice none 0 0, .slice none 0 0] 25)) w.heap.size 0 v from ⟨cells_of hx 0 _ rfl, cells_of hx 1 _ rfl, cells_of hx 2 _ rfl, cells_of hx 3 _ rfl⟩)
  have HR := Lib.hid (show ((w.alloc (trO v)).alloc (.cells #[.int .i64 0, .string ⟨#[]⟩, .slice none 0 0, .slice none 0 0] 25)).heap[w.heap.size + 1]? = some (trO ⟨0, ⟨#[]⟩, none, 0, 0, none, 0, 0⟩) from by rw [← World.size_alloc w (trO v)]; exact heap_alloc_new _ _)
  have HZ := Lib.hid hz
  have HF := Lib.hid hf
  clear h hA hz hf hx hb0
  cases hfd : findT t zs with
  | none =>
    have HFD := Lib.hid hfd
    go_enter Tryz.func54, Tryz.ntmps54
    go_wp2_with fail
    go_at_call 89
    refine (find_any S t v w.heap.size 0 A c zs _ HC.out HT.out HA.out HZ.out).mono ?_
    rintro e w2 ⟨hb2, he⟩
    rw [hfd] at he
    subst he
    have HB2 := Lib.hid (HB0.out.trans (hb2.mono HB0.out.size))
    have hr2 := (hb2.block (w.heap.size + 1) (lt_of_heap HR.out)).trans HR.out
    have r0 := cells_of hr2 0 _ rfl
    have r1 := cells_of hr2 1 _ rfl
    have r2 := cells_of hr2 2 _ rfl
    have r3 := cells_of hr2 3 _ rfl
    have rbl := lt_of_heap hr2
    have rrf := Lib.frozen_of_heap hr2
    clear hb2 hr2 hfd
    go_wp2
    refine bodyPost_ret (v := .tuple #[.agg #[.int .i64 0, .string ⟨#[]⟩, .slice none 0 0, .slice none 0 0], .bool false]) (by simp [results, Tryz.results54, go_sem, *]) rfl ?_
    refine ⟨HB2.out.trans ((setT_below w2 (w.heap.size + 1) ⟨0, ⟨#[]⟩, none, 0, 0, none, 0, 0⟩).mono (Nat.le_succ _)), ⟨0, ⟨#[]⟩, none, 0, 0, none, 0, 0⟩, by rw [HFD.out]; rfl, fun _ => False, fun _ h => h.elim, ?_⟩
    rw [HFD.out]
    exact noTr_at _ _
  | some u =>
    have HFD := Lib.hid hfd
    have HFU := Lib.hid (fit_find zs t u HF.out hfd).1
    go_enter Tryz.func54, Tryz.ntmps54
    go_wp2_with fail
    go_at_call 89
    refine (find_any S t v w.heap.size 0 A c zs _ HC.out HT.out HA.out HZ.out).mono ?_
    rintro e w2 ⟨hb2, he⟩
    rw [hfd] at he
    obtain ⟨b, o, y, rfl, ⟨c0, c1, c2, c3⟩, hty, _⟩ := he
    have HB2 := Lib.hid (HB0.out.trans (hb2.mono HB0.out.size))
    have HR2 := Lib.hid ((hb2.block (w.heap.size + 1) (lt_of_heap HR.out)).trans HR.out)
    have HTY := Lib.hid hty
    have bbl : b < w2.heap.size := World.block_lt_of_cell? w2 _ c0
    clear hb2 hfd hty
    go_wp2_with fail
    go_at_call 90
    refine (clone_any (SizeOf.sizeOf u) S u y _ (Nat.le_refl _) HTY.out HFU.out).mono ?_
    rintro e w3 ⟨y', rfl, hty', hb3⟩
    have HB3 := Lib.hid (HB2.out.trans (hb3.mono HB2.out.size))
    have HR3 := Lib.hid ((hb3.block (w.heap.size + 1) (lt_of_heap HR2.out)).trans HR2.out)
    have HTY' := Lib.hid hty'
    have r0 := cells_of HR3.out 0 _ rfl
    have r1 := cells_of HR3.out 1 _ rfl
    have r2 := cells_of HR3.out 2 _ rfl
    have r3 := cells_of HR3.out 3 _ rfl
    have rbl := lt_of_heap HR3.out
    have rrf := Lib.frozen_of_heap HR3.out
    clear hb3 hty' c0 c1 c2 c3 bbl
    go_wp2
    refine bodyPost_ret (v := .tuple #[.agg #[.int .i64 y'.kind, .string y'.text, .slice y'.la y'.ll y'.lc, .slice y'.ka y'.kl y'.kc], .bool true]) (by simp [results, Tryz.results54, go_sem, *]) rfl ?_
    refine ⟨HB3.out.trans ((setT_below w3 (w.heap.size + 1) y').mono (Nat.le_succ _)), y', by rw [HFD.out]; rfl, fun k => w2.heap.size ≤ k ∧ k < w3.heap.size, fun k hk => Nat.lt_of_lt_of_le hk.2 (setT_below w3 (w.heap.size + 1) y').size, ?_⟩
    rw [HFD.out]
    exact TrAt.move (w' := setT w3 (w.heap.size + 1) y') (fun _ h => h) (fun k hk _ => setT_other y' (by have := lt_of_heap HR2.out; have := hk.1; omega)) _ _ HTY'.out
/-- Where the reference's At stands. -/
def RAtAt (t0 : Tr) (zs : List Int) (w : World) (i : Value) (wr : World) : Prop :=
  ∃ (j : Nat) (x : TV) (cur : Tr), i = .int .i64 j ∧ j ≤ zs.length ∧ findT t0 zs = findT cur (zs.drop j) ∧ wr.heap[w.heap.size]? = some (trO x) ∧ wr.heap[w.heap.size + 1]? = some (trO ⟨0, ⟨#[]⟩, none, 0, 0, none, 0, 0⟩) ∧ TrAt (fun k => k < w.heap.size) wr cur x ∧ Below w.heap.size w wr
set_option maxRecDepth 100000 in
set_option maxHeartbeats 2000000 in
theorem rat_any (S : Nat → Prop) (t : Tr) (v : TV) (A : Option Addr) (c : Nat) (zs : List Int) (w : World) (h : TrAt S w t v) (hA : IntsAt w A zs) (hz : zs.length ≤ maxLen) :
    Calls Tryz.prog 27 #[.agg #[.int .i64 v.kind, .string v.text, .slice v.la v.ll v.lc, .slice v.ka v.kl v.kc], .slice A zs.length c] w (AtPost t zs w) := by
  have hb0 := ((Below.refl w.heap.size w).alloc (Nat.le_refl _) (trO v)).alloc (by rw [World.size_alloc]; omega) (.cells #[.int .i64 0, .string ⟨#[]⟩, .slice none 0 0, .slice none 0 0] 25)
  have HB0 := Lib.hid hb0
  have HTL := Lib.hid ((TrAt.low t v h).keep hb0)
  have HA := Lib.hid hA
  have HX := Lib.hid (show ((w.alloc (trO v)).alloc (.cells #[.int .i64 0, .string ⟨#[]⟩, .slice none 0 0, .slice none 0 0] 25)).heap[w.heap.size]? = some (trO v) from (((Below.refl (w.alloc (trO v)).heap.size _).alloc (Nat.le_refl _) _).block w.heap.size (by simp)).trans (heap_alloc_new w _))
  have HR := Lib.hid (show ((w.alloc (trO v)).alloc (.cells #[.int .i64 0, .string ⟨#[]⟩, .slice none 0 0, .slice none 0 0] 25)).heap[w.heap.size + 1]? = some (trO ⟨0, ⟨#[]⟩, none, 0, 0, none, 0, 0⟩) from by rw [← World.size_alloc w (trO v)]; exact heap_alloc_new _ _)
  have hmax : zs.length ≤ 9223372036854775807 := by unfold maxLen at hz; omega
  have mixedL : Tryz.prog.follows Departure.mixedOrders = true := mixed
  clear h hA hz hb0
  go_enter Tryz.func27, Tryz.ntmps27
  go_wp2
  go_loopw [6] (fun i wr => RAtAt t zs w i wr) (fun i _ => zs.length - (intOf i).toNat)
  case atStart => exact ⟨0, v, t, rfl, Nat.zero_le _, rfl, HX.out, HR.out, HTL.out, HB0.out⟩
  case round =>
    obtain ⟨j, x, cur, rfl, hj, hf, hx, hr, hty, hb⟩ := hrel
    have HF := Lib.hid hf
    have HTY := Lib.hid hty
    have HXX := Lib.hid hx
    have HRR := Lib.hid hr
    have HBR := Lib.hid hb
    have hkl := hty.kl.1
    obtain ⟨vk, vx, vla, vll, vlc, vka, vkl, vkc⟩ := x
    simp only at hkl
    subst hkl
    clear hf hty hx hr hb
    have k0 := cells_of HXX.out 0 _ rfl
    have k1 := cells_of HXX.out 1 _ rfl
    have k2 := cells_of HXX.out 2 _ rfl
    have k3 := cells_of HXX.out 3 _ rfl
    have hbl := lt_of_heap HXX.out
    have rf := Lib.frozen_of_heap HXX.out
    have r0 := cells_of HRR.out 0 _ rfl
    have r1 := cells_of HRR.out 1 _ rfl
    have r2 := cells_of HRR.out 2 _ rfl
    have r3 := cells_of HRR.out 3 _ rfl
    have rbl := lt_of_heap HRR.out
    have rrf := Lib.frozen_of_heap HRR.out
    by_cases hlt : j < zs.length
    · obtain ⟨z, hz⟩ : ∃ z, zs[j]? = some z := ⟨_, List.getElem?_eq_getElem hlt⟩
      obtain ⟨ab, ao, rfl, _, hac⟩ := (HA.out.keep HBR.out).at hlt
      have a0 := hac j z hz
      have HD := Lib.hid (drop_cons hz)
      clear hac hz
      by_cases h0 : z < 0
      · have d0 := decide_eq_true h0
        have hkb : kidB cur z = false := by unfold kidB; rw [decide_eq_false (by omega)]; rfl
        have HN := Lib.hid (show findT t zs = none from by rw [HF.out, HD.out, findT, hkb]; rfl)
        clear hkb
        go_wp2_with fail
        go_region_o
        go_wp2
        refine bodyPost_ret (v := .tuple #[.agg #[.int .i64 0, .string ⟨#[]⟩, .slice none 0 0, .slice none 0 0], .bool false]) (by simp [results, Tryz.results27, go_sem, *]) rfl ?_
        refine ⟨HBR.out.drew.trans ((setT_below wr.drew (w.heap.size + 1) ⟨0, ⟨#[]⟩, none, 0, 0, none, 0, 0⟩).mono (Nat.le_succ _)), ⟨0, ⟨#[]⟩, none, 0, 0, none, 0, 0⟩, by rw [HN.out]; rfl, fun _ => False, fun _ h => h.elim, ?_⟩
        rw [HN.out]
        exact noTr_at _ _
      · have d0 := decide_eq_false h0
        by_cases h1 : z < (cur.kids.length : Int)
        · have hkb : kidB cur z = true := by unfold kidB; rw [decide_eq_true (by omega), decide_eq_true h1]; rfl
          obtain ⟨z0, _, z2⟩ := kidB_get hkb
          have HN := Lib.hid (show findT t zs = findT (kidAt cur z) (zs.drop (j + 1)) from by rw [HF.out, HD.out, findT, hkb]; rfl)
          obtain ⟨q, rfl⟩ : ∃ q : Nat, z = (q : Int) := ⟨z.toNat, by omega⟩
          rw [Int.toNat_natCast] at z2
          obtain ⟨kb, ko, hka⟩ : ∃ b off, vka = some ⟨b, off, none⟩ := HTY.out.addr.resolve_left (by omega)
          subst hka
          obtain ⟨u, c0, c1, c2, c3, hu⟩ := HTY.out.at rfl z2
          have HU := Lib.hid hu
          have kbl : kb < wr.heap.size := World.block_lt_of_cell? wr _ c3
          have hq : q < cur.kids.length := by omega
          have dn1 : decide (cur.kids.length ≤ q) = false := decide_eq_false (by omega)
          have hq0 : (0 : Int) ≤ (q : Int) := by omega
          clear hkb z2 hu h0 z0
          go_wp2_with fail
          go_region_o
          all_goals
            go_simp
            go_wp2_with fail
            first | go_region_o | go_region
            all_goals
              go_simp
              go_wp2
              go_roundw
              case measure => simp [intOf]; omega
              case rel => exact ⟨j + 1, u, kidAt cur q, by go_num, by omega, HN.out, setT_heap (w := wr.drew.drew) u HXX.out, (setT_other (w := wr.drew.drew) u (by omega)).trans HRR.out, TrAt.move (fun _ h => h) (fun k hk _ => (setT_below wr.drew.drew w.heap.size u).block k hk) _ _ ((HU.out.keep (Below.refl _ _).drew).keep (Below.refl _ _).drew), HBR.out.drew.drew.trans (setT_below wr.drew.drew w.heap.size u)⟩
        · have d1 : decide ((cur.kids.length : Int) ≤ z) = true := decide_eq_true (by omega)
          have hkb : kidB cur z = false := by unfold kidB; rw [decide_eq_false h1, Bool.and_false]
          have HN := Lib.hid (show findT t zs = none from by rw [HF.out, HD.out, findT, hkb]; rfl)
          clear hkb
          go_wp2_with fail
          go_region_o
          all_goals
            go_wp2
            refine bodyPost_ret (v := .tuple #[.agg #[.int .i64 0, .string ⟨#[]⟩, .slice none 0 0, .slice none 0 0], .bool false]) (by simp [results, Tryz.results27, go_sem, *]) rfl ?_
            refine ⟨HBR.out.drew.trans ((setT_below wr.drew (w.heap.size + 1) ⟨0, ⟨#[]⟩, none, 0, 0, none, 0, 0⟩).mono (Nat.le_succ _)), ⟨0, ⟨#[]⟩, none, 0, 0, none, 0, 0⟩, by rw [HN.out]; rfl, fun _ => False, fun _ h => h.elim, ?_⟩
            rw [HN.out]
            exact noTr_at _ _
    · have HN := Lib.hid (show findT t zs = some cur from by rw [HF.out, List.drop_eq_nil_of_le (by omega)]; rfl)
      go_wp2
      refine bodyPost_ret (v := .tuple #[.agg #[.int .i64 vk, .string vx, .slice vla vll vlc, .slice vka cur.kids.length vkc], .bool true]) (by simp [results, Tryz.results27, go_sem, *]) rfl ?_
      refine ⟨HBR.out.trans ((setT_below wr (w.heap.size + 1) ⟨vk, vx, vla, vll, vlc, vka, cur.kids.length, vkc⟩).mono (Nat.le_succ _)), ⟨vk, vx, vla, vll, vlc, vka, cur.kids.length, vkc⟩, by rw [HN.out]; rfl, fun k => k < w.heap.size, fun k hk => Nat.lt_of_lt_of_le (Nat.lt_trans hk hbl) (setT_below wr (w.heap.size + 1) ⟨vk, vx, vla, vll, vlc, vka, cur.kids.length, vkc⟩).size, ?_⟩
      rw [HN.out]
      exact TrAt.move (w' := setT wr (w.heap.size + 1) ⟨vk, vx, vla, vll, vlc, vka, cur.kids.length, vkc⟩) (fun _ h => h) (fun k hk _ => setT_other _ (by omega)) _ _ HTY.out
end Go.Proofs.YtpdmklbfbpdneaaGreat
namespace Go.Proofs.YtpdmklbfbpdneaaGreat
open Go.RowKit Go.Shelf
def leafT (s : ByteArray) : Tr := .mk 10 s [⟨#[32]⟩] []
def awakeTr : Tr := .mk 21 ⟨#[43]⟩ [] [leafT ⟨#[49]⟩, leafT ⟨#[50]⟩]
theorem awake_tree {S : Nat → Prop} {W : World} {K : Nat} {u1 u2 : TV} (hK : W.heap[K]? = some (.cells #[.int .i64 u1.kind, .string u1.text, .slice u1.la u1.ll u1.lc, .slice u1.ka u1.kl u1.kc, .int .i64 u2.kind, .string u2.text, .slice u2.la u2.ll u2.lc, .slice u2.ka u2.kl u2.kc] 25 (0, 0))) (h1 : TrAt S W (leafT ⟨#[49]⟩) u1) (h2 : TrAt S W (leafT ⟨#[50]⟩) u2) (hS : S K) : TrAt S W awakeTr ⟨21, ⟨#[43]⟩, none, 0, 0, some ⟨K, 0, none⟩, 2, 2⟩ := by
  refine TrAt.make rfl rfl rfl rfl (fun h => absurd rfl h) (fun _ => ⟨K, 0, rfl, hS, TrsAt.of [leafT ⟨#[49]⟩, leafT ⟨#[50]⟩] 0 fun i t ht => ?_⟩) ⟨Nat.le_refl _, Nat.le_refl _⟩
  cases i with
  | zero => simp at ht; subst ht; exact ⟨u1, cells_of hK 0 _ rfl, cells_of hK 1 _ rfl, cells_of hK 2 _ rfl, cells_of hK 3 _ rfl, h1⟩
  | succ i =>
    cases i with
    | zero => simp at ht; subst ht; exact ⟨u2, cells_of hK 4 _ rfl, cells_of hK 5 _ rfl, cells_of hK 6 _ rfl, cells_of hK 7 _ rfl, h2⟩
    | succ i => simp at ht
theorem heap_alloc_old {w : World} {o : Obj} {k : Nat} {x : Obj} (h : w.heap[k]? = some x) : (w.alloc o).heap[k]? = some x := (((Below.refl w.heap.size w).alloc (Nat.le_refl _) o).block k (lt_of_heap h)).trans h
theorem awake_find : findT awakeTr [1] = some (leafT ⟨#[50]⟩) := by rfl
theorem tawake_size : sizeT awakeTr = 3 := by kernel_rfl
theorem awake_depth : depthT awakeTr = 2 := by kernel_rfl
theorem awake_num : numG 0 awakeTr [1] = 2 := by kernel_rfl
theorem awake_same : sameT awakeTr awakeTr = true := by kernel_rfl
theorem awake_fit : fitT awakeTr = true := by kernel_rfl
theorem tawake_small : smallT awakeTr = true := by kernel_rfl
theorem ints_one {w : World} {b : Nat} {x : Int} (h : w.heap[b]? = some (.cells #[.int .i64 x] 3 (0, 0))) : IntsAt w (some ⟨b, 0, none⟩) [x] := fun _ => ⟨b, 0, rfl, lt_of_heap h, fun i y hy => by
  cases i with
  | zero => simp at hy; subst hy; exact cells_of h 0 _ rfl
  | succ i => simp at hy⟩
end Go.Proofs.YtpdmklbfbpdneaaGreat
namespace Go.Proofs.YtpdmklbfbpdneaaGreat
open Go.RowKit Go.ChangeShapes Go.WideShapes Go.Deep
/-- The bytes of some texts. -/
def szB : List ByteArray → Nat
  | [] => 0
  | y :: r => y.size + szB r
mutual
/-- The nodes, leads and bytes of a tree. -/
def cntT : Tr → Nat
  | .mk _ x ls ks => 1 + x.size + szB ls + ls.length + ks.length + cntL ks
def cntL : List Tr → Nat
  | [] => 0
  | t :: r => cntT t + cntL r
end
mutual
theorem size_cnt : (t : Tr) → sizeT t ≤ cntT t
  | .mk _ _ ls ks => by rw [sizeT, cntT]; have := sizeL_cnt ks; omega
theorem sizeL_cnt : (l : List Tr) → sizeL l ≤ cntL l
  | [] => by rw [sizeL]; omega
  | t :: r => by rw [sizeL, cntL]; have := size_cnt t; have := sizeL_cnt r; omega
end
mutual
theorem fit_cnt : (t : Tr) → cntT t ≤ 1048576 → fitT t = true
  | .mk _ _ ls ks, h => by
    rw [cntT] at h
    rw [fitT, fitL_cnt ks (by omega), decide_eq_true (by omega), decide_eq_true (by omega)]
    rfl
theorem fitL_cnt : (l : List Tr) → cntL l ≤ 1048576 → fitL l = true
  | [], _ => by rw [fitL]
  | t :: r, h => by
    rw [cntL] at h
    rw [fitL, fit_cnt t (by omega), fitL_cnt r (by omega)]
    rfl
end
mutual
theorem small_cnt : (t : Tr) → cntT t ≤ 1048576 → smallT t = true
  | .mk _ _ ls ks, h => by
    rw [cntT] at h
    rw [smallT, smallL_cnt ks (by omega), decide_eq_true (by omega), decide_eq_true (by omega)]
    rfl
theorem smallL_cnt : (l : List Tr) → cntL l ≤ 1048576 → smallL l = true
  | [], _ => by rw [smallL]
  | t :: r, h => by
    rw [cntL] at h
    rw [smallL, small_cnt t (by omega), smallL_cnt r (by omega)]
    rfl
end
section
variable {H : Type} {enc : TypeId × Value → H} {w : World} {base : Nat} {spare : Nat → Bool} {held : Bool}
theorem bulk_pos (d : DataW H) : 1 ≤ Rows.uptoBulk d := by
  cases d with
  | lit l => cases l <;> simp [Rows.uptoBulk]
  | nil => simp [Rows.uptoBulk]
  | ptr d => simp [Rows.uptoBulk]
  | slice a b => simp [Rows.uptoBulk]
  | agg l => simp [Rows.uptoBulk]
  | iface t d => simp [Rows.uptoBulk]
  | map l => simp [Rows.uptoBulk]
  | held t => simp [Rows.uptoBulk]
theorem bulk_len (l : List (DataW H)) : l.length ≤ Rows.uptoBulkAll l := by
  induction l with
  | nil => exact Nat.zero_le _
  | cons a r ih =>
    rw [List.length_cons]
    have := bulk_pos a
    simp only [Rows.uptoBulkAll]
    omega
theorem cntL_bulk : (ks : List Tr) → (ds : List (DataW H)) → ks.length = ds.length → (∀ (i : Nat) (k : Tr) (d : DataW H), ks[i]? = some k → ds[i]? = some d → cntT k + 1 ≤ Rows.uptoBulk d) → ks.length + cntL ks ≤ Rows.uptoBulkAll ds
  | [], ds, _, _ => by rw [cntL]; exact Nat.zero_le _
  | k :: r, [], h, _ => by cases h
  | k :: r, d :: ds, h, hh => by
    have h1 := hh 0 k d rfl rfl
    have h2 := cntL_bulk r ds (by simpa using h) (fun i k' d' hk hd => hh (i + 1) k' d' (by simpa using hk) (by simpa using hd))
    rw [cntL, List.length_cons]
    simp only [Rows.uptoBulkAll]
    omega
theorem szB_bulk : (ls : List ByteArray) → (ds : List (DataW H)) → ls.length = ds.length → (∀ (i : Nat) (k : ByteArray) (d : DataW H), ls[i]? = some k → ds[i]? = some d → k.size + 1 ≤ Rows.uptoBulk d) → ls.length + szB ls ≤ Rows.uptoBulkAll ds
  | [], ds, _, _ => by rw [szB]; exact Nat.zero_le _
  | k :: r, [], h, _ => by cases h
  | k :: r, d :: ds, h, hh => by
    have h1 := hh 0 k d rfl rfl
    have h2 := szB_bulk r ds (by simpa using h) (fun i k' d' hk hd => hh (i + 1) k' d' (by simpa using hk) (by simpa using hd))
    rw [szB, List.length_cons]
    simp only [Rows.uptoBulkAll]
    omega
theorem cells_tree : Tryz.prog.cellsOf 25 = 4 := by kernel_rfl
theorem cells_string : Tryz.prog.cellsOf 9 = 1 := by kernel_rfl
theorem cells_texts : Tryz.prog.cellsOf 22 = 1 := by kernel_rfl
theorem cells_trees : Tryz.prog.cellsOf 23 = 1 := by kernel_rfl
theorem bind_some {α β : Type} {x : Option α} {f : α → Option β} {y : β} (h : x.bind f = some y) : ∃ a, x = some a ∧ f a = some y := by
  cases x with
  | none => cases h
  | some a => exact ⟨a, rfl, h⟩
instance : Inhabited Tr := ⟨noTr⟩
instance : Inhabited TV := ⟨⟨0, ⟨#[]⟩, none, 0, 0, none, 0, 0⟩⟩
theorem plain_add (b off n : Nat) : ((⟨b, off, none⟩ : Addr).add n) = ⟨b, off + n, none⟩ := by unfold Addr.add; split <;> simp_all
theorem open_texts {fuel : Nat} {cs : List Value} {x : DataW H × List MemPlace} (h : DataW.trod enc Tryz.prog w base spare held fuel 22 cs = some x) :
    ∃ (A : Option Addr) (c : Nat) (ls : List ByteArray), cs = [.slice A ls.length c] ∧ StrsAt (fun _ => True) w A ls ∧ ls.length ≤ c ∧ ls.length + szB ls + 1 ≤ Rows.uptoBulk x.1 := by
  rcases DataW.trod_slice Tryz.underlying22 h with ⟨hcs, hx⟩ | ⟨a, len, cap, elems, rest, n, _, hcs, hx, _, hl, hm, hlen, hel, _, _⟩
  · exact ⟨none, 0, [], hcs, fun h => absurd rfl h, Nat.le_refl _, by rw [hx, szB]; exact bulk_pos _⟩
  · rw [cells_string] at hel
    obtain ⟨f, hf⟩ := choose_lt (α := ByteArray) (n := len) (p := fun i t => w.cell? (a.add i) = some (.string t) ∧ ∀ y, elems[i]? = some y → t.size + 1 ≤ Rows.uptoBulk y.1) (fun i hlt => by
      have h1 := hel i hlt
      rw [List.getElem?_eq_getElem (by omega)] at h1
      obtain ⟨cs', hc, ht⟩ := bind_some h1
      obtain ⟨l, e1, e2, _⟩ := DataW.trod_string Tryz.underlying9 ht
      subst e1
      obtain ⟨_, _, hat⟩ := World.cells?_some hc
      refine ⟨l, ?_, fun y hy => ?_⟩
      · have := hat 0 (by omega)
        simpa [Addr.add] using this
      · rw [List.getElem?_eq_getElem (by omega)] at hy
        injection hy with hy
        rw [← hy, e2]
        simp only [Rows.uptoBulk, Array.length_toList]
        exact Nat.le_refl _)
    refine ⟨some a, cap, (List.range len).map f, by rw [hcs]; simp, fun hne => ?_, by rw [List.length_map, List.length_range]; exact hl, ?_⟩
    · obtain ⟨b, off, spot⟩ := a
      have h0 : 0 < len := by
        rcases Nat.eq_zero_or_pos len with h | h
        · subst h
          exact absurd rfl hne
        · exact h
      have hspot : spot = none := by
        have := World.cell?_spot (hf 0 h0).1
        simpa [Addr.add] using this
      subst hspot
      refine ⟨b, off, rfl, trivial, fun i t ht => ?_⟩
      have hlt : i < len := by
        obtain ⟨h1, _⟩ := List.getElem?_eq_some_iff.1 ht
        simpa using h1
      have et : t = f i := by
        rw [List.getElem?_map, List.getElem?_range hlt] at ht
        simpa using ht.symm
      subst et
      have := (hf i hlt).1
      rw [plain_add] at this
      exact this
    · rw [hx]
      simp only [Rows.uptoBulk]
      have := szB_bulk ((List.range len).map f) (elems.map (·.1)) (by simp [hlen]) (fun i k d hk hd => by
        have hlt : i < len := by
          obtain ⟨h1, _⟩ := List.getElem?_eq_some_iff.1 hk
          simpa using h1
        have ek : k = f i := by
          rw [List.getElem?_map, List.getElem?_range hlt] at hk
          simpa using hk.symm
        subst ek
        rw [List.getElem?_map, List.getElem?_eq_getElem (show i < elems.length by omega)] at hd
        simp at hd
        subst hd
        exact (hf i hlt).2 _ (List.getElem?_eq_getElem (by omega)))
      omega
set_option maxRecDepth 100000 in
theorem open_tree : ∀ (fuel : Nat) {cs : List Value} {x : DataW H × List MemPlace}, DataW.trod enc Tryz.prog w base spare held fuel 25 cs = some x →
    ∃ (t : Tr) (v : TV), cs = v.cells ∧ TrAt (fun _ => True) w t v ∧ cntT t + 1 ≤ Rows.uptoBulk x.1 := by
  intro fuel
  induction fuel using Nat.strongRecOn with
  | ind fuel ih =>
    intro cs x h
    obtain ⟨ys, n, hn, hd, hlen, hyl, hf⟩ := DataW.trod_struct Tryz.underlying25 h
    rw [cells_tree] at hlen
    match cs, hlen, ys, hyl with
    | [c0, c1, c2, c3], _, [y0, y1, y2, y3], _ =>
      have f0 : DataW.trod enc Tryz.prog w base spare held n 3 (([c0, c1, c2, c3].drop 0).take (Tryz.prog.cellsOf 3)) = some y0 := hf 0 _ rfl
      have f1 : DataW.trod enc Tryz.prog w base spare held n 9 (([c0, c1, c2, c3].drop 1).take (Tryz.prog.cellsOf 9)) = some y1 := hf 1 _ rfl
      have f2 : DataW.trod enc Tryz.prog w base spare held n 22 (([c0, c1, c2, c3].drop 2).take (Tryz.prog.cellsOf 22)) = some y2 := hf 2 _ rfl
      have f3 : DataW.trod enc Tryz.prog w base spare held n 23 (([c0, c1, c2, c3].drop 3).take (Tryz.prog.cellsOf 23)) = some y3 := hf 3 _ rfl
      rw [cells_int1] at f0
      rw [cells_string] at f1
      rw [cells_texts] at f2
      rw [cells_trees] at f3
      obtain ⟨k, e0, _, _⟩ := DataW.trod_int Tryz.underlying3 (show DataW.trod enc Tryz.prog w base spare held n 3 [c0] = some y0 from f0)
      obtain ⟨tx, e1, ebx, _⟩ := DataW.trod_string Tryz.underlying9 (show DataW.trod enc Tryz.prog w base spare held n 9 [c1] = some y1 from f1)
      obtain ⟨la, lc, ls, e2, hls, hlc, hlb⟩ := open_texts (show DataW.trod enc Tryz.prog w base spare held n 22 [c2] = some y2 from f2)
      have kids : ∃ (A : Option Addr) (c : Nat) (ks : List Tr), [c3] = [.slice A ks.length c] ∧ KidsIn (fun _ => True) w A ks ∧ ks.length ≤ c ∧ ks.length + cntL ks + 1 ≤ Rows.uptoBulk y3.1 := by
        rcases DataW.trod_slice Tryz.underlying23 (show DataW.trod enc Tryz.prog w base spare held n 23 [c3] = some y3 from f3) with ⟨hcs, hx⟩ | ⟨a, len, cap, elems, rest, m, hm1, hcs, hx, _, hl, hm, hlen, hel, _, _⟩
        · exact ⟨none, 0, [], hcs, fun h => absurd rfl h, Nat.le_refl _, by rw [hx, cntL]; exact bulk_pos _⟩
        · rw [cells_tree] at hel
          obtain ⟨f, hf⟩ := choose_lt (α := Tr × TV) (n := len) (p := fun i t => w.cell? (a.add (i * 4)) = some (.int .i64 t.2.kind) ∧ w.cell? ((a.add (i * 4)).add 1) = some (.string t.2.text) ∧ w.cell? ((a.add (i * 4)).add 2) = some (.slice t.2.la t.2.ll t.2.lc) ∧ w.cell? ((a.add (i * 4)).add 3) = some (.slice t.2.ka t.2.kl t.2.kc) ∧ TrAt (fun _ => True) w t.1 t.2 ∧ ∀ y, elems[i]? = some y → cntT t.1 + 1 ≤ Rows.uptoBulk y.1) (fun i hlt => by
            have h1 := hel i hlt
            rw [List.getElem?_eq_getElem (by omega)] at h1
            obtain ⟨cs', hc, ht⟩ := bind_some h1
            obtain ⟨t, v, ecs, htr, hcn⟩ := ih m (by omega) ht
            subst ecs
            obtain ⟨_, _, hat⟩ := World.cells?_some hc
            refine ⟨(t, v), ?_, hat 1 (by omega), hat 2 (by omega), hat 3 (by omega), htr, fun y hy => ?_⟩
            · have := hat 0 (by omega)
              rw [show (a.add (i * 4)).add 0 = a.add (i * 4) from by unfold Addr.add; simp] at this
              exact this
            · rw [List.getElem?_eq_getElem (by omega)] at hy
              injection hy with hy
              rw [← hy]
              exact hcn)
          refine ⟨some a, cap, (List.range len).map (fun i => (f i).1), by rw [hcs]; simp, fun hne => ?_, by rw [List.length_map, List.length_range]; exact hl, ?_⟩
          · obtain ⟨b, off, spot⟩ := a
            have h0 : 0 < len := by
              rcases Nat.eq_zero_or_pos len with h | h
              · subst h
                exact absurd rfl hne
              · exact h
            have hspot : spot = none := by
              have := World.cell?_spot (hf 0 h0).1
              simpa [Addr.add] using this
            subst hspot
            refine ⟨b, off, rfl, trivial, TrsAt.of _ off fun i t ht => ?_⟩
            have hlt : i < len := by
              obtain ⟨h1, _⟩ := List.getElem?_eq_some_iff.1 ht
              simpa using h1
            have et : t = (f i).1 := by
              rw [List.getElem?_map, List.getElem?_range hlt] at ht
              simpa using ht.symm
            subst et
            obtain ⟨g0, g1, g2, g3, g4, _⟩ := hf i hlt
            rw [plain_add] at g0 g1 g2 g3
            rw [plain_add] at g1 g2 g3
            exact ⟨(f i).2, g0, g1, g2, g3, g4⟩
          · rw [hx]
            simp only [Rows.uptoBulk]
            have := cntL_bulk ((List.range len).map (fun i => (f i).1)) (elems.map (·.1)) (by simp [hlen]) (fun i k d hk hd => by
              have hlt : i < len := by
                obtain ⟨h1, _⟩ := List.getElem?_eq_some_iff.1 hk
                simpa using h1
              have ek : k = (f i).1 := by
                rw [List.getElem?_map, List.getElem?_range hlt] at hk
                simpa using hk.symm
              subst ek
              rw [List.getElem?_map, List.getElem?_eq_getElem (show i < elems.length by omega)] at hd
              simp at hd
              subst hd
              exact (hf i hlt).2.2.2.2.2 _ (List.getElem?_eq_getElem (by omega)))
            omega
      obtain ⟨ka, kc, ks, e3, hks, hkc, hkb⟩ := kids
      simp at e0 e1 e2 e3
      refine ⟨.mk k tx ls ks, ⟨k, tx, la, ls.length, lc, ka, ks.length, kc⟩, by rw [e0, e1, e2, e3]; rfl, TrAt.make rfl rfl rfl rfl hls hks ⟨hlc, hkc⟩, ?_⟩
      rw [hd, cntT]
      simp only [List.map_cons, List.map_nil, Rows.uptoBulk, Rows.uptoBulkAll]
      have := bulk_pos y0.1
      have hbx : tx.size + 1 ≤ Rows.uptoBulk y1.1 := by
        rw [ebx]
        simp only [Rows.uptoBulk, Array.length_toList]
        exact Nat.le_refl _
      omega
end
end Go.Proofs.YtpdmklbfbpdneaaGreat
