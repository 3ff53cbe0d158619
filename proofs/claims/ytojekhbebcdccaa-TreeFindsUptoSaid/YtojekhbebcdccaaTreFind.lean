/- The contracts of hasKid, find and Number, the code's and the reference's. Condition: a tree that a machine can hold. -/
import Derived.Test.YtojekhbebcdccaaTreSize
import Derived.Test.YtojekhbebcdccaaTrInts
import Derived.Deep.RegionLaw
namespace Go.Proofs.Ytojekhbebcdccaa
open Go.RowKit
def kidB (t : Tr) (i : Int) : Bool := decide (0 ≤ i) && decide (i < (t.kids.length : Int))
def kidAt (t : Tr) (i : Int) : Tr := (t.kids[i.toNat]?).getD noTr
theorem kidB_get {t : Tr} {i : Int} (h : kidB t i = true) : 0 ≤ i ∧ i < (t.kids.length : Int) ∧ t.kids[i.toNat]? = some (kidAt t i) := by
  unfold kidB at h
  simp only [Bool.and_eq_true, decide_eq_true_eq] at h
  refine ⟨h.1, h.2, ?_⟩
  unfold kidAt
  rw [List.getElem?_eq_getElem (by omega)]
  rfl
def findT : Tr → List Int → Option Tr
  | t, [] => some t
  | t, i :: r => if kidB t i then findT (kidAt t i) r else none
def numG : Nat → Tr → List Int → Int
  | n, _, [] => n
  | n, t, i :: r => if kidB t i then numG (n + 1 + sizeL (t.kids.take i.toNat)) (kidAt t i) r else -1
set_option maxHeartbeats 1000000 in
theorem haskid_any (S : Nat → Prop) (t : Tr) (v : TV) (i : Int) (w : World) (h : TrAt S w t v) :
    Calls Try.prog 37 #[.agg #[.int .i64 v.kind, .string v.text, .slice v.la v.ll v.lc, .slice v.ka v.kl v.kc], .int .i64 i] w fun e w' => e = .returned (.bool (kidB t i)) ∧ Below w.heap.size w w' := by
  have hkl := h.kl.1
  clear h
  obtain ⟨vk, vx, vla, vll, vlc, vka, vkl, vkc⟩ := v
  simp only at hkl
  subst hkl
  have HX := Lib.hid (heap_alloc_new w (trO ⟨vk, vx, vla, vll, vlc, vka, t.kids.length, vkc⟩))
  have HB0 := Lib.hid ((Below.refl w.heap.size w).alloc (Nat.le_refl _) (trO ⟨vk, vx, vla, vll, vlc, vka, t.kids.length, vkc⟩))
  have k3 : (w.alloc (trO ⟨vk, vx, vla, vll, vlc, vka, t.kids.length, vkc⟩)).cell? ⟨w.heap.size, 3, none⟩ = some (.slice vka t.kids.length vkc) := cells_of HX.out 3 _ rfl
  have HR := Lib.hid (show kidB t i = (decide (0 ≤ i) && decide (i < (t.kids.length : Int))) from rfl)
  by_cases h0 : 0 ≤ i
  · have d0 := decide_eq_true h0
    by_cases h1 : i < (t.kids.length : Int)
    · have d1 := decide_eq_true h1
      have HRR := Lib.hid (show kidB t i = true from by rw [HR.out, d0, d1]; rfl)
      clear HR
      go_enter Try.func37, Try.ntmps37
      go_wp2
      go_ret
      exact ⟨by rw [HRR.out]; rfl, HB0.out⟩
    · have d1 := decide_eq_false h1
      have HRR := Lib.hid (show kidB t i = false from by rw [HR.out, d1, Bool.and_false])
      clear HR
      go_enter Try.func37, Try.ntmps37
      go_wp2
      go_ret
      exact ⟨by rw [HRR.out]; rfl, HB0.out⟩
  · have d0 := decide_eq_false h0
    have HRR := Lib.hid (show kidB t i = false from by rw [HR.out, d0, Bool.false_and])
    clear HR
    go_enter Try.func37, Try.ntmps37
    go_wp2
    go_ret
    exact ⟨by rw [HRR.out]; rfl, HB0.out⟩
/-- The four cells of a tree at a place. -/
def CellsAt (w : World) (b o : Nat) (y : TV) : Prop := w.cell? ⟨b, o, none⟩ = some (.int .i64 y.kind) ∧ w.cell? ⟨b, o + 1, none⟩ = some (.string y.text) ∧ w.cell? ⟨b, o + 2, none⟩ = some (.slice y.la y.ll y.lc) ∧ w.cell? ⟨b, o + 3, none⟩ = some (.slice y.ka y.kl y.kc)
theorem CellsAt.keep {w w' : World} {b o : Nat} {y : TV} (h : CellsAt w b o y) (hb : Below w.heap.size w w') : CellsAt w' b o y := by
  have hlt : b < w.heap.size := World.block_lt_of_cell? w _ h.1
  have hk : ∀ i, w'.cell? ⟨b, i, none⟩ = w.cell? ⟨b, i, none⟩ := fun i => World.cell?_of_block (w := w) (a := ⟨b, i, none⟩) (hb.block b hlt)
  exact ⟨(hk _).trans h.1, (hk _).trans h.2.1, (hk _).trans h.2.2.1, (hk _).trans h.2.2.2⟩
/-- Where find stands. -/
def FindAt (S : Nat → Prop) (t0 : Tr) (zs : List Int) (pb po : Nat) (w : World) (p i : Value) (wr : World) : Prop :=
  ∃ (j b o : Nat) (y : TV) (cur : Tr), p = .pointer (some ⟨b, o, none⟩) ∧ i = .int .i64 j ∧ j ≤ zs.length ∧ findT t0 zs = findT cur (zs.drop j) ∧ CellsAt wr b o y ∧ TrAt S wr cur y ∧ (b = pb ∧ o = po ∨ S b) ∧ Below w.heap.size w wr
def FindPost (S : Nat → Prop) (t : Tr) (zs : List Int) (pb po : Nat) (w : World) (e : Ending) (w' : World) : Prop :=
  Below w.heap.size w w' ∧ match findT t zs with
    | none => e = .returned (.pointer none)
    | some u => ∃ b o y, e = .returned (.pointer (some ⟨b, o, none⟩)) ∧ CellsAt w' b o y ∧ TrAt S w' u y ∧ (b = pb ∧ o = po ∨ S b)
theorem drop_cons {α : Type} {l : List α} {j : Nat} {x : α} (h : l[j]? = some x) : l.drop j = x :: l.drop (j + 1) := by
  obtain ⟨hj, he⟩ := List.getElem?_eq_some_iff.1 h
  rw [List.drop_eq_getElem_cons hj, he]
set_option maxRecDepth 100000 in
set_option maxHeartbeats 1000000 in
theorem find_any (S : Nat → Prop) (t : Tr) (y0 : TV) (pb po : Nat) (A : Option Addr) (c : Nat) (zs : List Int) (w : World) (hc : CellsAt w pb po y0) (h : TrAt S w t y0) (hA : IntsAt w A zs) (hz : zs.length ≤ maxLen) :
    Calls Try.prog 34 #[.pointer (some ⟨pb, po, none⟩), .slice A zs.length c] w (FindPost S t zs pb po w) := by
  have HC := Lib.hid hc
  have HT := Lib.hid h
  have HA := Lib.hid hA
  have hmax : zs.length ≤ 9223372036854775807 := by unfold maxLen at hz; omega
  clear hc h hA hz
  go_enter Try.func34, Try.ntmps34
  go_wp2
  go_loopw [0, 9] (fun p i wr => FindAt S t zs pb po w p i wr) (fun _ i _ => zs.length - (intOf i).toNat)
  case atStart => exact ⟨0, pb, po, y0, t, rfl, rfl, Nat.zero_le _, rfl, HC.out, HT.out, .inl ⟨rfl, rfl⟩, Below.refl _ _⟩
  case round =>
    obtain ⟨j, b, o, y, cur, rfl, rfl, hj, hf, hcy, hty, hbo, hb⟩ := hrel
    have HF := Lib.hid hf
    have HTY := Lib.hid hty
    have HCY := Lib.hid hcy
    have HBO := Lib.hid hbo
    have HBR := Lib.hid hb
    clear hf hty hbo hb
    by_cases hlt : j < zs.length
    · obtain ⟨z, hz⟩ : ∃ z, zs[j]? = some z := ⟨_, List.getElem?_eq_getElem hlt⟩
      obtain ⟨ab, ao, rfl, _, hac⟩ := (HA.out.keep HBR.out).at hlt
      have a0 := hac j z hz
      have HD := Lib.hid (drop_cons hz)
      obtain ⟨c0, c1, c2, c3⟩ := hcy
      have hbl : b < wr.heap.size := World.block_lt_of_cell? wr _ c0
      clear hac hz
      cases hkb : kidB cur z
      · have HR := Lib.hid (show findT t zs = none from by rw [HF.out, HD.out, findT, hkb]; rfl)
        go_wp2_with (go_at_call 37; refine (haskid_any S cur y z _ HTY.out).mono ?_; rw [hkb]; rintro e w2 ⟨rfl, hb2⟩; have HB2 := Lib.hid (HBR.out.trans (hb2.mono HBR.out.size)); clear hb2)
        go_ret
        refine ⟨HB2.out, ?_⟩
        rw [HR.out]
        rfl
      · obtain ⟨z0, z1, z2⟩ := kidB_get hkb
        have HR := Lib.hid (show findT t zs = findT (kidAt cur z) (zs.drop (j + 1)) from by rw [HF.out, HD.out, findT, hkb]; rfl)
        obtain ⟨m, rfl⟩ : ∃ m : Nat, z = (m : Int) := ⟨z.toNat, by omega⟩
        rw [Int.toNat_natCast] at z2
        have hm : m < cur.kids.length := by omega
        go_wp2_with (go_at_call 37; refine (haskid_any S cur y m _ HTY.out).mono ?_; rw [hkb]; rintro e w2 ⟨rfl, hb2⟩; have HB2 := Lib.hid (HBR.out.trans (hb2.mono HBR.out.size)); have HC2 := Lib.hid (HCY.out.keep hb2); have HT2 := Lib.hid (HTY.out.keep hb2); clear hb2 c0 c1 c2 c3 hbl a0; obtain ⟨c0, c1, c2, c3⟩ := HC2.out; have hbl : b < w2.heap.size := World.block_lt_of_cell? w2 _ c0; have hkl := HT2.out.kl.1; rw [hkl] at c3; obtain ⟨kb, ko, hka⟩ : ∃ b off, y.ka = some ⟨b, off, none⟩ := HT2.out.addr.resolve_left (by omega); rw [hka] at c3)
        go_roundw
        case measure => simp [intOf]; omega
        case rel =>
          obtain ⟨u, d0, d1, d2, d3, hu⟩ := HT2.out.at hka z2
          obtain ⟨_, b', off', hA', hSb, _⟩ := HT2.out.kid z2
          rw [hka] at hA'
          injection hA' with e
          injection e with e1 e2 _
          subst e1
          exact ⟨j + 1, kb, ko + m * 4, u, kidAt cur m, rfl, by go_num, by omega, HR.out, ⟨d0, d1, d2, d3⟩, hu, .inr hSb, HB2.out⟩
    · have HR := Lib.hid (show findT t zs = some cur from by rw [HF.out, List.drop_eq_nil_of_le (by omega)]; rfl)
      go_wp2
      go_ret
      refine ⟨HBR.out, ?_⟩
      rw [HR.out]
      exact ⟨b, o, y, rfl, HCY.out, HTY.out, HBO.out⟩
end Go.Proofs.Ytojekhbebcdccaa
