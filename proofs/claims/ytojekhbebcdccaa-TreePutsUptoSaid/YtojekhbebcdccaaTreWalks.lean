/- The contract of find, which says the way of the path through memory; and the block in which a way ends. Condition: a path that a machine can hold. -/
import Derived.Test.YtojekhbebcdccaaTreOwn
namespace Go.Proofs.Ytojekhbebcdccaa
open Go.RowKit
theorem Walks.keep {w w' : World} (hb : Below w.heap.size w w') {pb po : Nat} {v : TV} {l : List Int} {b o : Nat} (h : Walks w pb po v l b o) : Walks w' pb po v l b o := by
  induction h with
  | here pb po v => exact .here pb po v
  | kid ha hc hr ih => exact .kid ha (hc.keep hb) ih
theorem Walks.snoc {w : World} {pb po : Nat} {v : TV} {l : List Int} {b o : Nat} (h : Walks w pb po v l b o) : CellsAt w pb po v → ∀ {y : TV} {g ko : Nat} {z : Int} {u : TV}, CellsAt w b o y → y.ka = some ⟨g, ko, none⟩ → CellsAt w g (ko + z.toNat * 4) u → Walks w pb po v (l ++ [z]) g (ko + z.toNat * 4) := by
  induction h with
  | here pb po v =>
    intro hc y g ko z u hy hka hu
    obtain rfl := hc.inj hy
    exact .kid hka hu (.here _ _ _)
  | kid ha hc hr ih =>
    intro _ y g ko z u hy hka hu
    exact .kid ha hc (ih hc hy hka hu)
/-- The block in which a way ends. -/
theorem walk_block : ∀ (zs : List Int) (t : Tr) (v : TV) (lo hi pb po b o : Nat) (w : World) (cs : Array Value) (T : TypeId), (findT t zs).isSome = true → OwnT w t v lo hi → Walks w pb po v zs b o → w.heap[pb]? = some (.cells cs T (0, 0)) → po + 4 ≤ cs.size → ∃ cs' T', w.heap[b]? = some (.cells cs' T' (0, 0)) ∧ o + 4 ≤ cs'.size
  | [], t, v, lo, hi, pb, po, b, o, w, cs, T, hf, hO, hW, hb, hs => by
    cases hW
    exact ⟨cs, T, hb, hs⟩
  | z :: r, .mk k x ls ks, v, lo, hi, pb, po, b, o, w, cs, T, hf, hO, hW, hb, hs => by
    unfold findT at hf
    cases hkb : kidB (.mk k x ls ks) z
    · rw [hkb] at hf; cases hf
    rw [hkb] at hf
    simp only [if_true] at hf
    obtain ⟨z0, z1, z2⟩ := kidB_get hkb
    change ks[z.toNat]? = some _ at z2
    have hne : ks ≠ [] := fun e => by rw [e] at z2; simp at z2
    unfold OwnT at hO
    obtain ⟨h1, h2, h3, h4, h5, g, hg1, hg2, hl, hk⟩ := hO
    obtain ⟨ha, cs', us, hc, hu, hrow, ho⟩ := hk hne
    obtain ⟨u0, hu0⟩ : ∃ u, us[z.toNat]? = some u := ⟨_, List.getElem?_eq_getElem (by rw [hu]; exact (List.getElem?_eq_some_iff.1 z2).1)⟩
    obtain ⟨m, n, q1, q2, q3, q4, q5⟩ := ho.get ks us (g + 1) hi z.toNat _ u0 z2 hu0
    have hcu := RowIs.at hc hrow hu0
    cases hW with
    | kid ha' hc' hr' =>
      rename_i g' ko' u'
      rw [ha] at ha'
      injection ha' with e
      injection e with e1 e2 _
      subst e1 e2
      rw [Nat.zero_add] at hc' hr'
      obtain rfl := hcu.inj hc'
      have hsz : z.toNat * 4 + 4 ≤ cs'.size := by
        obtain ⟨_, _, _, r3⟩ := hrow z.toNat _ hu0
        have := (Array.getElem?_eq_some_iff.1 r3).1
        omega
      exact walk_block r (kidAt (.mk k x ls ks) z) u0 m n g (z.toNat * 4) b o w cs' _ hf q4 hr' hc hsz
/-- Where find stands, and how it came there. -/
def FindWAt (S : Nat → Prop) (t0 : Tr) (zs : List Int) (pb po : Nat) (y0 : TV) (w : World) (p i : Value) (wr : World) : Prop :=
  ∃ (j b o : Nat) (y : TV) (cur : Tr), p = .pointer (some ⟨b, o, none⟩) ∧ i = .int .i64 j ∧ j ≤ zs.length ∧ findT t0 zs = findT cur (zs.drop j) ∧ CellsAt wr b o y ∧ TrAt S wr cur y ∧ Walks wr pb po y0 (zs.take j) b o ∧ Below w.heap.size w wr
def FindWPost (t : Tr) (zs : List Int) (pb po : Nat) (y0 : TV) (w : World) (e : Ending) (w' : World) : Prop :=
  Below w.heap.size w w' ∧ match findT t zs with
    | none => e = .returned (.pointer none)
    | some _ => ∃ b o y, e = .returned (.pointer (some ⟨b, o, none⟩)) ∧ CellsAt w' b o y ∧ Walks w' pb po y0 zs b o
theorem take_snoc_int {l : List Int} {j : Nat} {x : Int} (h : l[j]? = some x) : l.take (j + 1) = l.take j ++ [x] := by
  obtain ⟨hj, he⟩ := List.getElem?_eq_some_iff.1 h
  rw [List.take_succ_eq_append_getElem hj, he]
set_option maxRecDepth 100000 in
set_option maxHeartbeats 1000000 in
theorem find_walks (S : Nat → Prop) (t : Tr) (y0 : TV) (pb po : Nat) (A : Option Addr) (c : Nat) (zs : List Int) (w : World) (hc : CellsAt w pb po y0) (h : TrAt S w t y0) (hA : IntsAt w A zs) (hz : zs.length ≤ maxLen) :
    Calls Try.prog 34 #[.pointer (some ⟨pb, po, none⟩), .slice A zs.length c] w (FindWPost t zs pb po y0 w) := by
  have HC := Lib.hid hc
  have HT := Lib.hid h
  have HA := Lib.hid hA
  have hmax : zs.length ≤ 9223372036854775807 := by unfold maxLen at hz; omega
  clear hc h hA hz
  go_enter Try.func34, Try.ntmps34
  go_wp2
  go_loopw [0, 9] (fun p i wr => FindWAt S t zs pb po y0 w p i wr) (fun _ i _ => zs.length - (intOf i).toNat)
  case atStart => exact ⟨0, pb, po, y0, t, rfl, rfl, Nat.zero_le _, rfl, HC.out, HT.out, .here _ _ _, Below.refl _ _⟩
  case round =>
    obtain ⟨j, b, o, y, cur, rfl, rfl, hj, hf, hcy, hty, hwk, hb⟩ := hrel
    have HF := Lib.hid hf
    have HTY := Lib.hid hty
    have HCY := Lib.hid hcy
    have HWK := Lib.hid hwk
    have HBR := Lib.hid hb
    clear hf hty hwk hb
    by_cases hlt : j < zs.length
    · obtain ⟨z, hz⟩ : ∃ z, zs[j]? = some z := ⟨_, List.getElem?_eq_getElem hlt⟩
      obtain ⟨ab, ao, rfl, _, hac⟩ := (HA.out.keep HBR.out).at hlt
      have a0 := hac j z hz
      have HD := Lib.hid (drop_cons hz)
      have HTK := Lib.hid (take_snoc_int hz)
      obtain ⟨c0, c1, c2, c3⟩ := hcy
      have hbl : b < wr.heap.size := World.block_lt_of_cell? wr _ c0
      clear hac hz
      cases hkb : kidB cur z
      · have HR := Lib.hid (show findT t zs = none from by rw [HF.out, HD.out, findT, hkb]; rfl)
        go_wp2_with (go_at_call 37; refine (haskid_any S cur y z _ HTY.out).mono ?_; rw [hkb]; rintro e w2 ⟨rfl, hb2⟩; have HB2 := Lib.hid (HBR.out.trans (hb2.mono HBR.out.size)); clear hb2)
        go_ret
        refine ⟨HB2.out, ?_⟩
        rw [HR.out]
        rfl
      · obtain ⟨z0, z1, z2⟩ := kidB_get hkb
        have HR := Lib.hid (show findT t zs = findT (kidAt cur z) (zs.drop (j + 1)) from by rw [HF.out, HD.out, findT, hkb]; rfl)
        obtain ⟨m, rfl⟩ : ∃ m : Nat, z = (m : Int) := ⟨z.toNat, by omega⟩
        rw [Int.toNat_natCast] at z2
        have hm : m < cur.kids.length := by omega
        go_wp2_with (go_at_call 37; refine (haskid_any S cur y m _ HTY.out).mono ?_; rw [hkb]; rintro e w2 ⟨rfl, hb2⟩; have HB2 := Lib.hid (HBR.out.trans (hb2.mono HBR.out.size)); have HC2 := Lib.hid (HCY.out.keep hb2); have HT2 := Lib.hid (HTY.out.keep hb2); have HW2 := Lib.hid (HWK.out.keep hb2); have HC0 := Lib.hid ((HC.out.keep HBR.out).keep hb2); clear hb2 c0 c1 c2 c3 hbl a0; obtain ⟨c0, c1, c2, c3⟩ := HC2.out; have hbl : b < w2.heap.size := World.block_lt_of_cell? w2 _ c0; have hkl := HT2.out.kl.1; rw [hkl] at c3; obtain ⟨kb, ko, hka⟩ : ∃ b off, y.ka = some ⟨b, off, none⟩ := HT2.out.addr.resolve_left (by omega); rw [hka] at c3)
        go_roundw
        case measure => simp [intOf]; omega
        case rel =>
          obtain ⟨u, d0, d1, d2, d3, hu⟩ := HT2.out.at hka z2
          have hw3 := HW2.out.snoc HC0.out (z := (m : Int)) (u := u) HC2.out hka (by rw [Int.toNat_natCast]; exact ⟨d0, d1, d2, d3⟩)
          rw [Int.toNat_natCast, ← HTK.out] at hw3
          exact ⟨j + 1, kb, ko + m * 4, u, kidAt cur m, rfl, by go_num, by omega, HR.out, ⟨d0, d1, d2, d3⟩, hu, hw3, HB2.out⟩
    · have HR := Lib.hid (show findT t zs = some cur from by rw [HF.out, List.drop_eq_nil_of_le (by omega)]; rfl)
      have HTK := Lib.hid (show zs.take j = zs from List.take_of_length_le (by omega))
      go_wp2
      go_ret
      refine ⟨HBR.out, ?_⟩
      rw [HR.out]
      have hw3 := HWK.out
      rw [HTK.out] at hw3
      exact ⟨b, o, y, rfl, HCY.out, hw3⟩
end Go.Proofs.Ytojekhbebcdccaa
