/- The contracts of At, the code's and the reference's, of leaf, light and awake. Conditions: a tree that a machine can hold. -/
import Derived.Test.YtojekhbebcdccaaTreClone
namespace Go.Proofs.Ytojekhbebcdccaa
open Go.RowKit Go.Shelf
/-- What At answers: a tree, and whether it is there. -/
def AtPost (t : Tr) (zs : List Int) (w : World) (e : Ending) (w' : World) : Prop :=
  Below w.heap.size w w' ∧ ∃ u : TV, e = .returned (.tuple #[.agg #[.int .i64 u.kind, .string u.text, .slice u.la u.ll u.lc, .slice u.ka u.kl u.kc], .bool (findT t zs).isSome]) ∧ ∃ S : Nat → Prop, (∀ k, S k → k < w'.heap.size) ∧ TrAt S w' ((findT t zs).getD noTr) u
theorem fit_find : ∀ (zs : List Int) (t u : Tr), fitT t = true → findT t zs = some u → fitT u = true ∧ SizeOf.sizeOf u ≤ SizeOf.sizeOf t
  | [], t, u, h, hf => by injection hf with hf; subst hf; exact ⟨h, Nat.le_refl _⟩
  | i :: r, t, u, h, hf => by
    unfold findT at hf
    cases hk : kidB t i
    · rw [hk] at hf; cases hf
    · rw [hk] at hf
      obtain ⟨_, _, h3⟩ := kidB_get hk
      obtain ⟨h4, h5⟩ := fit_find r (kidAt t i) u ((fitT_kids h).2.2 _ _ h3) hf
      exact ⟨h4, Nat.le_trans h5 (Nat.le_of_lt (kid_sizeOf h3))⟩
theorem noTr_at (S : Nat → Prop) (w : World) : TrAt S w noTr ⟨0, ⟨#[]⟩, none, 0, 0, none, 0, 0⟩ := by
  unfold noTr TrAt
  exact ⟨rfl, rfl, rfl, rfl, fun h => absurd rfl h, fun h => absurd rfl h, Nat.le_refl _, Nat.le_refl _⟩
set_option maxRecDepth 100000 in
set_option maxHeartbeats 1000000 in
theorem at_any (S : Nat → Prop) (t : Tr) (v : TV) (A : Option Addr) (c : Nat) (zs : List Int) (w : World) (h : TrAt S w t v) (hA : IntsAt w A zs) (hz : zs.length ≤ maxLen) (hf : fitT t = true) :
    Calls Try.prog 18 #[.agg #[.int .i64 v.kind, .string v.text, .slice v.la v.ll v.lc, .slice v.ka v.kl v.kc], .slice A zs.length c] w (AtPost t zs w) := by
  have hb0 := ((Below.refl w.heap.size w).alloc (Nat.le_refl _) (trO v)).alloc (by rw [World.size_alloc]; omega) (.cells #[.int .i64 0, .string ⟨#[]⟩, .slice none 0 0, .slice none 0 0] 25)
  have HB0 := Lib.hid hb0
  have HT := Lib.hid (h.keep hb0)
  have HA := Lib.hid (hA.keep hb0)
  have hx : ((w.alloc (trO v)).alloc (.cells #[.int .i64 0, .string ⟨#[]⟩, .slice none 0 0, .slice none 0 0] 25)).heap[w.heap.size]? = some (trO v) := (((Below.refl (w.alloc (trO v)).heap.size _).alloc (Nat.le_refl _) _).block w.heap.size (by simp)).trans (heap_alloc_new w _)
  have HC := Lib.hid (show CellsAt ((w.alloc (trO v)).alloc (.cells #[.int .i64 0, .string ⟨#[]⟩, .slice none 0 0, .slice none 0 0] 25)) w.heap.size 0 v from ⟨cells_of hx 0 _ rfl, cells_of hx 1 _ rfl, cells_of hx 2 _ rfl, cells_of hx 3 _ rfl⟩)
  have HR := Lib.hid (show ((w.alloc (trO v)).alloc (.cells #[.int .i64 0, .string ⟨#[]⟩, .slice none 0 0, .slice none 0 0] 25)).heap[w.heap.size + 1]? = some (trO ⟨0, ⟨#[]⟩, none, 0, 0, none, 0, 0⟩) from by rw [← World.size_alloc w (trO v)]; exact heap_alloc_new _ _)
  have HZ := Lib.hid hz
  have HF := Lib.hid hf
  clear h hA hz hf hx hb0
  cases hfd : findT t zs with
  | none =>
    have HFD := Lib.hid hfd
    go_enter Try.func18, Try.ntmps18
    go_wp2_with fail
    go_at_call 34
    refine (find_any S t v w.heap.size 0 A c zs _ HC.out HT.out HA.out HZ.out).mono ?_
    rintro e w2 ⟨hb2, he⟩
    rw [hfd] at he
    subst he
    have HB2 := Lib.hid (HB0.out.trans (hb2.mono HB0.out.size))
    have hr2 := (hb2.block (w.heap.size + 1) (lt_of_heap HR.out)).trans HR.out
    have r0 := cells_of hr2 0 _ rfl
    have r1 := cells_of hr2 1 _ rfl
    have r2 := cells_of hr2 2 _ rfl
    have r3 := cells_of hr2 3 _ rfl
    have rbl := lt_of_heap hr2
    have rrf := Lib.frozen_of_heap hr2
    clear hb2 hr2 hfd
    go_wp2
    refine bodyPost_ret (v := .tuple #[.agg #[.int .i64 0, .string ⟨#[]⟩, .slice none 0 0, .slice none 0 0], .bool false]) (by simp [results, Try.results18, go_sem, *]) rfl ?_
    refine ⟨HB2.out.trans ((setT_below w2 (w.heap.size + 1) ⟨0, ⟨#[]⟩, none, 0, 0, none, 0, 0⟩).mono (Nat.le_succ _)), ⟨0, ⟨#[]⟩, none, 0, 0, none, 0, 0⟩, by rw [HFD.out]; rfl, fun _ => False, fun _ h => h.elim, ?_⟩
    rw [HFD.out]
    exact noTr_at _ _
  | some u =>
    have HFD := Lib.hid hfd
    have HFU := Lib.hid (fit_find zs t u HF.out hfd).1
    go_enter Try.func18, Try.ntmps18
    go_wp2_with fail
    go_at_call 34
    refine (find_any S t v w.heap.size 0 A c zs _ HC.out HT.out HA.out HZ.out).mono ?_
    rintro e w2 ⟨hb2, he⟩
    rw [hfd] at he
    obtain ⟨b, o, y, rfl, ⟨c0, c1, c2, c3⟩, hty, _⟩ := he
    have HB2 := Lib.hid (HB0.out.trans (hb2.mono HB0.out.size))
    have HR2 := Lib.hid ((hb2.block (w.heap.size + 1) (lt_of_heap HR.out)).trans HR.out)
    have HTY := Lib.hid hty
    have bbl : b < w2.heap.size := World.block_lt_of_cell? w2 _ c0
    clear hb2 hfd hty
    go_wp2_with fail
    go_at_call 35
    refine (clone_any (SizeOf.sizeOf u) S u y _ (Nat.le_refl _) HTY.out HFU.out).mono ?_
    rintro e w3 ⟨y', rfl, hty', hb3⟩
    have HB3 := Lib.hid (HB2.out.trans (hb3.mono HB2.out.size))
    have HR3 := Lib.hid ((hb3.block (w.heap.size + 1) (lt_of_heap HR2.out)).trans HR2.out)
    have HTY' := Lib.hid hty'
    have r0 := cells_of HR3.out 0 _ rfl
    have r1 := cells_of HR3.out 1 _ rfl
    have r2 := cells_of HR3.out 2 _ rfl
    have r3 := cells_of HR3.out 3 _ rfl
    have rbl := lt_of_heap HR3.out
    have rrf := Lib.frozen_of_heap HR3.out
    clear hb3 hty' c0 c1 c2 c3 bbl
    go_wp2
    refine bodyPost_ret (v := .tuple #[.agg #[.int .i64 y'.kind, .string y'.text, .slice y'.la y'.ll y'.lc, .slice y'.ka y'.kl y'.kc], .bool true]) (by simp [results, Try.results18, go_sem, *]) rfl ?_
    refine ⟨HB3.out.trans ((setT_below w3 (w.heap.size + 1) y').mono (Nat.le_succ _)), y', by rw [HFD.out]; rfl, fun k => w2.heap.size ≤ k ∧ k < w3.heap.size, fun k hk => Nat.lt_of_lt_of_le hk.2 (setT_below w3 (w.heap.size + 1) y').size, ?_⟩
    rw [HFD.out]
    exact TrAt.move (w' := setT w3 (w.heap.size + 1) y') (fun _ h => h) (fun k hk _ => setT_other y' (by have := lt_of_heap HR2.out; have := hk.1; omega)) _ _ HTY'.out
/-- Where the reference's At stands. -/
def RAtAt (t0 : Tr) (zs : List Int) (w : World) (i : Value) (wr : World) : Prop :=
  ∃ (j : Nat) (x : TV) (cur : Tr), i = .int .i64 j ∧ j ≤ zs.length ∧ findT t0 zs = findT cur (zs.drop j) ∧ wr.heap[w.heap.size]? = some (trO x) ∧ wr.heap[w.heap.size + 1]? = some (trO ⟨0, ⟨#[]⟩, none, 0, 0, none, 0, 0⟩) ∧ TrAt (fun k => k < w.heap.size) wr cur x ∧ Below w.heap.size w wr
set_option maxRecDepth 100000 in
set_option maxHeartbeats 2000000 in
theorem rat_any (S : Nat → Prop) (t : Tr) (v : TV) (A : Option Addr) (c : Nat) (zs : List Int) (w : World) (h : TrAt S w t v) (hA : IntsAt w A zs) (hz : zs.length ≤ maxLen) :
    Calls Try.prog 19 #[.agg #[.int .i64 v.kind, .string v.text, .slice v.la v.ll v.lc, .slice v.ka v.kl v.kc], .slice A zs.length c] w (AtPost t zs w) := by
  have hb0 := ((Below.refl w.heap.size w).alloc (Nat.le_refl _) (trO v)).alloc (by rw [World.size_alloc]; omega) (.cells #[.int .i64 0, .string ⟨#[]⟩, .slice none 0 0, .slice none 0 0] 25)
  have HB0 := Lib.hid hb0
  have HTL := Lib.hid ((TrAt.low t v h).keep hb0)
  have HA := Lib.hid hA
  have HX := Lib.hid (show ((w.alloc (trO v)).alloc (.cells #[.int .i64 0, .string ⟨#[]⟩, .slice none 0 0, .slice none 0 0] 25)).heap[w.heap.size]? = some (trO v) from (((Below.refl (w.alloc (trO v)).heap.size _).alloc (Nat.le_refl _) _).block w.heap.size (by simp)).trans (heap_alloc_new w _))
  have HR := Lib.hid (show ((w.alloc (trO v)).alloc (.cells #[.int .i64 0, .string ⟨#[]⟩, .slice none 0 0, .slice none 0 0] 25)).heap[w.heap.size + 1]? = some (trO ⟨0, ⟨#[]⟩, none, 0, 0, none, 0, 0⟩) from by rw [← World.size_alloc w (trO v)]; exact heap_alloc_new _ _)
  have hmax : zs.length ≤ 9223372036854775807 := by unfold maxLen at hz; omega
  have mixedL : Try.prog.follows Departure.mixedOrders = true := mixed
  clear h hA hz hb0
  go_enter Try.func19, Try.ntmps19
  go_wp2
  go_loopw [6] (fun i wr => RAtAt t zs w i wr) (fun i _ => zs.length - (intOf i).toNat)
  case atStart => exact ⟨0, v, t, rfl, Nat.zero_le _, rfl, HX.out, HR.out, HTL.out, HB0.out⟩
  case round =>
    obtain ⟨j, x, cur, rfl, hj, hf, hx, hr, hty, hb⟩ := hrel
    have HF := Lib.hid hf
    have HTY := Lib.hid hty
    have HXX := Lib.hid hx
    have HRR := Lib.hid hr
    have HBR := Lib.hid hb
    have hkl := hty.kl.1
    obtain ⟨vk, vx, vla, vll, vlc, vka, vkl, vkc⟩ := x
    simp only at hkl
    subst hkl
    clear hf hty hx hr hb
    have k0 := cells_of HXX.out 0 _ rfl
    have k1 := cells_of HXX.out 1 _ rfl
    have k2 := cells_of HXX.out 2 _ rfl
    have k3 := cells_of HXX.out 3 _ rfl
    have hbl := lt_of_heap HXX.out
    have rf := Lib.frozen_of_heap HXX.out
    have r0 := cells_of HRR.out 0 _ rfl
    have r1 := cells_of HRR.out 1 _ rfl
    have r2 := cells_of HRR.out 2 _ rfl
    have r3 := cells_of HRR.out 3 _ rfl
    have rbl := lt_of_heap HRR.out
    have rrf := Lib.frozen_of_heap HRR.out
    by_cases hlt : j < zs.length
    · obtain ⟨z, hz⟩ : ∃ z, zs[j]? = some z := ⟨_, List.getElem?_eq_getElem hlt⟩
      obtain ⟨ab, ao, rfl, _, hac⟩ := (HA.out.keep HBR.out).at hlt
      have a0 := hac j z hz
      have HD := Lib.hid (drop_cons hz)
      clear hac hz
      by_cases h0 : z < 0
      · have d0 := decide_eq_true h0
        have hkb : kidB cur z = false := by unfold kidB; rw [decide_eq_false (by omega)]; rfl
        have HN := Lib.hid (show findT t zs = none from by rw [HF.out, HD.out, findT, hkb]; rfl)
        clear hkb
        go_wp2_with fail
        go_region_o
        go_wp2
        refine bodyPost_ret (v := .tuple #[.agg #[.int .i64 0, .string ⟨#[]⟩, .slice none 0 0, .slice none 0 0], .bool false]) (by simp [results, Try.results19, go_sem, *]) rfl ?_
        refine ⟨HBR.out.drew.trans ((setT_below wr.drew (w.heap.size + 1) ⟨0, ⟨#[]⟩, none, 0, 0, none, 0, 0⟩).mono (Nat.le_succ _)), ⟨0, ⟨#[]⟩, none, 0, 0, none, 0, 0⟩, by rw [HN.out]; rfl, fun _ => False, fun _ h => h.elim, ?_⟩
        rw [HN.out]
        exact noTr_at _ _
      · have d0 := decide_eq_false h0
        by_cases h1 : z < (cur.kids.length : Int)
        · have hkb : kidB cur z = true := by unfold kidB; rw [decide_eq_true (by omega), decide_eq_true h1]; rfl
          obtain ⟨z0, _, z2⟩ := kidB_get hkb
          have HN := Lib.hid (show findT t zs = findT (kidAt cur z) (zs.drop (j + 1)) from by rw [HF.out, HD.out, findT, hkb]; rfl)
          obtain ⟨q, rfl⟩ : ∃ q : Nat, z = (q : Int) := ⟨z.toNat, by omega⟩
          rw [Int.toNat_natCast] at z2
          obtain ⟨kb, ko, hka⟩ : ∃ b off, vka = some ⟨b, off, none⟩ := HTY.out.addr.resolve_left (by omega)
          subst hka
          obtain ⟨u, c0, c1, c2, c3, hu⟩ := HTY.out.at rfl z2
          have HU := Lib.hid hu
          have kbl : kb < wr.heap.size := World.block_lt_of_cell? wr _ c3
          have hq : q < cur.kids.length := by omega
          have dn1 : decide (cur.kids.length ≤ q) = false := decide_eq_false (by omega)
          have hq0 : (0 : Int) ≤ (q : Int) := by omega
          clear hkb z2 hu h0 z0
          go_wp2_with fail
          go_region_o
          all_goals
            go_simp
            go_wp2_with fail
            first | go_region_o | go_region
            all_goals
              go_simp
              go_wp2
              go_roundw
              case measure => simp [intOf]; omega
              case rel => exact ⟨j + 1, u, kidAt cur q, by go_num, by omega, HN.out, setT_heap (w := wr.drew.drew) u HXX.out, (setT_other (w := wr.drew.drew) u (by omega)).trans HRR.out, TrAt.move (fun _ h => h) (fun k hk _ => (setT_below wr.drew.drew w.heap.size u).block k hk) _ _ ((HU.out.keep (Below.refl _ _).drew).keep (Below.refl _ _).drew), HBR.out.drew.drew.trans (setT_below wr.drew.drew w.heap.size u)⟩
        · have d1 : decide ((cur.kids.length : Int) ≤ z) = true := decide_eq_true (by omega)
          have hkb : kidB cur z = false := by unfold kidB; rw [decide_eq_false h1, Bool.and_false]
          have HN := Lib.hid (show findT t zs = none from by rw [HF.out, HD.out, findT, hkb]; rfl)
          clear hkb
          go_wp2_with fail
          go_region_o
          all_goals
            go_wp2
            refine bodyPost_ret (v := .tuple #[.agg #[.int .i64 0, .string ⟨#[]⟩, .slice none 0 0, .slice none 0 0], .bool false]) (by simp [results, Try.results19, go_sem, *]) rfl ?_
            refine ⟨HBR.out.drew.trans ((setT_below wr.drew (w.heap.size + 1) ⟨0, ⟨#[]⟩, none, 0, 0, none, 0, 0⟩).mono (Nat.le_succ _)), ⟨0, ⟨#[]⟩, none, 0, 0, none, 0, 0⟩, by rw [HN.out]; rfl, fun _ => False, fun _ h => h.elim, ?_⟩
            rw [HN.out]
            exact noTr_at _ _
    · have HN := Lib.hid (show findT t zs = some cur from by rw [HF.out, List.drop_eq_nil_of_le (by omega)]; rfl)
      go_wp2
      refine bodyPost_ret (v := .tuple #[.agg #[.int .i64 vk, .string vx, .slice vla vll vlc, .slice vka cur.kids.length vkc], .bool true]) (by simp [results, Try.results19, go_sem, *]) rfl ?_
      refine ⟨HBR.out.trans ((setT_below wr (w.heap.size + 1) ⟨vk, vx, vla, vll, vlc, vka, cur.kids.length, vkc⟩).mono (Nat.le_succ _)), ⟨vk, vx, vla, vll, vlc, vka, cur.kids.length, vkc⟩, by rw [HN.out]; rfl, fun k => k < w.heap.size, fun k hk => Nat.lt_of_lt_of_le (Nat.lt_trans hk hbl) (setT_below wr (w.heap.size + 1) ⟨vk, vx, vla, vll, vlc, vka, cur.kids.length, vkc⟩).size, ?_⟩
      rw [HN.out]
      exact TrAt.move (w' := setT wr (w.heap.size + 1) ⟨vk, vx, vla, vll, vlc, vka, cur.kids.length, vkc⟩) (fun _ h => h) (fun k hk _ => setT_other _ (by omega)) _ _ HTY.out
end Go.Proofs.Ytojekhbebcdccaa
