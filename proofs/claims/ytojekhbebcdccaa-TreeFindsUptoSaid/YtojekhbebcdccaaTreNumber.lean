/- The contracts of Number, the code's and the reference's. Condition: a tree that a machine can hold. -/
import Derived.Test.YtojekhbebcdccaaTreFind
import Derived.Deep.DrawnRows
import Derived.Shelf.RegionOpenPlain
namespace Go.Proofs.Ytojekhbebcdccaa
open Go.RowKit Go.Shelf
/-- Where Number's inner loop stands. -/
def SumAt (cur : Tr) (q m : Nat) (W : World) (n i : Value) (wr : World) : Prop := ∃ l : Nat, i = .int .i64 l ∧ l ≤ q ∧ n = .int .i64 ((m + 1 + sizeL (cur.kids.take l) : Nat) : Int) ∧ Below W.heap.size W wr
/-- Where Number stands. -/
def NumAt (t0 : Tr) (zs : List Int) (w : World) (n i : Value) (wr : World) : Prop :=
  ∃ (j m : Nat) (x : TV) (cur : Tr), n = .int .i64 m ∧ i = .int .i64 j ∧ j ≤ zs.length ∧ numG 0 t0 zs = numG m cur (zs.drop j) ∧ wr.heap[w.heap.size]? = some (trO x) ∧ TrAt (fun k => k < w.heap.size) wr cur x ∧ Below w.heap.size w wr ∧ m + sizeT cur ≤ 140737488355328
theorem size_kid_take {t k : Tr} {j : Nat} (h : t.kids[j]? = some k) : 1 + sizeL (t.kids.take j) + sizeT k ≤ sizeT t := by
  have h1 := sizeL_take h
  have h2 := sizeL_take_le t.kids (j + 1)
  rw [sizeT_eq t]
  omega
set_option maxRecDepth 100000 in
set_option maxHeartbeats 2000000 in
theorem number_any (S : Nat → Prop) (t : Tr) (v : TV) (A : Option Addr) (c : Nat) (zs : List Int) (w : World) (h : TrAt S w t v) (hA : IntsAt w A zs) (hz : zs.length ≤ maxLen) (hs : sizeT t ≤ 140737488355328) :
    Calls Try.prog 21 #[.agg #[.int .i64 v.kind, .string v.text, .slice v.la v.ll v.lc, .slice v.ka v.kl v.kc], .slice A zs.length c] w fun e w' => e = .returned (.int .i64 (numG 0 t zs)) ∧ Below w.heap.size w w' := by
  have HB0 := Lib.hid ((Below.refl w.heap.size w).alloc (Nat.le_refl _) (trO v))
  have HT := Lib.hid (TrAt.low t v (h.keep HB0.out))
  have HTL := Lib.hid (show TrAt (fun k => k < w.heap.size) (w.alloc (trO v)) t v from (TrAt.low t v h).keep HB0.out)
  have HX := Lib.hid (heap_alloc_new w (trO v))
  have HA := Lib.hid hA
  have HS := Lib.hid hs
  have hmax : zs.length ≤ 9223372036854775807 := by unfold maxLen at hz; omega
  clear h hA hz hs
  go_enter Try.func21, Try.ntmps21
  go_wp2
  go_loopw [5, 12] (fun n i wr => NumAt t zs w n i wr) (fun _ i _ => zs.length - (intOf i).toNat)
  case atStart => exact ⟨0, 0, v, t, rfl, rfl, Nat.zero_le _, rfl, HX.out, HTL.out, HB0.out, by have := HS.out; omega⟩
  case round =>
    obtain ⟨j, m, x, cur, rfl, rfl, hj, hf, hx, hty, hb, hms⟩ := hrel
    have HF := Lib.hid hf
    have HTY := Lib.hid hty
    have HXX := Lib.hid hx
    have HBR := Lib.hid hb
    have HMS := Lib.hid hms
    have hkl := hty.kl.1
    obtain ⟨vk, vx, vla, vll, vlc, vka, vkl, vkc⟩ := x
    simp only at hkl
    subst hkl
    clear hf hty hx hb hms
    have k0 := cells_of HXX.out 0 _ rfl
    have k1 := cells_of HXX.out 1 _ rfl
    have k2 := cells_of HXX.out 2 _ rfl
    have k3 := cells_of HXX.out 3 _ rfl
    have hbl := lt_of_heap HXX.out
    by_cases hlt : j < zs.length
    · obtain ⟨z, hz⟩ : ∃ z, zs[j]? = some z := ⟨_, List.getElem?_eq_getElem hlt⟩
      obtain ⟨ab, ao, rfl, _, hac⟩ := (HA.out.keep HBR.out).at hlt
      have a0 := hac j z hz
      have HD := Lib.hid (drop_cons hz)
      clear hac hz
      cases hkb : kidB cur z
      · have HR := Lib.hid (show numG 0 t zs = -1 from by rw [HF.out, HD.out, numG, hkb]; rfl)
        go_wp2_with (go_at_call 37; refine (haskid_any _ cur _ z _ HTY.out).mono ?_; rw [hkb]; rintro e w2 ⟨rfl, hb2⟩; have HB2 := Lib.hid (HBR.out.trans (hb2.mono HBR.out.size)); clear hb2)
        go_ret
        exact ⟨by rw [HR.out]; rfl, HB2.out⟩
      · obtain ⟨z0, z1, z2⟩ := kidB_get hkb
        have HR := Lib.hid (show numG 0 t zs = numG (m + 1 + sizeL (cur.kids.take z.toNat)) (kidAt cur z) (zs.drop (j + 1)) from by rw [HF.out, HD.out, numG, hkb]; rfl)
        obtain ⟨q, rfl⟩ : ∃ q : Nat, z = (q : Int) := ⟨z.toNat, by omega⟩
        rw [Int.toNat_natCast] at z2 HR
        have hq : q < cur.kids.length := by omega
        obtain ⟨kb, ko, hka⟩ : ∃ b off, vka = some ⟨b, off, none⟩ := HTY.out.addr.resolve_left (by omega)
        subst hka
        have hcap := HTY.out.caps.2
        simp only at hcap
        have hsk := size_kid_take z2
        have hms := HMS.out
        have hqc : (q : Int) ≤ (vkc : Int) := by omega
        have hm1 : (m : Int) + 1 ≤ 140737488355328 := by omega
        have HSK := Lib.hid hsk
        clear hsk hms
        go_wp2_with (go_at_call 37; refine (haskid_any _ cur _ q _ HTY.out).mono ?_; rw [hkb]; rintro e w2 ⟨rfl, hb2⟩; have HB2 := Lib.hid (HBR.out.trans (hb2.mono HBR.out.size)); have HX2 := Lib.hid ((hb2.block w.heap.size hbl).trans HXX.out); have HT2 := Lib.hid (HTY.out.keep hb2); clear hb2 k0 k1 k2 k3 hbl a0; have k3 := cells_of HX2.out 3 _ rfl)
        go_loopw [5, 27] (fun n i wr => SumAt cur q m w2 n i wr) (fun _ i _ => q - (intOf i).toNat)
        case atStart => exact ⟨0, rfl, Nat.zero_le _, by go_num, Below.refl _ _⟩
        case round =>
          obtain ⟨l, rfl, hl, rfl, hb3⟩ := hrel
          have HB3 := Lib.hid hb3
          have HX3 := Lib.hid ((hb3.block w.heap.size (lt_of_heap HX2.out)).trans HX2.out)
          have HT3 := Lib.hid (HT2.out.keep hb3)
          clear hb3 k3
          by_cases hlq : l < q
          · obtain ⟨k, hk⟩ : ∃ k, cur.kids[l]? = some k := ⟨_, List.getElem?_eq_getElem (by omega)⟩
            obtain ⟨u, c0, c1, c2, c3, hu⟩ := HT3.out.at rfl hk
            have HU := Lib.hid hu
            have HS1 := Lib.hid (sizeL_take hk)
            have hs0 := sizeL_take hk
            have hle : sizeL (cur.kids.take (l + 1)) ≤ sizeL (cur.kids.take q) := by
              have : cur.kids.take (l + 1) = (cur.kids.take q).take (l + 1) := by rw [List.take_take, Nat.min_eq_left (by omega)]
              rw [this]
              exact sizeL_take_le _ _
            have hsk := HSK.out
            have hms := HMS.out
            have HSZ := Lib.hid (show sizeT k ≤ 140737488355328 by omega)
            have q1 : ((m : Nat) : Int) + 1 + ((sizeL (cur.kids.take l) : Nat) : Int) + (sizeT k : Nat) ≤ 140737488355328 := by omega
            have hj0 : (0 : Int) ≤ (l : Int) := by omega
            have hj1 : (l : Int) < (q : Int) := by omega
            have HA1 := Lib.hid ((Below.refl wr.heap.size wr).alloc (Nat.le_refl _) (trO u))
            have hlm : (l : Int) + 1 ≤ 140737488355328 := by have h1 := kids_le_size cur.kids; have h2 := sizeT_eq cur; omega
            clear hk hu hs0 hle hsk hms
            go_wp2_with (go_at_call 11; refine (size_any (SizeOf.sizeOf k) _ k u _ (Nat.le_refl _) (HU.out.keep HA1.out) HSZ.out).mono ?_; rintro e w4 ⟨rfl, hb4⟩; have HB4 := Lib.hid (HB3.out.trans ((HA1.out.trans (hb4.mono HA1.out.size)).mono HB3.out.size)); clear hb4)
            go_roundw
            case measure => simp [intOf]; omega
            case rel => exact ⟨l + 1, by go_num, by omega, by rw [HS1.out]; go_num, HB4.out⟩
          · have hlq' : l = q := by omega
            subst hlq'
            obtain ⟨u, c0, c1, c2, c3, hu⟩ := HT3.out.at rfl z2
            have HU := Lib.hid hu
            have k0 := cells_of HX3.out 0 _ rfl
            have k1 := cells_of HX3.out 1 _ rfl
            have k2 := cells_of HX3.out 2 _ rfl
            have k3 := cells_of HX3.out 3 _ rfl
            have rf := Lib.frozen_of_heap HX3.out
            have hbl := lt_of_heap HX3.out
            have kbl : kb < wr.heap.size := World.block_lt_of_cell? wr _ c3
            have hl0 : (0 : Int) ≤ (l : Int) := by omega
            have hl1 : (l : Int) < (cur.kids.length : Int) := by omega
            have HK := Lib.hid z2
            clear hu z2 hkb hl hlq hq hqc z0 z1 hm1
            go_wp2
            go_roundw
            case measure => simp [intOf]; omega
            case rel =>
              have hbw : Below w.heap.size w wr := HB2.out.trans (HB3.out.mono HB2.out.size)
              have hms := HMS.out
              have hsk := HSK.out
              exact ⟨j + 1, m + 1 + sizeL (cur.kids.take l), u, kidAt cur l, by go_num, by go_num, by omega, HR.out, setT_heap u HX3.out, TrAt.move (fun _ h => h) (fun k hk _ => (setT_below wr w.heap.size u).block k hk) _ _ HU.out, hbw.trans (setT_below wr w.heap.size u), by omega⟩
    · have HR := Lib.hid (show numG 0 t zs = m from by rw [HF.out, List.drop_eq_nil_of_le (by omega)]; rfl)
      go_wp2
      go_ret
      exact ⟨by rw [HR.out]; rfl, HBR.out⟩
set_option maxRecDepth 100000 in
set_option maxHeartbeats 2000000 in
theorem rnumber_any (S : Nat → Prop) (t : Tr) (v : TV) (A : Option Addr) (c : Nat) (zs : List Int) (w : World) (h : TrAt S w t v) (hA : IntsAt w A zs) (hz : zs.length ≤ maxLen) (hs : sizeT t ≤ 140737488355328) :
    Calls Try.prog 22 #[.agg #[.int .i64 v.kind, .string v.text, .slice v.la v.ll v.lc, .slice v.ka v.kl v.kc], .slice A zs.length c] w fun e w' => e = .returned (.int .i64 (numG 0 t zs)) ∧ Below w.heap.size w w' := by
  have HB0 := Lib.hid ((Below.refl w.heap.size w).alloc (Nat.le_refl _) (trO v))
  have HT := Lib.hid (TrAt.low t v (h.keep HB0.out))
  have HTL := Lib.hid (show TrAt (fun k => k < w.heap.size) (w.alloc (trO v)) t v from (TrAt.low t v h).keep HB0.out)
  have HX := Lib.hid (heap_alloc_new w (trO v))
  have HA := Lib.hid hA
  have HS := Lib.hid hs
  have hmax : zs.length ≤ 9223372036854775807 := by unfold maxLen at hz; omega
  clear h hA hz hs
  go_enter Try.func22, Try.ntmps22
  go_wp2
  go_loopw [5, 6] (fun n i wr => NumAt t zs w n i wr) (fun _ i _ => zs.length - (intOf i).toNat)
  case atStart => exact ⟨0, 0, v, t, rfl, rfl, Nat.zero_le _, rfl, HX.out, HTL.out, HB0.out, by have := HS.out; omega⟩
  case round =>
    obtain ⟨j, m, x, cur, rfl, rfl, hj, hf, hx, hty, hb, hms⟩ := hrel
    have HF := Lib.hid hf
    have HTY := Lib.hid hty
    have HXX := Lib.hid hx
    have HBR := Lib.hid hb
    have HMS := Lib.hid hms
    have hkl := hty.kl.1
    obtain ⟨vk, vx, vla, vll, vlc, vka, vkl, vkc⟩ := x
    simp only at hkl
    subst hkl
    clear hf hty hx hb hms
    have k0 := cells_of HXX.out 0 _ rfl
    have k1 := cells_of HXX.out 1 _ rfl
    have k2 := cells_of HXX.out 2 _ rfl
    have k3 := cells_of HXX.out 3 _ rfl
    have hbl := lt_of_heap HXX.out
    by_cases hlt : j < zs.length
    · obtain ⟨z, hz⟩ : ∃ z, zs[j]? = some z := ⟨_, List.getElem?_eq_getElem hlt⟩
      obtain ⟨ab, ao, rfl, _, hac⟩ := (HA.out.keep HBR.out).at hlt
      have a0 := hac j z hz
      have HD := Lib.hid (drop_cons hz)
      have HZJ := Lib.hid hz
      clear hac hz
      have mixed : Try.prog.follows Departure.mixedOrders = true := by kernel_rfl
      by_cases h0 : z < 0
      · have d0 := decide_eq_true h0
        have hkb : kidB cur z = false := by unfold kidB; rw [decide_eq_false (by omega)]; rfl
        have HR := Lib.hid (show numG 0 t zs = -1 from by rw [HF.out, HD.out, numG, hkb]; rfl)
        clear hkb
        go_wp2_with fail
        go_region_o
        go_wp2
        go_ret
        exact ⟨by rw [HR.out]; rfl, HBR.out.drew⟩
      · have d0 := decide_eq_false h0
        by_cases h1 : z < (cur.kids.length : Int)
        · have d1 : decide ((cur.kids.length : Int) ≤ z) = false := decide_eq_false (by omega)
          have hkb : kidB cur z = true := by unfold kidB; rw [decide_eq_true (by omega), decide_eq_true h1]; rfl
          obtain ⟨z0, _, z2⟩ := kidB_get hkb
          have HR := Lib.hid (show numG 0 t zs = numG (m + 1 + sizeL (cur.kids.take z.toNat)) (kidAt cur z) (zs.drop (j + 1)) from by rw [HF.out, HD.out, numG, hkb]; rfl)
          obtain ⟨q, rfl⟩ : ∃ q : Nat, z = (q : Int) := ⟨z.toNat, by omega⟩
          rw [Int.toNat_natCast] at z2 HR
          have hq : q < cur.kids.length := by omega
          obtain ⟨kb, ko, hka⟩ : ∃ b off, vka = some ⟨b, off, none⟩ := HTY.out.addr.resolve_left (by omega)
          subst hka
          have hsk := size_kid_take z2
          have hms := HMS.out
          have hm1 : (m : Int) + 1 ≤ 140737488355328 := by omega
          have HSK := Lib.hid hsk
          have HZ2 := Lib.hid z2
          have dn1 : decide (cur.kids.length ≤ q) = false := decide_eq_false (by omega)
          clear hsk hms hkb z2 d1 h0 h1 z0
          have hqi : (q : Int) < (cur.kids.length : Int) := by omega
          go_wp2_with fail
          go_region_o
          all_goals
            go_simp
            go_wp2
            clear a0 k0 k1 k2 k3 hbl dn1
            have HB2 := Lib.hid HBR.out.drew
            have HX2 := Lib.hid (show wr.drew.heap[w.heap.size]? = some (trO ⟨vk, vx, vla, vll, vlc, some ⟨kb, ko, none⟩, cur.kids.length, vkc⟩) from HXX.out)
            have HT2 := Lib.hid (HTY.out.keep (Below.refl _ _).drew)
            have HA2 := Lib.hid (HA.out.keep HB2.out)
            go_loopw [5, 7] (fun n i wr' => SumAt cur q m wr.drew n i wr') (fun _ i _ => q - (intOf i).toNat)
            case atStart => exact ⟨0, rfl, Nat.zero_le _, by go_num, Below.refl _ _⟩
            case round =>
              obtain ⟨l, rfl, hl, rfl, hb3⟩ := hrel
              have HB3 := Lib.hid hb3
              have HX3 := Lib.hid ((hb3.block w.heap.size (lt_of_heap HX2.out)).trans HX2.out)
              have HT3 := Lib.hid (HT2.out.keep hb3)
              have a0 : wr.cell? ⟨ab, ao + j, none⟩ = some (.int .i64 q) := by
                obtain ⟨b', o', hA', _, hac'⟩ := (HA2.out.keep hb3).at hlt
                injection hA' with e
                injection e with e1 e2 _
                subst e1 e2
                exact hac' j _ HZJ.out
              have k3 := cells_of HX3.out 3 _ rfl
              have hbl := lt_of_heap HX3.out
              clear hb3
              by_cases hlq : l < q
              · obtain ⟨k, hk⟩ : ∃ k, cur.kids[l]? = some k := ⟨_, List.getElem?_eq_getElem (by omega)⟩
                obtain ⟨u, c0, c1, c2, c3, hu⟩ := HT3.out.at rfl hk
                have HU := Lib.hid hu
                have HS1 := Lib.hid (sizeL_take hk)
                have hs0 := sizeL_take hk
                have hle : sizeL (cur.kids.take (l + 1)) ≤ sizeL (cur.kids.take q) := by
                  have : cur.kids.take (l + 1) = (cur.kids.take q).take (l + 1) := by rw [List.take_take, Nat.min_eq_left (by omega)]
                  rw [this]
                  exact sizeL_take_le _ _
                have hsk := HSK.out
                have hms := HMS.out
                have HSZ := Lib.hid (show sizeT k ≤ 140737488355328 by omega)
                have q1 : ((m : Nat) : Int) + 1 + ((sizeL (cur.kids.take l) : Nat) : Int) + (sizeT k : Nat) ≤ 140737488355328 := by omega
                have hj0 : (0 : Int) ≤ (l : Int) := by omega
                have hj1 : (l : Int) < (cur.kids.length : Int) := by omega
                have hlm : (l : Int) + 1 ≤ 140737488355328 := by have h1 := kids_le_size cur.kids; have h2 := sizeT_eq cur; omega
                clear hk hu hs0 hle hsk hms
                go_wp2_with (go_at_call 12; refine (rsize_any (SizeOf.sizeOf k) _ k u _ (Nat.le_refl _) HU.out HSZ.out).mono ?_; rintro e w4 ⟨rfl, hb4⟩; have HB4 := Lib.hid (HB3.out.trans (hb4.mono HB3.out.size)); clear hb4)
                go_roundw
                case measure => simp [intOf]; omega
                case rel => exact ⟨l + 1, by go_num, by omega, by rw [HS1.out]; go_num, HB4.out⟩
              · have hlq' : l = q := by omega
                subst hlq'
                obtain ⟨u, c0, c1, c2, c3, hu⟩ := HT3.out.at rfl HZ2.out
                have HU := Lib.hid hu
                have k0 := cells_of HX3.out 0 _ rfl
                have k1 := cells_of HX3.out 1 _ rfl
                have k2 := cells_of HX3.out 2 _ rfl
                have rf := Lib.frozen_of_heap HX3.out
                have kbl : kb < wr.heap.size := World.block_lt_of_cell? wr _ c3
                have hl0 : (0 : Int) ≤ (l : Int) := by omega
                have hl1 : (l : Int) < (cur.kids.length : Int) := by omega
                clear hu hl hlq hq hm1
                go_wp2_with fail
                first | go_region_o | go_region
                all_goals
                  go_simp
                  go_wp2
                  go_roundw
                  case measure => simp [intOf]; omega
                  case rel =>
                    have hbw : Below w.heap.size w wr := HB2.out.trans (HB3.out.mono HB2.out.size)
                    have hms := HMS.out
                    have hsk := HSK.out
                    exact ⟨j + 1, m + 1 + sizeL (cur.kids.take l), u, kidAt cur l, by go_num, by go_num, by omega, HR.out, setT_heap (w := wr.drew) u HX3.out, TrAt.move (fun _ h => h) (fun k hk _ => (setT_below wr.drew w.heap.size u).block k hk) _ _ (HU.out.keep (Below.refl _ _).drew), hbw.drew.trans (setT_below wr.drew w.heap.size u), by omega⟩
        · have d1 : decide ((cur.kids.length : Int) ≤ z) = true := decide_eq_true (by omega)
          have hkb : kidB cur z = false := by unfold kidB; rw [decide_eq_false h1, Bool.and_false]
          have HR := Lib.hid (show numG 0 t zs = -1 from by rw [HF.out, HD.out, numG, hkb]; rfl)
          clear hkb
          go_wp2_with fail
          go_region_o
          go_wp2
          go_ret
          exact ⟨by rw [HR.out]; rfl, HBR.out.drew⟩
    · have HR := Lib.hid (show numG 0 t zs = m from by rw [HF.out, List.drop_eq_nil_of_le (by omega)]; rfl)
      go_wp2
      go_ret
      exact ⟨by rw [HR.out]; rfl, HBR.out⟩
end Go.Proofs.Ytojekhbebcdccaa
