/- The contracts of the reference's Size, Depth, IsType .. kid, and plain: its Shaped, limits, tokens are the code's. Conditions: at most 1000 kids, texts that a machine can hold. -/
import Derived.Test.YtpdmklbfbpdneaaGreatTreSize
import Derived.Test.YtpdmklbfbpdneaaGreatLexRClass
import Derived.Test.YtpdmklbfbpdneaaGreatSynRLeads
namespace Go.Proofs.YtpdmklbfbpdneaaGreat
open Go.RowKit
set_option maxRecDepth 100000 in
set_option maxHeartbeats 1000000 in
theorem rsize2_any (N : Nat) : ∀ (S : Nat → Prop) (t : Tr) (v : TV) (w : World), SizeOf.sizeOf t ≤ N → TrAt S w t v → sizeT t ≤ 140737488355328 →
    Calls Tryz.prog 30 #[.agg #[.int .i64 v.kind, .string v.text, .slice v.la v.ll v.lc, .slice v.ka v.kl v.kc]] w fun e w' => e = .returned (.int .i64 (sizeT t : Nat)) ∧ Below w.heap.size w w' := by
  induction N with
  | zero => intro S t v w h; have := tr_pos t; omega
  | succ N ih =>
    intro S t v w hN h hz
    have HIH := Lib.hid ih
    have HB0 := Lib.hid ((Below.refl w.heap.size w).alloc (Nat.le_refl _) (trO v))
    have HT := Lib.hid (h.keep HB0.out)
    have HX := Lib.hid (heap_alloc_new w (trO v))
    have HZ := Lib.hid hz
    have HN := Lib.hid hN
    have hkl := h.kl.1
    obtain ⟨vk, vx, vla, vll, vlc, vka, vkl, vkc⟩ := v
    simp only at hkl
    subst hkl
    have hmax : t.kids.length ≤ 140737488355328 := by have := kids_le_size t.kids; rw [sizeT_eq] at hz; omega
    have HMX := Lib.hid hmax
    clear ih h hz hN
    have k3 : (w.alloc (trO ⟨vk, vx, vla, vll, vlc, vka, t.kids.length, vkc⟩)).cell? ⟨w.heap.size, 3, none⟩ = some (.slice vka t.kids.length vkc) := cells_of HX.out 3 _ rfl
    go_enter Tryz.func30, Tryz.ntmps30
    go_wp2
    clear k3
    go_loopw [3, 4] (fun n i wr => KidsAtN (fun l => 1 + sizeL l) t (w.alloc (trO ⟨vk, vx, vla, vll, vlc, vka, t.kids.length, vkc⟩)) n i wr) (fun _ i _ => t.kids.length - (intOf i).toNat)
    case atStart => exact ⟨0, rfl, Nat.zero_le _, rfl, Below.refl _ _⟩
    case round =>
      obtain ⟨j, rfl, hj, rfl, hb⟩ := hrel
      have HBR := Lib.hid hb
      have hx := (hb.block w.heap.size (lt_of_heap HX.out)).trans HX.out
      have k3 : wr.cell? ⟨w.heap.size, 3, none⟩ = some (.slice vka t.kids.length vkc) := cells_of hx 3 _ rfl
      clear hb hx
      by_cases hlt : j < t.kids.length
      · obtain ⟨k, hk⟩ : ∃ k, t.kids[j]? = some k := ⟨_, List.getElem?_eq_getElem hlt⟩
        obtain ⟨b, off, hka⟩ : ∃ b off, vka = some ⟨b, off, none⟩ := HT.out.addr.resolve_left (by omega)
        subst hka
        obtain ⟨u, c0, c1, c2, c3, hu⟩ := (HT.out.keep HBR.out).at rfl hk
        have HU := Lib.hid hu
        have HS1 := Lib.hid (sizeL_take hk)
        have HD1 := Lib.hid (depthL_take hk)
        have hs := sizeL_take_le t.kids (j + 1)
        have hs0 := sizeL_take hk
        have hds := depthL_le_size (t.kids.take j)
        have hdk := depth_le_size k
        have HSK := Lib.hid (Nat.le_trans (size_kid hk) HZ.out)
        have HNK := Lib.hid (show SizeOf.sizeOf k ≤ N from by have := kid_sizeOf hk; have := HN.out; omega)
        have hz := HZ.out
        rw [sizeT_eq] at hz
        have q1 : ((sizeL (t.kids.take j) : Nat) : Int) + (sizeT k : Nat) + 1 ≤ 140737488355328 := by omega
        have q2 : ((depthL (t.kids.take j) : Nat) : Int) ≤ 140737488355328 := by omega
        have q3 : ((depthT k : Nat) : Int) + 1 ≤ 140737488355329 := by omega
        have hj0 : (0 : Int) ≤ (j : Int) := by omega
        have hj1 : (j : Int) < (t.kids.length : Int) := by omega
        have hj2 : (j : Int) + 1 ≤ 140737488355328 := by omega
        clear hk hu hs hs0 hds hdk hz
        go_wp2_with (go_at_call 30; refine (HIH.out S k u _ HNK.out (HU.out.keep (Below.refl _ _)) HSK.out).mono ?_; rintro e w2 ⟨rfl, hb2⟩; have HB2 := Lib.hid (HBR.out.trans (hb2.mono HBR.out.size)); clear hb2)
        go_roundw
        case rel => exact ⟨j + 1, by go_num, by omega, by show _ = Value.int .i64 ((1 + sizeL (t.kids.take (j + 1)) : Nat) : Int); rw [HS1.out]; go_num, HB2.out⟩
        case measure => simp [intOf]; omega
      · have hjn : j = t.kids.length := by omega
        subst hjn
        have HR := Lib.hid (show sizeT t = 1 + sizeL (t.kids.take t.kids.length) from by rw [sizeT_eq, List.take_length])
        have hz := HZ.out
        have h1 := depth_le_size t
        have h2 := HR.out
        go_wp2
        go_ret
        exact ⟨ret_int (by rw [HR.out]), HB0.out.trans (HBR.out.mono (by simp))⟩
set_option maxRecDepth 100000 in
set_option maxHeartbeats 1000000 in
theorem rdepth2_any (N : Nat) : ∀ (S : Nat → Prop) (t : Tr) (v : TV) (w : World), SizeOf.sizeOf t ≤ N → TrAt S w t v → sizeT t ≤ 140737488355328 →
    Calls Tryz.prog 71 #[.agg #[.int .i64 v.kind, .string v.text, .slice v.la v.ll v.lc, .slice v.ka v.kl v.kc]] w fun e w' => e = .returned (.int .i64 (depthT t : Nat)) ∧ Below w.heap.size w w' := by
  induction N with
  | zero => intro S t v w h; have := tr_pos t; omega
  | succ N ih =>
    intro S t v w hN h hz
    have HIH := Lib.hid ih
    have HB0 := Lib.hid ((Below.refl w.heap.size w).alloc (Nat.le_refl _) (trO v))
    have HT := Lib.hid (h.keep HB0.out)
    have HX := Lib.hid (heap_alloc_new w (trO v))
    have HZ := Lib.hid hz
    have HN := Lib.hid hN
    have hkl := h.kl.1
    obtain ⟨vk, vx, vla, vll, vlc, vka, vkl, vkc⟩ := v
    simp only at hkl
    subst hkl
    have hmax : t.kids.length ≤ 140737488355328 := by have := kids_le_size t.kids; rw [sizeT_eq] at hz; omega
    have HMX := Lib.hid hmax
    clear ih h hz hN
    have k3 : (w.alloc (trO ⟨vk, vx, vla, vll, vlc, vka, t.kids.length, vkc⟩)).cell? ⟨w.heap.size, 3, none⟩ = some (.slice vka t.kids.length vkc) := cells_of HX.out 3 _ rfl
    go_enter Tryz.func71, Tryz.ntmps71
    go_wp2
    clear k3
    go_loopw [3, 4] (fun n i wr => KidsAtN (fun l => depthL l) t (w.alloc (trO ⟨vk, vx, vla, vll, vlc, vka, t.kids.length, vkc⟩)) n i wr) (fun _ i _ => t.kids.length - (intOf i).toNat)
    case atStart => exact ⟨0, rfl, Nat.zero_le _, rfl, Below.refl _ _⟩
    case round =>
      obtain ⟨j, rfl, hj, rfl, hb⟩ := hrel
      have HBR := Lib.hid hb
      have hx := (hb.block w.heap.size (lt_of_heap HX.out)).trans HX.out
      have k3 : wr.cell? ⟨w.heap.size, 3, none⟩ = some (.slice vka t.kids.length vkc) := cells_of hx 3 _ rfl
      clear hb hx
      by_cases hlt : j < t.kids.length
      · obtain ⟨k, hk⟩ : ∃ k, t.kids[j]? = some k := ⟨_, List.getElem?_eq_getElem hlt⟩
        obtain ⟨b, off, hka⟩ : ∃ b off, vka = some ⟨b, off, none⟩ := HT.out.addr.resolve_left (by omega)
        subst hka
        obtain ⟨u, c0, c1, c2, c3, hu⟩ := (HT.out.keep HBR.out).at rfl hk
        have HU := Lib.hid hu
        have HS1 := Lib.hid (sizeL_take hk)
        have HD1 := Lib.hid (depthL_take hk)
        have hs := sizeL_take_le t.kids (j + 1)
        have hs0 := sizeL_take hk
        have hds := depthL_le_size (t.kids.take j)
        have hdk := depth_le_size k
        have HSK := Lib.hid (Nat.le_trans (size_kid hk) HZ.out)
        have HNK := Lib.hid (show SizeOf.sizeOf k ≤ N from by have := kid_sizeOf hk; have := HN.out; omega)
        have hz := HZ.out
        rw [sizeT_eq] at hz
        have q1 : ((sizeL (t.kids.take j) : Nat) : Int) + (sizeT k : Nat) + 1 ≤ 140737488355328 := by omega
        have q2 : ((depthL (t.kids.take j) : Nat) : Int) ≤ 140737488355328 := by omega
        have q3 : ((depthT k : Nat) : Int) + 1 ≤ 140737488355329 := by omega
        have hj0 : (0 : Int) ≤ (j : Int) := by omega
        have hj1 : (j : Int) < (t.kids.length : Int) := by omega
        have hj2 : (j : Int) + 1 ≤ 140737488355328 := by omega
        clear hk hu hs hs0 hds hdk hz
        go_wp2_with (go_at_call 71; refine (HIH.out S k u _ HNK.out (HU.out.keep (Below.refl _ _)) HSK.out).mono ?_; rintro e w2 ⟨rfl, hb2⟩; have HB2 := Lib.hid (HBR.out.trans (hb2.mono HBR.out.size)); clear hb2)
        go_roundw
        case rel => exact ⟨j + 1, by go_num, by omega, by show _ = Value.int .i64 ((depthL (t.kids.take (j + 1)) : Nat) : Int); rw [HD1.out]; go_num, HB2.out⟩
        case measure => simp [intOf]; omega
      · have hjn : j = t.kids.length := by omega
        subst hjn
        have HR := Lib.hid (show depthT t = depthL (t.kids.take t.kids.length) + 1 from by rw [depthT_eq, List.take_length])
        have hz := HZ.out
        have h1 := depth_le_size t
        have h2 := HR.out
        go_wp2
        go_ret
        exact ⟨ret_int (by have h3 := depthT_eq t; unfold wrap64; omega), HB0.out.trans (HBR.out.mono (by simp))⟩
end Go.Proofs.YtpdmklbfbpdneaaGreat
namespace Go.Proofs.YtpdmklbfbpdneaaGreat
open Go.RowKit
def exprB (k : Int) : Bool := decide (10 ≤ k) && decide (k ≤ 22) && (k != 17)
def unitB (k : Int) : Bool := exprB k && (k != 19) && (k != 20) && (k != 21)
theorem exprB_has (k : Int) : exprB k = hasB 5 k := by
  unfold exprB hasB
  by_cases h17 : k = 17
  · subst h17; rfl
  · by_cases h19 : k = 19
    · subst h19; rfl
    · by_cases h20 : k = 20
      · subst h20; rfl
      · by_cases h21 : k = 21
        · subst h21; rfl
        · simp [h17, h19, h20, h21]
theorem unitB_has (k : Int) : unitB k = hasB 7 k := by
  unfold unitB exprB hasB
  by_cases h17 : k = 17
  · subst h17; rfl
  · by_cases h19 : k = 19
    · subst h19; rfl
    · by_cases h20 : k = 20
      · subst h20; rfl
      · by_cases h21 : k = 21
        · subst h21; rfl
        · have b17 : (k != 17) = true := bne_iff_ne.2 h17
          have b19 : (k != 19) = true := bne_iff_ne.2 h19
          have b20 : (k != 20) = true := bne_iff_ne.2 h20
          have b21 : (k != 21) = true := bne_iff_ne.2 h21
          have c21 : (k == 21) = false := beqF h21
          rw [if_neg (by decide), if_neg (by decide), if_neg (by decide), if_neg (by decide), if_neg h17, if_neg (fun h => by omega), if_neg h21]
          simp only [b17, b19, b20, b21, Bool.and_true]
theorem firstB_has (k : Int) : (unitB k || k == 21) = hasB 6 k := by
  unfold unitB exprB hasB
  by_cases h17 : k = 17
  · subst h17; rfl
  · by_cases h19 : k = 19
    · subst h19; rfl
    · by_cases h20 : k = 20
      · subst h20; rfl
      · by_cases h21 : k = 21
        · subst h21; rfl
        · have b17 : (k != 17) = true := bne_iff_ne.2 h17
          have b19 : (k != 19) = true := bne_iff_ne.2 h19
          have b20 : (k != 20) = true := bne_iff_ne.2 h20
          have b21 : (k != 21) = true := bne_iff_ne.2 h21
          have c21 : (k == 21) = false := beqF h21
          rw [if_neg (by decide), if_neg (by decide), if_neg (by decide), if_neg (by decide), if_neg h17, if_neg (fun h => by omega), if_neg h21]
          simp only [b17, b19, b20, b21, Bool.and_true, c21, Bool.or_false]
theorem ristype_any (k : Int) (w : World) : Calls Tryz.prog 105 #[.int .i64 k] w fun e w' => e = .returned (.bool (hasB 3 k)) ∧ w = w' := by
  go_enter Tryz.func105, Tryz.ntmps105
  go_wp2
  all_goals
    go_ret
    exact ⟨ret_bool (by simp_all [hasB]; try omega), rfl⟩
theorem risexpr_any (k : Int) (w : World) : Calls Tryz.prog 104 #[.int .i64 k] w fun e w' => e = .returned (.bool (exprB k)) ∧ w = w' := by
  go_enter Tryz.func104, Tryz.ntmps104
  go_wp2
  all_goals
    go_ret
    exact ⟨ret_bool (by simp_all [exprB]; try omega), rfl⟩
theorem risunit_any (k : Int) (w : World) : Calls Tryz.prog 106 #[.int .i64 k] w fun e w' => e = .returned (.bool (unitB k)) ∧ w = w' := by
  have HR := Lib.hid (show unitB k = (exprB k && (k != 19) && (k != 20) && (k != 21)) from rfl)
  cases hx : exprB k
  · go_enter Tryz.func106, Tryz.ntmps106
    go_wp2_with (go_at_call 104; refine (risexpr_any _ _).mono ?_; rw [hx]; rintro e w' ⟨rfl, rfl⟩)
    go_ret
    exact ⟨ret_bool (by rw [HR.out, hx]; rfl), rfl⟩
  · go_enter Tryz.func106, Tryz.ntmps106
    go_wp2_with (go_at_call 104; refine (risexpr_any _ _).mono ?_; rw [hx]; rintro e w' ⟨rfl, rfl⟩)
    all_goals
      go_ret
      exact ⟨ret_bool (by rw [HR.out, hx]; simp_all), rfl⟩
theorem risop_0 (s : ByteArray) (w : World) (h0 : (s.toList == [43]) = true) : Calls Tryz.prog 103 #[.string s] w fun e w' => e = .returned (.bool (opB s)) ∧ w = w' := by
  have HR := Lib.hid (show opB s = true from by unfold opB; simp only [← is_list, h0]; rfl)
  go_enter Tryz.func103, Tryz.ntmps103
  go_wp2
  go_ret
  exact ⟨by rw [HR.out]; rfl, rfl⟩
theorem risop_1 (s : ByteArray) (w : World) (h0 : (s.toList == [43]) = false) (h1 : (s.toList == [45]) = true) : Calls Tryz.prog 103 #[.string s] w fun e w' => e = .returned (.bool (opB s)) ∧ w = w' := by
  have HR := Lib.hid (show opB s = true from by unfold opB; simp only [← is_list, h0, h1]; rfl)
  go_enter Tryz.func103, Tryz.ntmps103
  go_wp2
  go_ret
  exact ⟨by rw [HR.out]; rfl, rfl⟩
theorem risop_2 (s : ByteArray) (w : World) (h0 : (s.toList == [43]) = false) (h1 : (s.toList == [45]) = false) (h2 : (s.toList == [42]) = true) : Calls Tryz.prog 103 #[.string s] w fun e w' => e = .returned (.bool (opB s)) ∧ w = w' := by
  have HR := Lib.hid (show opB s = true from by unfold opB; simp only [← is_list, h0, h1, h2]; rfl)
  go_enter Tryz.func103, Tryz.ntmps103
  go_wp2
  go_ret
  exact ⟨by rw [HR.out]; rfl, rfl⟩
theorem risop_3 (s : ByteArray) (w : World) (h0 : (s.toList == [43]) = false) (h1 : (s.toList == [45]) = false) (h2 : (s.toList == [42]) = false) (h3 : (s.toList == [60]) = true) : Calls Tryz.prog 103 #[.string s] w fun e w' => e = .returned (.bool (opB s)) ∧ w = w' := by
  have HR := Lib.hid (show opB s = true from by unfold opB; simp only [← is_list, h0, h1, h2, h3]; rfl)
  go_enter Tryz.func103, Tryz.ntmps103
  go_wp2
  go_ret
  exact ⟨by rw [HR.out]; rfl, rfl⟩
theorem risop_4 (s : ByteArray) (w : World) (h0 : (s.toList == [43]) = false) (h1 : (s.toList == [45]) = false) (h2 : (s.toList == [42]) = false) (h3 : (s.toList == [60]) = false) (h4 : (s.toList == [61, 61]) = true) : Calls Tryz.prog 103 #[.string s] w fun e w' => e = .returned (.bool (opB s)) ∧ w = w' := by
  have HR := Lib.hid (show opB s = true from by unfold opB; simp only [← is_list, h0, h1, h2, h3, h4]; rfl)
  go_enter Tryz.func103, Tryz.ntmps103
  go_wp2
  go_ret
  exact ⟨by rw [HR.out]; rfl, rfl⟩
theorem risop_5 (s : ByteArray) (w : World) (h0 : (s.toList == [43]) = false) (h1 : (s.toList == [45]) = false) (h2 : (s.toList == [42]) = false) (h3 : (s.toList == [60]) = false) (h4 : (s.toList == [61, 61]) = false) : Calls Tryz.prog 103 #[.string s] w fun e w' => e = .returned (.bool (opB s)) ∧ w = w' := by
  have HR := Lib.hid (show opB s = false from by unfold opB; simp only [← is_list, h0, h1, h2, h3, h4]; rfl)
  go_enter Tryz.func103, Tryz.ntmps103
  go_wp2
  go_ret
  exact ⟨by rw [HR.out]; rfl, rfl⟩
theorem risop_any (s : ByteArray) (w : World) : Calls Tryz.prog 103 #[.string s] w fun e w' => e = .returned (.bool (opB s)) ∧ w = w' := by
  cases h0 : (s.toList == [43])
  case true => exact risop_0 s w h0
  cases h1 : (s.toList == [45])
  case true => exact risop_1 s w h0 h1
  cases h2 : (s.toList == [42])
  case true => exact risop_2 s w h0 h1 h2
  cases h3 : (s.toList == [60])
  case true => exact risop_3 s w h0 h1 h2 h3
  cases h4 : (s.toList == [61, 61])
  case true => exact risop_4 s w h0 h1 h2 h3 h4
  exact risop_5 s w h0 h1 h2 h3 h4
set_option maxHeartbeats 400000 in
theorem rtextfits_1 (s : ByteArray) (w : World) (hs : s.size < maxLen) : Calls Tryz.prog 63 #[.int .i64 1, .string s] w fun e w' => e = .returned (.bool (namedP (partsP 1) s)) ∧ Below w.heap.size w w' := by
  have HS := Lib.hid hs
  have HR := Lib.hid (show namedP (partsP 1) s = nameB 1 (classN (suf s 0) : Nat) s from rfl)
  clear hs
  go_enter Tryz.func63, Tryz.ntmps63
  go_wp2_with (first | (go_at_call 102; refine (rclass_any s _ HS.out).mono ?_; rintro e w1 ⟨rfl, hb1⟩; have HB1 := Lib.hid hb1; clear hb1))
  all_goals
    go_ret
    exact ⟨ret_bool (by first | exact HR.out.symm | (rw [HR.out]; simp_all [nameB]; done) | (rw [HR.out]; simp [nameB]; omega)), HB1.out⟩
set_option maxHeartbeats 400000 in
theorem rtextfits_2 (s : ByteArray) (w : World) (hs : s.size < maxLen) : Calls Tryz.prog 63 #[.int .i64 2, .string s] w fun e w' => e = .returned (.bool (namedP (partsP 2) s)) ∧ Below w.heap.size w w' := by
  have HS := Lib.hid hs
  have HR := Lib.hid (show namedP (partsP 2) s = nameB 2 (classN (suf s 0) : Nat) s from rfl)
  clear hs
  go_enter Tryz.func63, Tryz.ntmps63
  go_wp2_with (first | (go_at_call 102; refine (rclass_any s _ HS.out).mono ?_; rintro e w1 ⟨rfl, hb1⟩; have HB1 := Lib.hid hb1; clear hb1))
  all_goals
    go_ret
    exact ⟨ret_bool (by first | exact HR.out.symm | (rw [HR.out]; simp_all [nameB]; done) | (rw [HR.out]; simp [nameB]; omega)), HB1.out⟩
set_option maxHeartbeats 400000 in
theorem rtextfits_3 (s : ByteArray) (w : World) (hs : s.size < maxLen) : Calls Tryz.prog 63 #[.int .i64 3, .string s] w fun e w' => e = .returned (.bool (namedP (partsP 3) s)) ∧ Below w.heap.size w w' := by
  have HS := Lib.hid hs
  have HR := Lib.hid (show namedP (partsP 3) s = nameB 1 (classN (suf s 0) : Nat) s from rfl)
  clear hs
  go_enter Tryz.func63, Tryz.ntmps63
  go_wp2_with (first | (go_at_call 102; refine (rclass_any s _ HS.out).mono ?_; rintro e w1 ⟨rfl, hb1⟩; have HB1 := Lib.hid hb1; clear hb1))
  all_goals
    go_ret
    exact ⟨ret_bool (by first | exact HR.out.symm | (rw [HR.out]; simp_all [nameB]; done) | (rw [HR.out]; simp [nameB]; omega)), HB1.out⟩
set_option maxHeartbeats 400000 in
theorem rtextfits_4 (s : ByteArray) (w : World) (hs : s.size < maxLen) : Calls Tryz.prog 63 #[.int .i64 4, .string s] w fun e w' => e = .returned (.bool (namedP (partsP 4) s)) ∧ Below w.heap.size w w' := by
  have HS := Lib.hid hs
  have HR := Lib.hid (show namedP (partsP 4) s = nameB 2 (classN (suf s 0) : Nat) s from rfl)
  clear hs
  go_enter Tryz.func63, Tryz.ntmps63
  go_wp2_with (first | (go_at_call 102; refine (rclass_any s _ HS.out).mono ?_; rintro e w1 ⟨rfl, hb1⟩; have HB1 := Lib.hid hb1; clear hb1))
  all_goals
    go_ret
    exact ⟨ret_bool (by first | exact HR.out.symm | (rw [HR.out]; simp_all [nameB]; done) | (rw [HR.out]; simp [nameB]; omega)), HB1.out⟩
set_option maxHeartbeats 400000 in
theorem rtextfits_9 (s : ByteArray) (w : World) (hs : s.size < maxLen) : Calls Tryz.prog 63 #[.int .i64 9, .string s] w fun e w' => e = .returned (.bool (namedP (partsP 9) s)) ∧ Below w.heap.size w w' := by
  have HS := Lib.hid hs
  have HR := Lib.hid (show namedP (partsP 9) s = nameB 3 (classN (suf s 0) : Nat) s from rfl)
  clear hs
  go_enter Tryz.func63, Tryz.ntmps63
  go_wp2_with (first | (go_at_call 102; refine (rclass_any s _ HS.out).mono ?_; rintro e w1 ⟨rfl, hb1⟩; have HB1 := Lib.hid hb1; clear hb1))
  all_goals
    go_ret
    exact ⟨ret_bool (by first | exact HR.out.symm | (rw [HR.out]; simp_all [nameB]; done) | (rw [HR.out]; simp [nameB]; omega)), HB1.out⟩
set_option maxHeartbeats 400000 in
theorem rtextfits_10 (s : ByteArray) (w : World) (hs : s.size < maxLen) : Calls Tryz.prog 63 #[.int .i64 10, .string s] w fun e w' => e = .returned (.bool (namedP (partsP 10) s)) ∧ Below w.heap.size w w' := by
  have HS := Lib.hid hs
  have HR := Lib.hid (show namedP (partsP 10) s = nameB 5 (classN (suf s 0) : Nat) s from rfl)
  clear hs
  go_enter Tryz.func63, Tryz.ntmps63
  go_wp2_with (first | (go_at_call 102; refine (rclass_any s _ HS.out).mono ?_; rintro e w1 ⟨rfl, hb1⟩; have HB1 := Lib.hid hb1; clear hb1))
  all_goals
    go_ret
    exact ⟨ret_bool (by first | exact HR.out.symm | (rw [HR.out]; simp_all [nameB]; done) | (rw [HR.out]; simp [nameB]; omega)), HB1.out⟩
set_option maxHeartbeats 400000 in
theorem rtextfits_11 (s : ByteArray) (w : World) (hs : s.size < maxLen) : Calls Tryz.prog 63 #[.int .i64 11, .string s] w fun e w' => e = .returned (.bool (namedP (partsP 11) s)) ∧ Below w.heap.size w w' := by
  have HS := Lib.hid hs
  have HR := Lib.hid (show namedP (partsP 11) s = nameB 6 (classN (suf s 0) : Nat) s from rfl)
  clear hs
  go_enter Tryz.func63, Tryz.ntmps63
  go_wp2_with (first | (go_at_call 102; refine (rclass_any s _ HS.out).mono ?_; rintro e w1 ⟨rfl, hb1⟩; have HB1 := Lib.hid hb1; clear hb1))
  all_goals
    go_ret
    exact ⟨ret_bool (by first | exact HR.out.symm | (rw [HR.out]; simp_all [nameB]; done) | (rw [HR.out]; simp [nameB]; omega)), HB1.out⟩
set_option maxHeartbeats 400000 in
theorem rtextfits_12 (s : ByteArray) (w : World) (hs : s.size < maxLen) : Calls Tryz.prog 63 #[.int .i64 12, .string s] w fun e w' => e = .returned (.bool (namedP (partsP 12) s)) ∧ Below w.heap.size w w' := by
  have HS := Lib.hid hs
  have HR := Lib.hid (show namedP (partsP 12) s = nameB 2 (classN (suf s 0) : Nat) s from rfl)
  clear hs
  go_enter Tryz.func63, Tryz.ntmps63
  go_wp2_with (first | (go_at_call 102; refine (rclass_any s _ HS.out).mono ?_; rintro e w1 ⟨rfl, hb1⟩; have HB1 := Lib.hid hb1; clear hb1))
  all_goals
    go_ret
    exact ⟨ret_bool (by first | exact HR.out.symm | (rw [HR.out]; simp_all [nameB]; done) | (rw [HR.out]; simp [nameB]; omega)), HB1.out⟩
set_option maxHeartbeats 400000 in
theorem rtextfits_16 (s : ByteArray) (w : World) (hs : s.size < maxLen) : Calls Tryz.prog 63 #[.int .i64 16, .string s] w fun e w' => e = .returned (.bool (namedP (partsP 16) s)) ∧ Below w.heap.size w w' := by
  have HS := Lib.hid hs
  have HR := Lib.hid (show namedP (partsP 16) s = nameB 4 (classN (suf s 0) : Nat) s from rfl)
  clear hs
  go_enter Tryz.func63, Tryz.ntmps63
  go_wp2_with (first | (go_at_call 102; refine (rclass_any s _ HS.out).mono ?_; rintro e w1 ⟨rfl, hb1⟩; have HB1 := Lib.hid hb1; clear hb1))
  all_goals
    go_ret
    exact ⟨ret_bool (by first | exact HR.out.symm | (rw [HR.out]; simp_all [nameB]; done) | (rw [HR.out]; simp [nameB]; omega)), HB1.out⟩
set_option maxHeartbeats 400000 in
theorem rtextfits_20 (s : ByteArray) (w : World) (hs : s.size < maxLen) : Calls Tryz.prog 63 #[.int .i64 20, .string s] w fun e w' => e = .returned (.bool (namedP (partsP 20) s)) ∧ Below w.heap.size w w' := by
  have HS := Lib.hid hs
  have HR := Lib.hid (show namedP (partsP 20) s = nameB 2 (classN (suf s 0) : Nat) s from rfl)
  clear hs
  go_enter Tryz.func63, Tryz.ntmps63
  go_wp2_with (first | (go_at_call 102; refine (rclass_any s _ HS.out).mono ?_; rintro e w1 ⟨rfl, hb1⟩; have HB1 := Lib.hid hb1; clear hb1))
  all_goals
    go_ret
    exact ⟨ret_bool (by first | exact HR.out.symm | (rw [HR.out]; simp_all [nameB]; done) | (rw [HR.out]; simp [nameB]; omega)), HB1.out⟩
set_option maxHeartbeats 400000 in
theorem rtextfits_21 (s : ByteArray) (w : World) (hs : s.size < maxLen) : Calls Tryz.prog 63 #[.int .i64 21, .string s] w fun e w' => e = .returned (.bool (namedP (partsP 21) s)) ∧ Below w.heap.size w w' := by
  have HS := Lib.hid hs
  have HR := Lib.hid (show namedP (partsP 21) s = nameB 7 (classN (suf s 0) : Nat) s from rfl)
  clear hs
  go_enter Tryz.func63, Tryz.ntmps63
  go_wp2_with (first | (go_at_call 102; refine (rclass_any s _ HS.out).mono ?_; rintro e w1 ⟨rfl, hb1⟩; have HB1 := Lib.hid hb1; clear hb1) | (go_at_call 103; refine (risop_any s _).mono ?_; rintro e w2 ⟨rfl, rfl⟩))
  all_goals
    go_ret
    exact ⟨ret_bool (by first | exact HR.out.symm | (rw [HR.out]; simp_all [nameB]; done) | (rw [HR.out]; simp [nameB]; omega)), HB1.out⟩
theorem is_nil (s : ByteArray) : is s [] = s.toList.isEmpty := by
  rw [← is_list]
  cases s.toList <;> rfl
theorem named_other (k : Int) (s : ByteArray) (h : k ≠ 1 ∧ k ≠ 2 ∧ k ≠ 3 ∧ k ≠ 4 ∧ k ≠ 9 ∧ k ≠ 10 ∧ k ≠ 11 ∧ k ≠ 12 ∧ k ≠ 16 ∧ k ≠ 20 ∧ k ≠ 21) : namedP (partsP k) s = is s [] := by
  by_cases h0 : k ≤ 0 ∨ 23 ≤ k
  · rw [partsP_none h0]; rfl
  · rcases (show k = 5 ∨ k = 6 ∨ k = 7 ∨ k = 8 ∨ k = 13 ∨ k = 14 ∨ k = 15 ∨ k = 17 ∨ k = 18 ∨ k = 19 ∨ k = 22 from by omega) with rfl | rfl | rfl | rfl | rfl | rfl | rfl | rfl | rfl | rfl | rfl <;> rfl
set_option maxHeartbeats 1000000 in
theorem rtextfits_other (k : Int) (s : ByteArray) (w : World) (hs : s.size < maxLen) (h : k ≠ 1 ∧ k ≠ 2 ∧ k ≠ 3 ∧ k ≠ 4 ∧ k ≠ 9 ∧ k ≠ 10 ∧ k ≠ 11 ∧ k ≠ 12 ∧ k ≠ 16 ∧ k ≠ 20 ∧ k ≠ 21) : Calls Tryz.prog 63 #[.int .i64 k, .string s] w fun e w' => e = .returned (.bool (namedP (partsP k) s)) ∧ Below w.heap.size w w' := by
  have HS := Lib.hid hs
  have HR := Lib.hid ((named_other k s h).trans (is_nil s))
  have e1 := beqF (show k ≠ 1 from by omega)
  have e2 := beqF (show k ≠ 2 from by omega)
  have e3 := beqF (show k ≠ 3 from by omega)
  have e4 := beqF (show k ≠ 4 from by omega)
  have e9 := beqF (show k ≠ 9 from by omega)
  have e10 := beqF (show k ≠ 10 from by omega)
  have e11 := beqF (show k ≠ 11 from by omega)
  have e12 := beqF (show k ≠ 12 from by omega)
  have e16 := beqF (show k ≠ 16 from by omega)
  have e20 := beqF (show k ≠ 20 from by omega)
  have e21 := beqF (show k ≠ 21 from by omega)
  clear hs h
  go_enter Tryz.func63, Tryz.ntmps63
  go_wp2_with (go_at_call 102; refine (rclass_any s _ HS.out).mono ?_; rintro e w1 ⟨rfl, hb1⟩; have HB1 := Lib.hid hb1; clear hb1)
  go_ret
  exact ⟨ret_bool (by first | exact HR.out.symm | (rw [HR.out]; simp; done)), HB1.out⟩
theorem rtextfits_any (k : Int) (s : ByteArray) (w : World) (hs : s.size < maxLen) : Calls Tryz.prog 63 #[.int .i64 k, .string s] w fun e w' => e = .returned (.bool (namedP (partsP k) s)) ∧ Below w.heap.size w w' := by
  by_cases h : k ≠ 1 ∧ k ≠ 2 ∧ k ≠ 3 ∧ k ≠ 4 ∧ k ≠ 9 ∧ k ≠ 10 ∧ k ≠ 11 ∧ k ≠ 12 ∧ k ≠ 16 ∧ k ≠ 20 ∧ k ≠ 21
  · exact rtextfits_other k s w hs h
  · rcases (show k = 1 ∨ k = 2 ∨ k = 3 ∨ k = 4 ∨ k = 9 ∨ k = 10 ∨ k = 11 ∨ k = 12 ∨ k = 16 ∨ k = 20 ∨ k = 21 from by omega) with rfl | rfl | rfl | rfl | rfl | rfl | rfl | rfl | rfl | rfl | rfl
    · exact rtextfits_1 s w hs
    · exact rtextfits_2 s w hs
    · exact rtextfits_3 s w hs
    · exact rtextfits_4 s w hs
    · exact rtextfits_9 s w hs
    · exact rtextfits_10 s w hs
    · exact rtextfits_11 s w hs
    · exact rtextfits_12 s w hs
    · exact rtextfits_16 s w hs
    · exact rtextfits_20 s w hs
    · exact rtextfits_21 s w hs
/-- May a kid of kind k stand at place i of n. -/
def kidR (tk : Int) (n i : Nat) (k : Int) : Bool :=
  if tk = 1 then k == 2 || k == 3
  else if tk = 2 then (if i + 1 = n then exprB k else if i + 2 = n then hasB 3 k else k == 4)
  else if tk = 3 ∨ tk = 4 ∨ tk = 8 then hasB 3 k
  else if tk = 16 then k == 17
  else if tk = 21 then (unitB k || (decide (i = 0) && k == 21))
  else exprB k
set_option maxHeartbeats 1000000 in
theorem rkid_1 (vx : ByteArray) (vla : Option Addr) (vll vlc : Nat) (vka : Option Addr) (vkl vkc i : Nat) (k : Int) (w : World) (_hi : i < 1000) (_hn : vkl ≤ 1000) : Calls Tryz.prog 64 #[.agg #[.int .i64 1, .string vx, .slice vla vll vlc, .slice vka vkl vkc], .int .i64 i, .int .i64 k] w fun e w' => e = .returned (.bool (kidR 1 vkl i k)) ∧ Below w.heap.size w w' := by
  have HX := Lib.hid (heap_alloc_new w (.cells #[.int .i64 1, .string vx, .slice vla vll vlc, .slice vka vkl vkc] 25))
  have HB0 := Lib.hid ((Below.refl w.heap.size w).alloc (Nat.le_refl _) (.cells #[.int .i64 1, .string vx, .slice vla vll vlc, .slice vka vkl vkc] 25))
  have k0 : (w.alloc (.cells #[.int .i64 1, .string vx, .slice vla vll vlc, .slice vka vkl vkc] 25)).cell? ⟨w.heap.size, 0, none⟩ = some (.int .i64 1) := cells_of HX.out 0 _ rfl
  have k3 : (w.alloc (.cells #[.int .i64 1, .string vx, .slice vla vll vlc, .slice vka vkl vkc] 25)).cell? ⟨w.heap.size, 3, none⟩ = some (.slice vka vkl vkc) := cells_of HX.out 3 _ rfl
  have HR := Lib.hid (show kidR 1 vkl i k = (k == 2 || k == 3) from rfl)
  go_enter Tryz.func64, Tryz.ntmps64
  go_wp2_with (first | (go_at_call 104; refine (risexpr_any _ _).mono ?_; rintro e w1 ⟨rfl, rfl⟩) | (go_at_call 105; refine (ristype_any _ _).mono ?_; rintro e w1 ⟨rfl, rfl⟩) | (go_at_call 106; refine (risunit_any _ _).mono ?_; rintro e w1 ⟨rfl, rfl⟩))
  all_goals
    go_ret
    exact ⟨ret_bool (by first | exact HR.out.symm | (rw [HR.out]; done) | (rw [HR.out]; simp_all; done)), HB0.out⟩
set_option maxHeartbeats 1000000 in
theorem rkid_2a (vx : ByteArray) (vla : Option Addr) (vll vlc : Nat) (vka : Option Addr) (vkl vkc i : Nat) (k : Int) (w : World) (_hi : i < 1000) (_hn : vkl ≤ 1000) (h : i + 1 = vkl) : Calls Tryz.prog 64 #[.agg #[.int .i64 2, .string vx, .slice vla vll vlc, .slice vka vkl vkc], .int .i64 i, .int .i64 k] w fun e w' => e = .returned (.bool (kidR 2 vkl i k)) ∧ Below w.heap.size w w' := by
  have HX := Lib.hid (heap_alloc_new w (.cells #[.int .i64 2, .string vx, .slice vla vll vlc, .slice vka vkl vkc] 25))
  have HB0 := Lib.hid ((Below.refl w.heap.size w).alloc (Nat.le_refl _) (.cells #[.int .i64 2, .string vx, .slice vla vll vlc, .slice vka vkl vkc] 25))
  have k0 : (w.alloc (.cells #[.int .i64 2, .string vx, .slice vla vll vlc, .slice vka vkl vkc] 25)).cell? ⟨w.heap.size, 0, none⟩ = some (.int .i64 2) := cells_of HX.out 0 _ rfl
  have k3 : (w.alloc (.cells #[.int .i64 2, .string vx, .slice vla vll vlc, .slice vka vkl vkc] 25)).cell? ⟨w.heap.size, 3, none⟩ = some (.slice vka vkl vkc) := cells_of HX.out 3 _ rfl
  have HR := Lib.hid (show kidR 2 vkl i k = exprB k from by unfold kidR; rw [if_neg (by decide), if_pos rfl, if_pos h])
  have d1 : ((i : Int) == (vkl : Int) - 1) = true := beq_iff_eq.2 (by omega)
  clear h
  go_enter Tryz.func64, Tryz.ntmps64
  go_wp2_with (first | (go_at_call 104; refine (risexpr_any _ _).mono ?_; rintro e w1 ⟨rfl, rfl⟩) | (go_at_call 105; refine (ristype_any _ _).mono ?_; rintro e w1 ⟨rfl, rfl⟩) | (go_at_call 106; refine (risunit_any _ _).mono ?_; rintro e w1 ⟨rfl, rfl⟩))
  all_goals
    go_ret
    exact ⟨ret_bool (by first | exact HR.out.symm | (rw [HR.out]; done) | (rw [HR.out]; simp_all; done)), HB0.out⟩
set_option maxHeartbeats 1000000 in
theorem rkid_2b (vx : ByteArray) (vla : Option Addr) (vll vlc : Nat) (vka : Option Addr) (vkl vkc i : Nat) (k : Int) (w : World) (_hi : i < 1000) (_hn : vkl ≤ 1000) (h1 : i + 1 ≠ vkl) (h : i + 2 = vkl) : Calls Tryz.prog 64 #[.agg #[.int .i64 2, .string vx, .slice vla vll vlc, .slice vka vkl vkc], .int .i64 i, .int .i64 k] w fun e w' => e = .returned (.bool (kidR 2 vkl i k)) ∧ Below w.heap.size w w' := by
  have HX := Lib.hid (heap_alloc_new w (.cells #[.int .i64 2, .string vx, .slice vla vll vlc, .slice vka vkl vkc] 25))
  have HB0 := Lib.hid ((Below.refl w.heap.size w).alloc (Nat.le_refl _) (.cells #[.int .i64 2, .string vx, .slice vla vll vlc, .slice vka vkl vkc] 25))
  have k0 : (w.alloc (.cells #[.int .i64 2, .string vx, .slice vla vll vlc, .slice vka vkl vkc] 25)).cell? ⟨w.heap.size, 0, none⟩ = some (.int .i64 2) := cells_of HX.out 0 _ rfl
  have k3 : (w.alloc (.cells #[.int .i64 2, .string vx, .slice vla vll vlc, .slice vka vkl vkc] 25)).cell? ⟨w.heap.size, 3, none⟩ = some (.slice vka vkl vkc) := cells_of HX.out 3 _ rfl
  have HR := Lib.hid (show kidR 2 vkl i k = hasB 3 k from by unfold kidR; rw [if_neg (by decide), if_pos rfl, if_neg h1, if_pos h])
  have d1 : ((i : Int) == (vkl : Int) - 1) = false := beq_eq_false_iff_ne.2 (by omega)
  have d2 : ((i : Int) == (vkl : Int) - 2) = true := beq_iff_eq.2 (by omega)
  clear h h1
  go_enter Tryz.func64, Tryz.ntmps64
  go_wp2_with (first | (go_at_call 104; refine (risexpr_any _ _).mono ?_; rintro e w1 ⟨rfl, rfl⟩) | (go_at_call 105; refine (ristype_any _ _).mono ?_; rintro e w1 ⟨rfl, rfl⟩) | (go_at_call 106; refine (risunit_any _ _).mono ?_; rintro e w1 ⟨rfl, rfl⟩))
  all_goals
    go_ret
    exact ⟨ret_bool (by first | exact HR.out.symm | (rw [HR.out]; done) | (rw [HR.out]; simp_all; done)), HB0.out⟩
set_option maxHeartbeats 1000000 in
theorem rkid_2c (vx : ByteArray) (vla : Option Addr) (vll vlc : Nat) (vka : Option Addr) (vkl vkc i : Nat) (k : Int) (w : World) (_hi : i < 1000) (_hn : vkl ≤ 1000) (h1 : i + 1 ≠ vkl) (h : i + 2 ≠ vkl) : Calls Tryz.prog 64 #[.agg #[.int .i64 2, .string vx, .slice vla vll vlc, .slice vka vkl vkc], .int .i64 i, .int .i64 k] w fun e w' => e = .returned (.bool (kidR 2 vkl i k)) ∧ Below w.heap.size w w' := by
  have HX := Lib.hid (heap_alloc_new w (.cells #[.int .i64 2, .string vx, .slice vla vll vlc, .slice vka vkl vkc] 25))
  have HB0 := Lib.hid ((Below.refl w.heap.size w).alloc (Nat.le_refl _) (.cells #[.int .i64 2, .string vx, .slice vla vll vlc, .slice vka vkl vkc] 25))
  have k0 : (w.alloc (.cells #[.int .i64 2, .string vx, .slice vla vll vlc, .slice vka vkl vkc] 25)).cell? ⟨w.heap.size, 0, none⟩ = some (.int .i64 2) := cells_of HX.out 0 _ rfl
  have k3 : (w.alloc (.cells #[.int .i64 2, .string vx, .slice vla vll vlc, .slice vka vkl vkc] 25)).cell? ⟨w.heap.size, 3, none⟩ = some (.slice vka vkl vkc) := cells_of HX.out 3 _ rfl
  have HR := Lib.hid (show kidR 2 vkl i k = (k == 4) from by unfold kidR; rw [if_neg (by decide), if_pos rfl, if_neg h1, if_neg h])
  have d1 : ((i : Int) == (vkl : Int) - 1) = false := beq_eq_false_iff_ne.2 (by omega)
  have d2 : ((i : Int) == (vkl : Int) - 2) = false := beq_eq_false_iff_ne.2 (by omega)
  clear h h1
  go_enter Tryz.func64, Tryz.ntmps64
  go_wp2_with (first | (go_at_call 104; refine (risexpr_any _ _).mono ?_; rintro e w1 ⟨rfl, rfl⟩) | (go_at_call 105; refine (ristype_any _ _).mono ?_; rintro e w1 ⟨rfl, rfl⟩) | (go_at_call 106; refine (risunit_any _ _).mono ?_; rintro e w1 ⟨rfl, rfl⟩))
  all_goals
    go_ret
    exact ⟨ret_bool (by first | exact HR.out.symm | (rw [HR.out]; done) | (rw [HR.out]; simp_all; done)), HB0.out⟩
set_option maxHeartbeats 1000000 in
theorem rkid_3 (vx : ByteArray) (vla : Option Addr) (vll vlc : Nat) (vka : Option Addr) (vkl vkc i : Nat) (k : Int) (w : World) (_hi : i < 1000) (_hn : vkl ≤ 1000) : Calls Tryz.prog 64 #[.agg #[.int .i64 3, .string vx, .slice vla vll vlc, .slice vka vkl vkc], .int .i64 i, .int .i64 k] w fun e w' => e = .returned (.bool (kidR 3 vkl i k)) ∧ Below w.heap.size w w' := by
  have HX := Lib.hid (heap_alloc_new w (.cells #[.int .i64 3, .string vx, .slice vla vll vlc, .slice vka vkl vkc] 25))
  have HB0 := Lib.hid ((Below.refl w.heap.size w).alloc (Nat.le_refl _) (.cells #[.int .i64 3, .string vx, .slice vla vll vlc, .slice vka vkl vkc] 25))
  have k0 : (w.alloc (.cells #[.int .i64 3, .string vx, .slice vla vll vlc, .slice vka vkl vkc] 25)).cell? ⟨w.heap.size, 0, none⟩ = some (.int .i64 3) := cells_of HX.out 0 _ rfl
  have k3 : (w.alloc (.cells #[.int .i64 3, .string vx, .slice vla vll vlc, .slice vka vkl vkc] 25)).cell? ⟨w.heap.size, 3, none⟩ = some (.slice vka vkl vkc) := cells_of HX.out 3 _ rfl
  have HR := Lib.hid (show kidR 3 vkl i k = hasB 3 k from rfl)
  go_enter Tryz.func64, Tryz.ntmps64
  go_wp2_with (first | (go_at_call 104; refine (risexpr_any _ _).mono ?_; rintro e w1 ⟨rfl, rfl⟩) | (go_at_call 105; refine (ristype_any _ _).mono ?_; rintro e w1 ⟨rfl, rfl⟩) | (go_at_call 106; refine (risunit_any _ _).mono ?_; rintro e w1 ⟨rfl, rfl⟩))
  all_goals
    go_ret
    exact ⟨ret_bool (by first | exact HR.out.symm | (rw [HR.out]; done) | (rw [HR.out]; simp_all; done)), HB0.out⟩
set_option maxHeartbeats 1000000 in
theorem rkid_4 (vx : ByteArray) (vla : Option Addr) (vll vlc : Nat) (vka : Option Addr) (vkl vkc i : Nat) (k : Int) (w : World) (_hi : i < 1000) (_hn : vkl ≤ 1000) : Calls Tryz.prog 64 #[.agg #[.int .i64 4, .string vx, .slice vla vll vlc, .slice vka vkl vkc], .int .i64 i, .int .i64 k] w fun e w' => e = .returned (.bool (kidR 4 vkl i k)) ∧ Below w.heap.size w w' := by
  have HX := Lib.hid (heap_alloc_new w (.cells #[.int .i64 4, .string vx, .slice vla vll vlc, .slice vka vkl vkc] 25))
  have HB0 := Lib.hid ((Below.refl w.heap.size w).alloc (Nat.le_refl _) (.cells #[.int .i64 4, .string vx, .slice vla vll vlc, .slice vka vkl vkc] 25))
  have k0 : (w.alloc (.cells #[.int .i64 4, .string vx, .slice vla vll vlc, .slice vka vkl vkc] 25)).cell? ⟨w.heap.size, 0, none⟩ = some (.int .i64 4) := cells_of HX.out 0 _ rfl
  have k3 : (w.alloc (.cells #[.int .i64 4, .string vx, .slice vla vll vlc, .slice vka vkl vkc] 25)).cell? ⟨w.heap.size, 3, none⟩ = some (.slice vka vkl vkc) := cells_of HX.out 3 _ rfl
  have HR := Lib.hid (show kidR 4 vkl i k = hasB 3 k from rfl)
  go_enter Tryz.func64, Tryz.ntmps64
  go_wp2_with (first | (go_at_call 104; refine (risexpr_any _ _).mono ?_; rintro e w1 ⟨rfl, rfl⟩) | (go_at_call 105; refine (ristype_any _ _).mono ?_; rintro e w1 ⟨rfl, rfl⟩) | (go_at_call 106; refine (risunit_any _ _).mono ?_; rintro e w1 ⟨rfl, rfl⟩))
  all_goals
    go_ret
    exact ⟨ret_bool (by first | exact HR.out.symm | (rw [HR.out]; done) | (rw [HR.out]; simp_all; done)), HB0.out⟩
set_option maxHeartbeats 1000000 in
theorem rkid_8 (vx : ByteArray) (vla : Option Addr) (vll vlc : Nat) (vka : Option Addr) (vkl vkc i : Nat) (k : Int) (w : World) (_hi : i < 1000) (_hn : vkl ≤ 1000) : Calls Tryz.prog 64 #[.agg #[.int .i64 8, .string vx, .slice vla vll vlc, .slice vka vkl vkc], .int .i64 i, .int .i64 k] w fun e w' => e = .returned (.bool (kidR 8 vkl i k)) ∧ Below w.heap.size w w' := by
  have HX := Lib.hid (heap_alloc_new w (.cells #[.int .i64 8, .string vx, .slice vla vll vlc, .slice vka vkl vkc] 25))
  have HB0 := Lib.hid ((Below.refl w.heap.size w).alloc (Nat.le_refl _) (.cells #[.int .i64 8, .string vx, .slice vla vll vlc, .slice vka vkl vkc] 25))
  have k0 : (w.alloc (.cells #[.int .i64 8, .string vx, .slice vla vll vlc, .slice vka vkl vkc] 25)).cell? ⟨w.heap.size, 0, none⟩ = some (.int .i64 8) := cells_of HX.out 0 _ rfl
  have k3 : (w.alloc (.cells #[.int .i64 8, .string vx, .slice vla vll vlc, .slice vka vkl vkc] 25)).cell? ⟨w.heap.size, 3, none⟩ = some (.slice vka vkl vkc) := cells_of HX.out 3 _ rfl
  have HR := Lib.hid (show kidR 8 vkl i k = hasB 3 k from rfl)
  go_enter Tryz.func64, Tryz.ntmps64
  go_wp2_with (first | (go_at_call 104; refine (risexpr_any _ _).mono ?_; rintro e w1 ⟨rfl, rfl⟩) | (go_at_call 105; refine (ristype_any _ _).mono ?_; rintro e w1 ⟨rfl, rfl⟩) | (go_at_call 106; refine (risunit_any _ _).mono ?_; rintro e w1 ⟨rfl, rfl⟩))
  all_goals
    go_ret
    exact ⟨ret_bool (by first | exact HR.out.symm | (rw [HR.out]; done) | (rw [HR.out]; simp_all; done)), HB0.out⟩
set_option maxHeartbeats 1000000 in
theorem rkid_16 (vx : ByteArray) (vla : Option Addr) (vll vlc : Nat) (vka : Option Addr) (vkl vkc i : Nat) (k : Int) (w : World) (_hi : i < 1000) (_hn : vkl ≤ 1000) : Calls Tryz.prog 64 #[.agg #[.int .i64 16, .string vx, .slice vla vll vlc, .slice vka vkl vkc], .int .i64 i, .int .i64 k] w fun e w' => e = .returned (.bool (kidR 16 vkl i k)) ∧ Below w.heap.size w w' := by
  have HX := Lib.hid (heap_alloc_new w (.cells #[.int .i64 16, .string vx, .slice vla vll vlc, .slice vka vkl vkc] 25))
  have HB0 := Lib.hid ((Below.refl w.heap.size w).alloc (Nat.le_refl _) (.cells #[.int .i64 16, .string vx, .slice vla vll vlc, .slice vka vkl vkc] 25))
  have k0 : (w.alloc (.cells #[.int .i64 16, .string vx, .slice vla vll vlc, .slice vka vkl vkc] 25)).cell? ⟨w.heap.size, 0, none⟩ = some (.int .i64 16) := cells_of HX.out 0 _ rfl
  have k3 : (w.alloc (.cells #[.int .i64 16, .string vx, .slice vla vll vlc, .slice vka vkl vkc] 25)).cell? ⟨w.heap.size, 3, none⟩ = some (.slice vka vkl vkc) := cells_of HX.out 3 _ rfl
  have HR := Lib.hid (show kidR 16 vkl i k = (k == 17) from rfl)
  go_enter Tryz.func64, Tryz.ntmps64
  go_wp2_with (first | (go_at_call 104; refine (risexpr_any _ _).mono ?_; rintro e w1 ⟨rfl, rfl⟩) | (go_at_call 105; refine (ristype_any _ _).mono ?_; rintro e w1 ⟨rfl, rfl⟩) | (go_at_call 106; refine (risunit_any _ _).mono ?_; rintro e w1 ⟨rfl, rfl⟩))
  all_goals
    go_ret
    exact ⟨ret_bool (by first | exact HR.out.symm | (rw [HR.out]; done) | (rw [HR.out]; simp_all; done)), HB0.out⟩
set_option maxHeartbeats 1000000 in
theorem rkid_21t (vx : ByteArray) (vla : Option Addr) (vll vlc : Nat) (vka : Option Addr) (vkl vkc i : Nat) (k : Int) (w : World) (_hi : i < 1000) (_hn : vkl ≤ 1000) (hu : unitB k = true) : Calls Tryz.prog 64 #[.agg #[.int .i64 21, .string vx, .slice vla vll vlc, .slice vka vkl vkc], .int .i64 i, .int .i64 k] w fun e w' => e = .returned (.bool (kidR 21 vkl i k)) ∧ Below w.heap.size w w' := by
  have HX := Lib.hid (heap_alloc_new w (.cells #[.int .i64 21, .string vx, .slice vla vll vlc, .slice vka vkl vkc] 25))
  have HB0 := Lib.hid ((Below.refl w.heap.size w).alloc (Nat.le_refl _) (.cells #[.int .i64 21, .string vx, .slice vla vll vlc, .slice vka vkl vkc] 25))
  have k0 : (w.alloc (.cells #[.int .i64 21, .string vx, .slice vla vll vlc, .slice vka vkl vkc] 25)).cell? ⟨w.heap.size, 0, none⟩ = some (.int .i64 21) := cells_of HX.out 0 _ rfl
  have k3 : (w.alloc (.cells #[.int .i64 21, .string vx, .slice vla vll vlc, .slice vka vkl vkc] 25)).cell? ⟨w.heap.size, 3, none⟩ = some (.slice vka vkl vkc) := cells_of HX.out 3 _ rfl
  have HR := Lib.hid (show kidR 21 vkl i k = true from by show (unitB k || (decide (i = 0) && k == 21)) = true; rw [hu]; rfl)
  go_enter Tryz.func64, Tryz.ntmps64
  go_wp2_with (first | (go_at_call 104; refine (risexpr_any _ _).mono ?_; rintro e w1 ⟨rfl, rfl⟩) | (go_at_call 105; refine (ristype_any _ _).mono ?_; rintro e w1 ⟨rfl, rfl⟩) | (go_at_call 106; refine (risunit_any _ _).mono ?_; rw [hu]; rintro e w1 ⟨rfl, rfl⟩))
  all_goals
    go_ret
    exact ⟨ret_bool (by first | exact HR.out.symm | (rw [HR.out]; done) | (rw [HR.out]; simp_all; done)), HB0.out⟩
set_option maxHeartbeats 1000000 in
theorem rkid_21f (vx : ByteArray) (vla : Option Addr) (vll vlc : Nat) (vka : Option Addr) (vkl vkc i : Nat) (k : Int) (w : World) (_hi : i < 1000) (_hn : vkl ≤ 1000) (hu : unitB k = false) : Calls Tryz.prog 64 #[.agg #[.int .i64 21, .string vx, .slice vla vll vlc, .slice vka vkl vkc], .int .i64 i, .int .i64 k] w fun e w' => e = .returned (.bool (kidR 21 vkl i k)) ∧ Below w.heap.size w w' := by
  have HX := Lib.hid (heap_alloc_new w (.cells #[.int .i64 21, .string vx, .slice vla vll vlc, .slice vka vkl vkc] 25))
  have HB0 := Lib.hid ((Below.refl w.heap.size w).alloc (Nat.le_refl _) (.cells #[.int .i64 21, .string vx, .slice vla vll vlc, .slice vka vkl vkc] 25))
  have k0 : (w.alloc (.cells #[.int .i64 21, .string vx, .slice vla vll vlc, .slice vka vkl vkc] 25)).cell? ⟨w.heap.size, 0, none⟩ = some (.int .i64 21) := cells_of HX.out 0 _ rfl
  have k3 : (w.alloc (.cells #[.int .i64 21, .string vx, .slice vla vll vlc, .slice vka vkl vkc] 25)).cell? ⟨w.heap.size, 3, none⟩ = some (.slice vka vkl vkc) := cells_of HX.out 3 _ rfl
  have HR := Lib.hid (show kidR 21 vkl i k = (decide (i = 0) && k == 21) from by show (unitB k || (decide (i = 0) && k == 21)) = _; rw [hu]; rfl)
  by_cases h0 : i = 0
  · subst h0
    go_enter Tryz.func64, Tryz.ntmps64
    go_wp2_with (first | (go_at_call 104; refine (risexpr_any _ _).mono ?_; rintro e w1 ⟨rfl, rfl⟩) | (go_at_call 105; refine (ristype_any _ _).mono ?_; rintro e w1 ⟨rfl, rfl⟩) | (go_at_call 106; refine (risunit_any _ _).mono ?_; rw [hu]; rintro e w1 ⟨rfl, rfl⟩))
    all_goals
      go_ret
      exact ⟨ret_bool (by first | exact HR.out.symm | (rw [HR.out]; simp_all; done)), HB0.out⟩
  · have d1 : ((i : Int) == 0) = false := beq_eq_false_iff_ne.2 (by omega)
    have d2 : (i == 0) = false := beq_eq_false_iff_ne.2 h0
    have HR2 := Lib.hid (show kidR 21 vkl i k = false from by rw [HR.out, decide_eq_false h0]; rfl)
    clear h0
    go_enter Tryz.func64, Tryz.ntmps64
    go_wp2_with (first | (go_at_call 104; refine (risexpr_any _ _).mono ?_; rintro e w1 ⟨rfl, rfl⟩) | (go_at_call 105; refine (ristype_any _ _).mono ?_; rintro e w1 ⟨rfl, rfl⟩) | (go_at_call 106; refine (risunit_any _ _).mono ?_; rw [hu]; rintro e w1 ⟨rfl, rfl⟩))
    all_goals
      go_ret
      exact ⟨ret_bool (by first | exact HR2.out.symm | (rw [HR2.out]; simp_all; done)), HB0.out⟩
set_option maxHeartbeats 1000000 in
theorem rkid_other (tk : Int) (vx : ByteArray) (vla : Option Addr) (vll vlc : Nat) (vka : Option Addr) (vkl vkc i : Nat) (k : Int) (w : World) (_hi : i < 1000) (_hn : vkl ≤ 1000) (h : tk ≠ 1 ∧ tk ≠ 2 ∧ tk ≠ 3 ∧ tk ≠ 4 ∧ tk ≠ 8 ∧ tk ≠ 16 ∧ tk ≠ 21) : Calls Tryz.prog 64 #[.agg #[.int .i64 tk, .string vx, .slice vla vll vlc, .slice vka vkl vkc], .int .i64 i, .int .i64 k] w fun e w' => e = .returned (.bool (kidR tk vkl i k)) ∧ Below w.heap.size w w' := by
  have HX := Lib.hid (heap_alloc_new w (.cells #[.int .i64 tk, .string vx, .slice vla vll vlc, .slice vka vkl vkc] 25))
  have HB0 := Lib.hid ((Below.refl w.heap.size w).alloc (Nat.le_refl _) (.cells #[.int .i64 tk, .string vx, .slice vla vll vlc, .slice vka vkl vkc] 25))
  have k0 : (w.alloc (.cells #[.int .i64 tk, .string vx, .slice vla vll vlc, .slice vka vkl vkc] 25)).cell? ⟨w.heap.size, 0, none⟩ = some (.int .i64 tk) := cells_of HX.out 0 _ rfl
  have k3 : (w.alloc (.cells #[.int .i64 tk, .string vx, .slice vla vll vlc, .slice vka vkl vkc] 25)).cell? ⟨w.heap.size, 3, none⟩ = some (.slice vka vkl vkc) := cells_of HX.out 3 _ rfl
  have HR := Lib.hid (show kidR tk vkl i k = exprB k from by unfold kidR; rw [if_neg (by omega), if_neg (by omega), if_neg (by omega), if_neg (by omega), if_neg (by omega)])
  have e1 := beqF (show tk ≠ 1 from by omega)
  have e2 := beqF (show tk ≠ 2 from by omega)
  have e3 := beqF (show tk ≠ 3 from by omega)
  have e4 := beqF (show tk ≠ 4 from by omega)
  have e8 := beqF (show tk ≠ 8 from by omega)
  have e16 := beqF (show tk ≠ 16 from by omega)
  have e21 := beqF (show tk ≠ 21 from by omega)
  clear h
  go_enter Tryz.func64, Tryz.ntmps64
  go_wp2_with (first | (go_at_call 104; refine (risexpr_any _ _).mono ?_; rintro e w1 ⟨rfl, rfl⟩) | (go_at_call 105; refine (ristype_any _ _).mono ?_; rintro e w1 ⟨rfl, rfl⟩) | (go_at_call 106; refine (risunit_any _ _).mono ?_; rintro e w1 ⟨rfl, rfl⟩))
  all_goals
    go_ret
    exact ⟨ret_bool (by first | exact HR.out.symm | (rw [HR.out]; done) | (rw [HR.out]; simp_all; done)), HB0.out⟩
theorem rkid_any (tk : Int) (vx : ByteArray) (vla : Option Addr) (vll vlc : Nat) (vka : Option Addr) (vkl vkc i : Nat) (k : Int) (w : World) (hi : i < 1000) (hn : vkl ≤ 1000) : Calls Tryz.prog 64 #[.agg #[.int .i64 tk, .string vx, .slice vla vll vlc, .slice vka vkl vkc], .int .i64 i, .int .i64 k] w fun e w' => e = .returned (.bool (kidR tk vkl i k)) ∧ Below w.heap.size w w' := by
  by_cases h : tk ≠ 1 ∧ tk ≠ 2 ∧ tk ≠ 3 ∧ tk ≠ 4 ∧ tk ≠ 8 ∧ tk ≠ 16 ∧ tk ≠ 21
  · exact rkid_other tk vx vla vll vlc vka vkl vkc i k w hi hn h
  · rcases (show tk = 1 ∨ tk = 2 ∨ tk = 3 ∨ tk = 4 ∨ tk = 8 ∨ tk = 16 ∨ tk = 21 from by omega) with rfl | rfl | rfl | rfl | rfl | rfl | rfl
    · exact rkid_1 vx vla vll vlc vka vkl vkc i k w hi hn
    · by_cases h1 : i + 1 = vkl
      · exact rkid_2a vx vla vll vlc vka vkl vkc i k w hi hn h1
      · by_cases h2 : i + 2 = vkl
        · exact rkid_2b vx vla vll vlc vka vkl vkc i k w hi hn h1 h2
        · exact rkid_2c vx vla vll vlc vka vkl vkc i k w hi hn h1 h2
    · exact rkid_3 vx vla vll vlc vka vkl vkc i k w hi hn
    · exact rkid_4 vx vla vll vlc vka vkl vkc i k w hi hn
    · exact rkid_8 vx vla vll vlc vka vkl vkc i k w hi hn
    · exact rkid_16 vx vla vll vlc vka vkl vkc i k w hi hn
    · cases hu : unitB k
      · exact rkid_21f vx vla vll vlc vka vkl vkc i k w hi hn hu
      · exact rkid_21t vx vla vll vlc vka vkl vkc i k w hi hn hu
end Go.Proofs.YtpdmklbfbpdneaaGreat
namespace Go.Proofs.YtpdmklbfbpdneaaGreat
open Go.RowKit
mutual
def shapedR : Tr → Bool
  | .mk k x _ ks => !decide (leadsR k ks.length < 0) && namedP (partsP k) x && shapedRL k ks.length 0 ks
def shapedRL : Int → Nat → Nat → List Tr → Bool
  | _, _, _, [] => true
  | k, n, i, a :: r => kidR k n i a.kind && shapedR a && shapedRL k n (i + 1) r
end
theorem shapedR_eq (t : Tr) : shapedR t = (!decide (leadsR t.kind t.kids.length < 0) && namedP (partsP t.kind) t.text && shapedRL t.kind t.kids.length 0 t.kids) := by
  cases t with
  | mk k x ls ks => rw [shapedR]; rfl
theorem shapedRL_at (k : Int) (n : Nat) (l : List Tr) (j : Nat) (a : Tr) (h : l[j]? = some a) : shapedRL k n j (l.drop j) = (kidR k n j a.kind && shapedR a && shapedRL k n (j + 1) (l.drop (j + 1))) := by
  obtain ⟨hj, he⟩ := List.getElem?_eq_some_iff.1 h
  rw [List.drop_eq_getElem_cons hj, he, shapedRL]
theorem shapedRL_end (k : Int) (n : Nat) (l : List Tr) (j : Nat) (h : l.length ≤ j) : shapedRL k n j (l.drop j) = true := by
  rw [List.drop_eq_nil_of_le h, shapedRL]
theorem free_leads (k : Int) (n : Nat) (hn : n ≤ 1000) : (freeP (partsP k) n).2 = !decide (leadsR k n < 0) := by
  rw [← leads_eq k n (by omega)]
  unfold leadsP
  have hc : ∀ (l : List Part) (m : Int), 0 ≤ commasP l m := by
    intro l m
    induction l with
    | nil => exact Int.le_refl 0
    | cons x r ih =>
      rw [commasP]
      split
      · rename_i h
        simp only [Bool.and_eq_true, decide_eq_true_eq] at h
        omega
      · omega
  cases (freeP (partsP k) n).2
  · rw [if_neg (by decide)]; rfl
  · rw [if_pos rfl]
    have := hc (partsP k) (freeP (partsP k) n).1
    rw [decide_eq_false (by omega)]
    rfl
theorem free_one {k : Int} {n : Nat} {o : Int} (hl : partsP k ≠ []) (ho : (onesP (partsP k) : Int) = o) : (freeP (partsP k) n).1 = n - o := by
  unfold freeP
  rw [if_neg (fun h => by rcases h with h | h; exact hl h; omega), freeL_ones, ho]
theorem only_n {n : Nat} {must m : Int} (h : (!decide (onlyR n must m < 0)) = true) : (n : Int) = must := by
  unfold onlyR at h
  by_cases e : (n : Int) = must
  · exact e
  · rw [if_neg e] at h
    exact absurd h (by decide)
theorem sorts_1 (n : Nat) : sortsP (partsP 1) (freeP (partsP 1) n).1 = List.replicate n 1 := by
  rw [free_one (o := 0) (by decide) rfl]
  simp [partsP, sortsP, countP, wordP, nameP, manyP]
theorem sorts_2 (n : Nat) (h : 2 ≤ n) : sortsP (partsP 2) (freeP (partsP 2) n).1 = List.replicate (n - 2) 2 ++ [3, 5] := by
  rw [free_one (o := 2) (by decide) rfl]
  have : ((n : Int) - 2).toNat = n - 2 := by omega
  simp [partsP, sortsP, countP, wordP, nameP, manyP, oneP, this]
theorem sorts_16 (n : Nat) : sortsP (partsP 16) (freeP (partsP 16) n).1 = List.replicate n 4 := by
  rw [free_one (o := 0) (by decide) rfl]
  simp [partsP, sortsP, countP, wordP, nameP, manyP]
theorem sorts_18 (n : Nat) : sortsP (partsP 18) (freeP (partsP 18) n).1 = List.replicate n 5 := by
  rw [free_one (o := 0) (by decide) rfl]
  simp [partsP, sortsP, countP, wordP, manyP]
theorem rep_get {n j : Nat} {s : Int} (h : j < n) : (List.replicate n s)[j]? = some s := by rw [List.getElem?_replicate]; simp [h]
theorem kid_cases {k : Int} (h : ¬ (k ≤ 0 ∨ 23 ≤ k)) : k = 1 ∨ k = 2 ∨ k = 3 ∨ k = 4 ∨ k = 5 ∨ k = 6 ∨ k = 7 ∨ k = 8 ∨ k = 9 ∨ k = 10 ∨ k = 11 ∨ k = 12 ∨ k = 13 ∨ k = 14 ∨ k = 15 ∨ k = 16 ∨ k = 17 ∨ k = 18 ∨ k = 19 ∨ k = 20 ∨ k = 21 ∨ k = 22 := by omega
theorem sorts_kid (k : Int) (n : Nat) (hn : n ≤ 1000) (h : (freeP (partsP k) n).2 = true) (j : Nat) (hj : j < n) : ∃ s, (sortsP (partsP k) (freeP (partsP k) n).1)[j]? = some s ∧ ∀ kd, kidR k n j kd = hasB s kd := by
  have hq := h
  rw [free_leads k n hn] at hq
  by_cases h0 : k ≤ 0 ∨ 23 ≤ k
  · rw [partsP_none h0] at h
    simp [freeP] at h
  · rcases kid_cases h0 with rfl | rfl | rfl | rfl | rfl | rfl | rfl | rfl | rfl | rfl | rfl | rfl | rfl | rfl | rfl | rfl | rfl | rfl | rfl | rfl | rfl | rfl
    · exact ⟨1, by rw [sorts_1]; exact rep_get hj, fun kd => rfl⟩
    · have h2 : 2 ≤ n := by
        rcases Nat.lt_or_ge n 2 with h' | h'
        · rw [show leadsR 2 n = -1 from by show (if 2 ≤ (n : Int) then 6 + max 0 ((n : Int) - 3) else -1) = _; rw [if_neg (by omega)]] at hq
          exact absurd hq (by decide)
        · exact h'
      rw [sorts_2 n h2]
      by_cases j1 : j + 1 = n
      · refine ⟨5, ?_, fun kd => ?_⟩
        · rw [List.getElem?_append_right (by simp; omega), List.length_replicate, show j - (n - 2) = 1 from by omega]; rfl
        · unfold kidR; rw [if_neg (by decide), if_pos rfl, if_pos j1]; exact exprB_has kd
      · by_cases j2 : j + 2 = n
        · refine ⟨3, ?_, fun kd => ?_⟩
          · rw [List.getElem?_append_right (by simp; omega), List.length_replicate, show j - (n - 2) = 0 from by omega]; rfl
          · unfold kidR; rw [if_neg (by decide), if_pos rfl, if_neg j1, if_pos j2]
        · refine ⟨2, ?_, fun kd => ?_⟩
          · rw [List.getElem?_append_left (by simp; omega)]; exact rep_get (by omega)
          · unfold kidR; rw [if_neg (by decide), if_pos rfl, if_neg j1, if_neg j2]; rfl
    · obtain rfl : n = 1 := by have := only_n (n := n) (must := 1) (m := 3) hq; omega
      obtain rfl : j = 0 := by omega
      exact ⟨3, rfl, fun kd => rfl⟩
    · obtain rfl : n = 1 := by have := only_n (n := n) (must := 1) (m := 2) hq; omega
      obtain rfl : j = 0 := by omega
      exact ⟨3, rfl, fun kd => rfl⟩
    · have := only_n (n := n) (must := 0) (m := 1) hq; omega
    · have := only_n (n := n) (must := 0) (m := 1) hq; omega
    · have := only_n (n := n) (must := 0) (m := 1) hq; omega
    · obtain rfl : n = 1 := by have := only_n (n := n) (must := 1) (m := 2) hq; omega
      obtain rfl : j = 0 := by omega
      exact ⟨3, rfl, fun kd => rfl⟩
    · have := only_n (n := n) (must := 0) (m := 1) hq; omega
    · have := only_n (n := n) (must := 0) (m := 1) hq; omega
    · have := only_n (n := n) (must := 0) (m := 1) hq; omega
    · have := only_n (n := n) (must := 0) (m := 1) hq; omega
    · have := only_n (n := n) (must := 0) (m := 1) hq; omega
    · have := only_n (n := n) (must := 0) (m := 1) hq; omega
    · have := only_n (n := n) (must := 0) (m := 1) hq; omega
    · exact ⟨4, by rw [sorts_16]; exact rep_get hj, fun kd => rfl⟩
    · obtain rfl : n = 1 := by have := only_n (n := n) (must := 1) (m := 0) hq; omega
      obtain rfl : j = 0 := by omega
      exact ⟨5, rfl, fun kd => exprB_has kd⟩
    · exact ⟨5, by rw [sorts_18]; exact rep_get hj, fun kd => exprB_has kd⟩
    · obtain rfl : n = 3 := by have := only_n (n := n) (must := 3) (m := 3) hq; omega
      rcases (show j = 0 ∨ j = 1 ∨ j = 2 from by omega) with rfl | rfl | rfl <;> exact ⟨5, rfl, fun kd => exprB_has kd⟩
    · obtain rfl : n = 2 := by have := only_n (n := n) (must := 2) (m := 4) hq; omega
      rcases (show j = 0 ∨ j = 1 from by omega) with rfl | rfl <;> exact ⟨5, rfl, fun kd => exprB_has kd⟩
    · obtain rfl : n = 2 := by have := only_n (n := n) (must := 2) (m := 1) hq; omega
      rcases (show j = 0 ∨ j = 1 from by omega) with rfl | rfl
      · exact ⟨6, rfl, fun kd => firstB_has kd⟩
      · exact ⟨7, rfl, fun kd => by rw [← unitB_has]; show (unitB kd || (decide (1 = 0) && kd == 21)) = unitB kd; simp⟩
    · obtain rfl : n = 1 := by have := only_n (n := n) (must := 1) (m := 2) hq; omega
      obtain rfl : j = 0 := by omega
      exact ⟨5, rfl, fun kd => exprB_has kd⟩
theorem shapedRL_eq (k : Int) (n : Nat) : ∀ (ks : List Tr) (i : Nat) (ss : List Int), (∀ a ∈ ks, shapedR a = shapedT a) → (∀ j, j < ks.length → ∃ s, ss[j]? = some s ∧ ∀ kd, kidR k n (i + j) kd = hasB s kd) → shapedRL k n i ks = shapedL ks ss
  | [], i, ss, _, _ => by rw [shapedRL, shapedL_nil]
  | a :: r, i, ss, ha, hs => by
    obtain ⟨s, h0, hk⟩ := hs 0 (by simp)
    cases ss with
    | nil => simp at h0
    | cons s' ss =>
      simp at h0
      subst h0
      have hk0 : kidR k n i a.kind = hasB s' a.kind := hk a.kind
      rw [shapedRL, shapedL_cons, ← hk0, ha a (by simp), shapedRL_eq k n r (i + 1) ss (fun x hx => ha x (by simp [hx])) (fun j hj => by
        obtain ⟨s, h1, h2⟩ := hs (j + 1) (by simp; omega)
        exact ⟨s, by simpa using h1, fun kd => by rw [show i + 1 + j = i + (j + 1) from by omega]; exact h2 kd⟩)]
theorem mem_size {l : List Tr} {a : Tr} (h : a ∈ l) : sizeT a ≤ sizeL l := by
  induction l with
  | nil => simp at h
  | cons x r ih =>
    rw [sizeL]
    rcases List.mem_cons.1 h with rfl | h
    · omega
    · have := ih h; omega
theorem mem_sizeOf {l : List Tr} {a : Tr} (h : a ∈ l) : SizeOf.sizeOf a < SizeOf.sizeOf l := List.sizeOf_lt_of_mem h
theorem shaped_same (N : Nat) : ∀ t : Tr, SizeOf.sizeOf t ≤ N → sizeT t ≤ 1000 → shapedR t = shapedT t := by
  induction N with
  | zero => intro t h; have := tr_pos t; omega
  | succ N ih =>
    intro t hN hs
    have hkl := kids_le_size t.kids
    have hsz := sizeT_eq t
    rw [shapedR_eq, shapedT_eq, ← free_leads t.kind t.kids.length (by omega)]
    cases hf : (freeP (partsP t.kind) t.kids.length).2
    · rfl
    · rw [shapedRL_eq t.kind t.kids.length t.kids 0 _ (fun a ha => ih a (by
        have h1 := mem_sizeOf ha
        cases t with
        | mk k x ls ks =>
          simp at hN
          have : SizeOf.sizeOf (Tr.mk k x ls ks).kids = SizeOf.sizeOf ks := rfl
          omega) (by have := mem_size ha; omega)) (fun j hj => by rw [Nat.zero_add]; exact sorts_kid t.kind t.kids.length (by omega) hf j hj)]
mutual
theorem within_depth : (t : Tr) → (n : Nat) → withinT t n = decide (depthT t ≤ n)
  | t, 0 => by
    rw [show withinT t 0 = false from by cases t; rw [withinT], decide_eq_false]
    rw [depthT_eq]
    omega
  | .mk k x ls ks, n + 1 => by
    rw [withinT, depthT, withinL_depth ks n]
    by_cases h : depthL ks ≤ n
    · rw [decide_eq_true h, decide_eq_true (by omega)]
    · rw [decide_eq_false h, decide_eq_false (by omega)]
theorem withinL_depth : (l : List Tr) → (n : Nat) → withinL l n = decide (depthL l ≤ n)
  | [], n => by rw [withinL, depthL]; simp
  | t :: r, n => by
    rw [withinL, depthL, within_depth t n, withinL_depth r n]
    by_cases h1 : depthT t ≤ n
    · by_cases h2 : depthL r ≤ n
      · rw [decide_eq_true h1, decide_eq_true h2, decide_eq_true (p := max (depthT t) (depthL r) ≤ n) (by omega)]; rfl
      · rw [decide_eq_true h1, decide_eq_false h2, decide_eq_false (p := max (depthT t) (depthL r) ≤ n) (by omega)]; rfl
    · rw [decide_eq_false h1, decide_eq_false (p := max (depthT t) (depthL r) ≤ n) (by omega), Bool.false_and]
end
/-- No list is too long, as the reference says it. -/
def longR (k : Int) (n : Nat) : Bool := (k == 1 && decide (40 < n)) || (k == 2 && decide (10 < n)) || (k == 16 && decide (8 < n)) || (k == 18 && decide (16 < n))
theorem most_long (k : Int) (n : Nat) : mostP (partsP k) (freeP (partsP k) n).1 = !longR k n := by
  by_cases h0 : k ≤ 0 ∨ 23 ≤ k
  · rw [partsP_none h0]
    unfold longR
    rw [show (k == 1) = false from beqF (by omega), show (k == 2) = false from beqF (by omega), show (k == 16) = false from beqF (by omega), show (k == 18) = false from beqF (by omega)]
    rfl
  · rcases kid_cases h0 with rfl | rfl | rfl | rfl | rfl | rfl | rfl | rfl | rfl | rfl | rfl | rfl | rfl | rfl | rfl | rfl | rfl | rfl | rfl | rfl | rfl | rfl
    · rw [free_one (o := 0) (by decide) rfl]
      by_cases h : 40 < n
      · simp [partsP, mostP, countP, wordP, nameP, manyP, longR, h]; omega
      · simp [partsP, mostP, countP, wordP, nameP, manyP, longR, h]; omega
    · rw [free_one (o := 2) (by decide) rfl]
      by_cases h : 10 < n
      · simp [partsP, mostP, countP, wordP, nameP, manyP, oneP, longR, h]; omega
      · simp [partsP, mostP, countP, wordP, nameP, manyP, oneP, longR, h]; omega
    · rfl
    · rfl
    · rfl
    · rfl
    · rfl
    · rfl
    · rfl
    · rfl
    · rfl
    · rfl
    · rfl
    · rfl
    · rfl
    · rw [free_one (o := 0) (by decide) rfl]
      by_cases h : 8 < n
      · simp [partsP, mostP, countP, wordP, nameP, manyP, longR, h]; omega
      · simp [partsP, mostP, countP, wordP, nameP, manyP, longR, h]; omega
    · rfl
    · rw [free_one (o := 0) (by decide) rfl]
      by_cases h : 16 < n
      · simp [partsP, mostP, countP, wordP, manyP, longR, h]; omega
      · simp [partsP, mostP, countP, wordP, manyP, longR, h]; omega
    · rfl
    · rfl
    · rfl
    · rfl
theorem limT_long (t : Tr) : limT t = (!longR t.kind t.kids.length && limL t.kids) := by rw [limT_eq, most_long]
end Go.Proofs.YtpdmklbfbpdneaaGreat
namespace Go.Proofs.YtpdmklbfbpdneaaGreat
open Go.RowKit
def ldR (ls : List ByteArray) (i : Nat) : ByteArray := (ls[i]?).getD ⟨#[]⟩
theorem piecesAt_false (cs : List ByteArray) : ∀ (l : List (List Piece)) (i : Nat), piecesAt false cs i l = l.flatten
  | [], i => by rw [piecesAt]; rfl
  | p :: r, i => by rw [piecesAt, piecesAt_false cs r (i + 1), if_neg (by simp)]; rfl
theorem piecesAt_snoc (co : Bool) (cs : List ByteArray) (p : List Piece) : ∀ (l : List (List Piece)) (i : Nat), piecesAt co cs i (l ++ [p]) = piecesAt co cs i l ++ ((if 0 < i + l.length ∧ co = true then [(ldR cs (i + l.length - 1), ⟨#[44]⟩)] else []) ++ p)
  | [], i => by rw [List.nil_append, piecesAt, piecesAt, piecesAt, List.append_nil, List.nil_append, List.length_nil, Nat.add_zero]; rfl
  | a :: r, i => by rw [List.cons_append, piecesAt, piecesAt, piecesAt_snoc co cs p r (i + 1), List.length_cons, show i + 1 + r.length = i + (r.length + 1) from by omega]; simp only [List.append_assoc]
/-- A list of kids with commas between. -/
def rowP (ls : List ByteArray) (comma : Nat) (ks : List Tr) : List Piece := piecesAt true (ls.drop comma) 0 (ks.map pieces)
theorem rowP_nil (ls : List ByteArray) (comma : Nat) : rowP ls comma [] = [] := by unfold rowP; rw [List.map_nil, piecesAt]
theorem ldR_drop (ls : List ByteArray) (c i : Nat) : ldR (ls.drop c) i = ldR ls (c + i) := by unfold ldR; rw [List.getElem?_drop]
theorem rowP_snoc (ls : List ByteArray) (comma : Nat) (ks : List Tr) (k : Tr) : rowP ls comma (ks ++ [k]) = rowP ls comma ks ++ ((if 0 < ks.length then [(ldR ls (comma + ks.length - 1), ⟨#[44]⟩)] else []) ++ pieces k) := by
  unfold rowP
  rw [List.map_append, List.map_cons, List.map_nil, piecesAt_snoc, List.length_map, Nat.zero_add, ldR_drop]
  by_cases h : 0 < ks.length
  · rw [if_pos ⟨h, rfl⟩, if_pos h, show comma + (ks.length - 1) = comma + ks.length - 1 from by omega]
  · rw [if_neg (fun e => h e.1), if_neg h]
section
variable (x : ByteArray) (ls : List ByteArray)
theorem pieces_1 (ks : List Tr) : pieces (.mk 1 x ls ks) = [(ldR ls 0, ⟨#[109, 111, 100, 117, 108, 101]⟩), (ldR ls 1, x)] ++ ((ks.map pieces).flatten ++ [(ldR ls 2, ⟨#[]⟩)]) := by
  rw [pieces_eq]
  show piecesN (freeP (partsP 1) ks.length).1 x (ls.drop (tokensP (partsP 1))) (partsP 1) ls (ks.map pieces) = _
  rw [free_one (o := 0) (by decide) rfl]
  have ht : List.take ks.length (ks.map pieces) = ks.map pieces := List.take_of_length_le (by simp)
  simp [partsP, piecesN, countP, wordP, nameP, manyP, piecesAt_false, ldR, ht]
theorem pieces_2 (ps : List Tr) (a b : Tr) : pieces (.mk 2 x ls (ps ++ [a, b])) = [(ldR ls 0, ⟨#[100, 101, 102]⟩), (ldR ls 1, x), (ldR ls 2, ⟨#[40]⟩)] ++ (rowP ls 6 ps ++ ([(ldR ls 3, ⟨#[41]⟩), (ldR ls 4, ⟨#[58]⟩)] ++ (pieces a ++ ([(ldR ls 5, ⟨#[61]⟩)] ++ pieces b)))) := by
  rw [pieces_eq]
  show piecesN (freeP (partsP 2) (ps ++ [a, b]).length).1 x (ls.drop (tokensP (partsP 2))) (partsP 2) ls ((ps ++ [a, b]).map pieces) = _
  rw [free_one (o := 2) (by decide) rfl]
  have hn : (((ps ++ [a, b]).length : Nat) : Int) - 2 = (ps.length : Int) := by simp
  rw [hn]
  have h1 : List.take ps.length (ps.map pieces ++ [pieces a, pieces b]) = ps.map pieces := by rw [List.take_append_of_le_length (by simp), List.take_of_length_le (by simp)]
  have h2 : List.drop ps.length (ps.map pieces ++ [pieces a, pieces b]) = [pieces a, pieces b] := by rw [List.drop_append_of_le_length (by simp), List.drop_of_length_le (by simp)]; rfl
  simp [partsP, piecesN, countP, wordP, nameP, manyP, oneP, tokensP, piecesAt, ldR, h1, h2, rowP]
theorem pieces_3 (a : Tr) : pieces (.mk 3 x ls [a]) = [(ldR ls 0, ⟨#[116, 121, 112, 101]⟩), (ldR ls 1, x), (ldR ls 2, ⟨#[61]⟩)] ++ pieces a := by
  rw [pieces_eq]
  show piecesN (freeP (partsP 3) 1).1 x (ls.drop (tokensP (partsP 3))) (partsP 3) ls [pieces a] = _
  simp [partsP, piecesN, countP, wordP, nameP, oneP, piecesAt, ldR]
theorem pieces_4 (a : Tr) : pieces (.mk 4 x ls [a]) = [(ldR ls 0, x), (ldR ls 1, ⟨#[58]⟩)] ++ pieces a := by
  rw [pieces_eq]
  show piecesN (freeP (partsP 4) 1).1 x (ls.drop (tokensP (partsP 4))) (partsP 4) ls [pieces a] = _
  simp [partsP, piecesN, countP, wordP, nameP, oneP, piecesAt, ldR]
theorem pieces_8 (a : Tr) : pieces (.mk 8 x ls [a]) = [(ldR ls 0, ⟨#[91]⟩)] ++ (pieces a ++ [(ldR ls 1, ⟨#[93]⟩)]) := by
  rw [pieces_eq]
  show piecesN (freeP (partsP 8) 1).1 x (ls.drop (tokensP (partsP 8))) (partsP 8) ls [pieces a] = _
  simp [partsP, piecesN, countP, wordP, oneP, piecesAt, ldR]
theorem pieces_16 (ks : List Tr) : pieces (.mk 16 x ls ks) = [(ldR ls 0, x), (ldR ls 1, ⟨#[40]⟩)] ++ (rowP ls 3 ks ++ [(ldR ls 2, ⟨#[41]⟩)]) := by
  rw [pieces_eq]
  show piecesN (freeP (partsP 16) ks.length).1 x (ls.drop (tokensP (partsP 16))) (partsP 16) ls (ks.map pieces) = _
  rw [free_one (o := 0) (by decide) rfl]
  have ht : List.take ks.length (ks.map pieces) = ks.map pieces := List.take_of_length_le (by simp)
  simp [partsP, piecesN, countP, wordP, nameP, manyP, tokensP, ldR, ht, rowP]
theorem pieces_17 (a : Tr) : pieces (.mk 17 x ls [a]) = pieces a := by
  rw [pieces_eq]
  show piecesN (freeP (partsP 17) 1).1 x (ls.drop (tokensP (partsP 17))) (partsP 17) ls [pieces a] = _
  simp [partsP, piecesN, countP, oneP, piecesAt]
theorem pieces_18 (ks : List Tr) : pieces (.mk 18 x ls ks) = [(ldR ls 0, ⟨#[91]⟩)] ++ (rowP ls 2 ks ++ [(ldR ls 1, ⟨#[93]⟩)]) := by
  rw [pieces_eq]
  show piecesN (freeP (partsP 18) ks.length).1 x (ls.drop (tokensP (partsP 18))) (partsP 18) ls (ks.map pieces) = _
  rw [free_one (o := 0) (by decide) rfl]
  have ht : List.take ks.length (ks.map pieces) = ks.map pieces := List.take_of_length_le (by simp)
  simp [partsP, piecesN, countP, wordP, manyP, tokensP, ldR, ht, rowP]
theorem pieces_19 (a b c : Tr) : pieces (.mk 19 x ls [a, b, c]) = [(ldR ls 0, ⟨#[105, 102]⟩)] ++ (pieces a ++ ([(ldR ls 1, ⟨#[116, 104, 101, 110]⟩)] ++ (pieces b ++ ([(ldR ls 2, ⟨#[101, 108, 115, 101]⟩)] ++ pieces c)))) := by
  rw [pieces_eq]
  show piecesN (freeP (partsP 19) 3).1 x (ls.drop (tokensP (partsP 19))) (partsP 19) ls [pieces a, pieces b, pieces c] = _
  simp [partsP, piecesN, countP, wordP, oneP, piecesAt, ldR]
theorem pieces_20 (a b : Tr) : pieces (.mk 20 x ls [a, b]) = [(ldR ls 0, ⟨#[108, 101, 116]⟩), (ldR ls 1, x), (ldR ls 2, ⟨#[61]⟩)] ++ (pieces a ++ ([(ldR ls 3, ⟨#[105, 110]⟩)] ++ pieces b)) := by
  rw [pieces_eq]
  show piecesN (freeP (partsP 20) 2).1 x (ls.drop (tokensP (partsP 20))) (partsP 20) ls [pieces a, pieces b] = _
  simp [partsP, piecesN, countP, wordP, nameP, oneP, piecesAt, ldR]
theorem pieces_21 (a b : Tr) : pieces (.mk 21 x ls [a, b]) = pieces a ++ ([(ldR ls 0, x)] ++ pieces b) := by
  rw [pieces_eq]
  show piecesN (freeP (partsP 21) 2).1 x (ls.drop (tokensP (partsP 21))) (partsP 21) ls [pieces a, pieces b] = _
  simp [partsP, piecesN, countP, nameP, oneP, piecesAt, ldR]
theorem pieces_22 (a : Tr) : pieces (.mk 22 x ls [a]) = [(ldR ls 0, ⟨#[40]⟩)] ++ (pieces a ++ [(ldR ls 1, ⟨#[41]⟩)]) := by
  rw [pieces_eq]
  show piecesN (freeP (partsP 22) 1).1 x (ls.drop (tokensP (partsP 22))) (partsP 22) ls [pieces a] = _
  simp [partsP, piecesN, countP, wordP, oneP, piecesAt, ldR]
/-- The words of the kinds that have no kids and no text. -/
def leafW (k : Int) : Option ByteArray :=
  if k = 5 then some ⟨#[73, 110, 116]⟩ else if k = 6 then some ⟨#[84, 101, 120, 116]⟩ else if k = 7 then some ⟨#[66, 111, 111, 108]⟩
  else if k = 13 then some ⟨#[116, 114, 117, 101]⟩ else if k = 14 then some ⟨#[102, 97, 108, 115, 101]⟩ else if k = 15 then some ⟨#[63]⟩ else none
theorem pieces_leaf (k : Int) (y : ByteArray) (h : leafW k = some y) : pieces (.mk k x ls []) = [(ldR ls 0, y)] := by
  have : k = 5 ∨ k = 6 ∨ k = 7 ∨ k = 13 ∨ k = 14 ∨ k = 15 := by
    unfold leafW at h
    repeat' split at h
    all_goals first | omega | simp at h
  rcases this with rfl | rfl | rfl | rfl | rfl | rfl <;> (cases h; rw [pieces_eq]; simp [Tr.kind, Tr.text, Tr.leads, Tr.kids, partsP, piecesN, wordP, ldR])
theorem pieces_name (k : Int) (h : k = 9 ∨ k = 10 ∨ k = 11 ∨ k = 12) : pieces (.mk k x ls []) = [(ldR ls 0, x)] := by
  rcases h with rfl | rfl | rfl | rfl <;> (rw [pieces_eq]; simp [Tr.kind, Tr.text, Tr.leads, Tr.kids, partsP, piecesN, nameP, ldR])
end
end Go.Proofs.YtpdmklbfbpdneaaGreat
