/- The contract of the reference's Same. Condition: lists that a machine can hold. -/
import Derived.Test.YtojekhbebcdccaaTreSame
import Derived.StillTailTactics
namespace Go.Proofs.Ytojekhbebcdccaa
open Go.RowKit Go.Shelf
set_option maxRecDepth 100000 in
set_option maxHeartbeats 2000000 in
theorem rsame_k {N : Nat} (ih : SameC 20 N) (S S' : Nat → Prop) (a b : Tr) (u v : TV) (w : World) (hN : SizeOf.sizeOf a ≤ N + 1) (ha : TrAt S w a u) (hb : TrAt S' w b v) (hs : smallT a = true) (hq : (u.kind == v.kind) = false) :
    Calls Try.prog 20 #[.agg #[.int .i64 u.kind, .string u.text, .slice u.la u.ll u.lc, .slice u.ka u.kl u.kc], .agg #[.int .i64 v.kind, .string v.text, .slice v.la v.ll v.lc, .slice v.ka v.kl v.kc]] w fun e w' => e = .returned (.bool (sameT a b)) ∧ Below w.heap.size w w' := by
    have HIH := Lib.hid ih
    have HXQ := Lib.hid hq
    obtain ⟨ua, ub, uk, ux⟩ := ha.kl
    obtain ⟨va, vb, vk, vx⟩ := hb.kl
    have hba : Below w.heap.size w ((w.alloc (trO u)).alloc (trO v)) := ((Below.refl _ _).alloc (Nat.le_refl _) _).alloc (by rw [World.size_alloc]; omega) _
    have HBA := Lib.hid hba
    have HTA := Lib.hid (ha.keep hba)
    have HTB := Lib.hid (hb.keep hba)
    have hX : ((w.alloc (trO u)).alloc (trO v)).heap[w.heap.size]? = some (trO u) := (((Below.refl (w.alloc (trO u)).heap.size (w.alloc (trO u))).alloc (Nat.le_refl _) (trO v)).block w.heap.size (by simp)).trans (heap_alloc_new w (trO u))
    have hY : ((w.alloc (trO u)).alloc (trO v)).heap[w.heap.size + 1]? = some (trO v) := by rw [← World.size_alloc w (trO u)]; exact heap_alloc_new _ _
    have HX := Lib.hid hX
    have HY := Lib.hid hY
    obtain ⟨hl1, hl2, hl3⟩ := smallT_kids hs
    have HL1 := Lib.hid hl1
    have HL2 := Lib.hid hl2
    have HNK := Lib.hid (show ∀ k ∈ a.kids, SizeOf.sizeOf k ≤ N ∧ smallT k = true from fun k hk => by
      obtain ⟨j, hj⟩ := List.getElem?_of_mem hk
      exact ⟨by have := kid_sizeOf hj; omega, hl3 j k hj⟩)
    have HE := Lib.hid (sameT_eq a b)
    rw [← uk, ← vk, ← ux, ← vx] at HE
    clear HXQ
    obtain ⟨uk', ux', ula, ull, ulc, uka, ukl, ukc⟩ := u
    obtain ⟨vk', vx', vla, vll, vlc, vka, vkl, vkc⟩ := v
    simp only at ua ub va vb HE
    subst ua ub va vb
    have a0 := cells_of hX 0 _ rfl
    have a1 := cells_of hX 1 _ rfl
    have a2 := cells_of hX 2 _ rfl
    have a3 := cells_of hX 3 _ rfl
    have b0 := cells_of hY 0 _ rfl
    have b1 := cells_of hY 1 _ rfl
    have b2 := cells_of hY 2 _ rfl
    have b3 := cells_of hY 3 _ rfl
    clear ha hb hs hba hX hY hl1 hl2 hl3 ih uk vk ux vx hN
    simp only at hq
    have hk := hq
    have hk' : (uk' != vk') = true := by simp [bne, hk]
    have HR := Lib.hid (show sameT a b = false from by rw [HE.out, hk]; rfl)
    go_enter Try.func20, Try.ntmps20
    go_wp2
    go_ret
    exact ⟨by rw [HR.out]; rfl, HBA.out⟩
set_option maxRecDepth 100000 in
set_option maxHeartbeats 2000000 in
theorem rsame_x {N : Nat} (ih : SameC 20 N) (S S' : Nat → Prop) (a b : Tr) (u v : TV) (w : World) (hN : SizeOf.sizeOf a ≤ N + 1) (ha : TrAt S w a u) (hb : TrAt S' w b v) (hs : smallT a = true) (hq : (u.kind == v.kind) = true ∧ (u.text.toList == v.text.toList) = false) :
    Calls Try.prog 20 #[.agg #[.int .i64 u.kind, .string u.text, .slice u.la u.ll u.lc, .slice u.ka u.kl u.kc], .agg #[.int .i64 v.kind, .string v.text, .slice v.la v.ll v.lc, .slice v.ka v.kl v.kc]] w fun e w' => e = .returned (.bool (sameT a b)) ∧ Below w.heap.size w w' := by
    have HIH := Lib.hid ih
    have HXQ := Lib.hid hq
    obtain ⟨ua, ub, uk, ux⟩ := ha.kl
    obtain ⟨va, vb, vk, vx⟩ := hb.kl
    have hba : Below w.heap.size w ((w.alloc (trO u)).alloc (trO v)) := ((Below.refl _ _).alloc (Nat.le_refl _) _).alloc (by rw [World.size_alloc]; omega) _
    have HBA := Lib.hid hba
    have HTA := Lib.hid (ha.keep hba)
    have HTB := Lib.hid (hb.keep hba)
    have hX : ((w.alloc (trO u)).alloc (trO v)).heap[w.heap.size]? = some (trO u) := (((Below.refl (w.alloc (trO u)).heap.size (w.alloc (trO u))).alloc (Nat.le_refl _) (trO v)).block w.heap.size (by simp)).trans (heap_alloc_new w (trO u))
    have hY : ((w.alloc (trO u)).alloc (trO v)).heap[w.heap.size + 1]? = some (trO v) := by rw [← World.size_alloc w (trO u)]; exact heap_alloc_new _ _
    have HX := Lib.hid hX
    have HY := Lib.hid hY
    obtain ⟨hl1, hl2, hl3⟩ := smallT_kids hs
    have HL1 := Lib.hid hl1
    have HL2 := Lib.hid hl2
    have HNK := Lib.hid (show ∀ k ∈ a.kids, SizeOf.sizeOf k ≤ N ∧ smallT k = true from fun k hk => by
      obtain ⟨j, hj⟩ := List.getElem?_of_mem hk
      exact ⟨by have := kid_sizeOf hj; omega, hl3 j k hj⟩)
    have HE := Lib.hid (sameT_eq a b)
    rw [← uk, ← vk, ← ux, ← vx] at HE
    clear HXQ
    obtain ⟨uk', ux', ula, ull, ulc, uka, ukl, ukc⟩ := u
    obtain ⟨vk', vx', vla, vll, vlc, vka, vkl, vkc⟩ := v
    simp only at ua ub va vb HE
    subst ua ub va vb
    have a0 := cells_of hX 0 _ rfl
    have a1 := cells_of hX 1 _ rfl
    have a2 := cells_of hX 2 _ rfl
    have a3 := cells_of hX 3 _ rfl
    have b0 := cells_of hY 0 _ rfl
    have b1 := cells_of hY 1 _ rfl
    have b2 := cells_of hY 2 _ rfl
    have b3 := cells_of hY 3 _ rfl
    clear ha hb hs hba hX hY hl1 hl2 hl3 ih uk vk ux vx hN
    simp only at hq
    obtain ⟨hk, hx⟩ := hq
    have hk' : (uk' != vk') = false := by simp [bne, hk]
    have HR := Lib.hid (show sameT a b = false from by rw [HE.out, hx, Bool.and_false]; rfl)
    go_enter Try.func20, Try.ntmps20
    go_wp2
    go_ret
    exact ⟨by rw [HR.out]; rfl, HBA.out⟩
set_option maxRecDepth 100000 in
set_option maxHeartbeats 2000000 in
theorem rsame_t {N : Nat} (ih : SameC 20 N) (S S' : Nat → Prop) (a b : Tr) (u v : TV) (w : World) (hN : SizeOf.sizeOf a ≤ N + 1) (ha : TrAt S w a u) (hb : TrAt S' w b v) (hs : smallT a = true) (hq : (u.kind == v.kind) = true ∧ (u.text.toList == v.text.toList) = true ∧ textsEq a.leads b.leads = false) :
    Calls Try.prog 20 #[.agg #[.int .i64 u.kind, .string u.text, .slice u.la u.ll u.lc, .slice u.ka u.kl u.kc], .agg #[.int .i64 v.kind, .string v.text, .slice v.la v.ll v.lc, .slice v.ka v.kl v.kc]] w fun e w' => e = .returned (.bool (sameT a b)) ∧ Below w.heap.size w w' := by
    have HIH := Lib.hid ih
    have HXQ := Lib.hid hq
    obtain ⟨ua, ub, uk, ux⟩ := ha.kl
    obtain ⟨va, vb, vk, vx⟩ := hb.kl
    have hba : Below w.heap.size w ((w.alloc (trO u)).alloc (trO v)) := ((Below.refl _ _).alloc (Nat.le_refl _) _).alloc (by rw [World.size_alloc]; omega) _
    have HBA := Lib.hid hba
    have HTA := Lib.hid (ha.keep hba)
    have HTB := Lib.hid (hb.keep hba)
    have hX : ((w.alloc (trO u)).alloc (trO v)).heap[w.heap.size]? = some (trO u) := (((Below.refl (w.alloc (trO u)).heap.size (w.alloc (trO u))).alloc (Nat.le_refl _) (trO v)).block w.heap.size (by simp)).trans (heap_alloc_new w (trO u))
    have hY : ((w.alloc (trO u)).alloc (trO v)).heap[w.heap.size + 1]? = some (trO v) := by rw [← World.size_alloc w (trO u)]; exact heap_alloc_new _ _
    have HX := Lib.hid hX
    have HY := Lib.hid hY
    obtain ⟨hl1, hl2, hl3⟩ := smallT_kids hs
    have HL1 := Lib.hid hl1
    have HL2 := Lib.hid hl2
    have HNK := Lib.hid (show ∀ k ∈ a.kids, SizeOf.sizeOf k ≤ N ∧ smallT k = true from fun k hk => by
      obtain ⟨j, hj⟩ := List.getElem?_of_mem hk
      exact ⟨by have := kid_sizeOf hj; omega, hl3 j k hj⟩)
    have HE := Lib.hid (sameT_eq a b)
    rw [← uk, ← vk, ← ux, ← vx] at HE
    clear HXQ
    obtain ⟨uk', ux', ula, ull, ulc, uka, ukl, ukc⟩ := u
    obtain ⟨vk', vx', vla, vll, vlc, vka, vkl, vkc⟩ := v
    simp only at ua ub va vb HE
    subst ua ub va vb
    have a0 := cells_of hX 0 _ rfl
    have a1 := cells_of hX 1 _ rfl
    have a2 := cells_of hX 2 _ rfl
    have a3 := cells_of hX 3 _ rfl
    have b0 := cells_of hY 0 _ rfl
    have b1 := cells_of hY 1 _ rfl
    have b2 := cells_of hY 2 _ rfl
    have b3 := cells_of hY 3 _ rfl
    clear ha hb hs hba hX hY hl1 hl2 hl3 ih uk vk ux vx hN
    simp only at hq
    obtain ⟨hk, hx, ht⟩ := hq
    have hk' : (uk' != vk') = false := by simp [bne, hk]
    have HR := Lib.hid (show sameT a b = false from by rw [HE.out, ht, Bool.and_false]; rfl)
    go_enter Try.func20, Try.ntmps20
    go_wp2_with (go_at_call 36; refine (rtexts_any _ _ _ _ _ _ _ _ _ HTA.out.strsIn HTB.out.strsIn HL1.out).mono ?_; rw [ht]; rintro e w2 ⟨rfl, hb2⟩; have HB2 := Lib.hid (HBA.out.trans (hb2.mono HBA.out.size)); clear hb2)
    go_ret
    exact ⟨by rw [HR.out]; rfl, HB2.out⟩
set_option maxRecDepth 100000 in
set_option maxHeartbeats 2000000 in
theorem rsame_l {N : Nat} (ih : SameC 20 N) (S S' : Nat → Prop) (a b : Tr) (u v : TV) (w : World) (hN : SizeOf.sizeOf a ≤ N + 1) (ha : TrAt S w a u) (hb : TrAt S' w b v) (hs : smallT a = true) (hq : (u.kind == v.kind) = true ∧ (u.text.toList == v.text.toList) = true ∧ textsEq a.leads b.leads = true ∧ a.kids.length ≠ b.kids.length) :
    Calls Try.prog 20 #[.agg #[.int .i64 u.kind, .string u.text, .slice u.la u.ll u.lc, .slice u.ka u.kl u.kc], .agg #[.int .i64 v.kind, .string v.text, .slice v.la v.ll v.lc, .slice v.ka v.kl v.kc]] w fun e w' => e = .returned (.bool (sameT a b)) ∧ Below w.heap.size w w' := by
    have HIH := Lib.hid ih
    have HXQ := Lib.hid hq
    obtain ⟨ua, ub, uk, ux⟩ := ha.kl
    obtain ⟨va, vb, vk, vx⟩ := hb.kl
    have hba : Below w.heap.size w ((w.alloc (trO u)).alloc (trO v)) := ((Below.refl _ _).alloc (Nat.le_refl _) _).alloc (by rw [World.size_alloc]; omega) _
    have HBA := Lib.hid hba
    have HTA := Lib.hid (ha.keep hba)
    have HTB := Lib.hid (hb.keep hba)
    have hX : ((w.alloc (trO u)).alloc (trO v)).heap[w.heap.size]? = some (trO u) := (((Below.refl (w.alloc (trO u)).heap.size (w.alloc (trO u))).alloc (Nat.le_refl _) (trO v)).block w.heap.size (by simp)).trans (heap_alloc_new w (trO u))
    have hY : ((w.alloc (trO u)).alloc (trO v)).heap[w.heap.size + 1]? = some (trO v) := by rw [← World.size_alloc w (trO u)]; exact heap_alloc_new _ _
    have HX := Lib.hid hX
    have HY := Lib.hid hY
    obtain ⟨hl1, hl2, hl3⟩ := smallT_kids hs
    have HL1 := Lib.hid hl1
    have HL2 := Lib.hid hl2
    have HNK := Lib.hid (show ∀ k ∈ a.kids, SizeOf.sizeOf k ≤ N ∧ smallT k = true from fun k hk => by
      obtain ⟨j, hj⟩ := List.getElem?_of_mem hk
      exact ⟨by have := kid_sizeOf hj; omega, hl3 j k hj⟩)
    have HE := Lib.hid (sameT_eq a b)
    rw [← uk, ← vk, ← ux, ← vx] at HE
    clear HXQ
    obtain ⟨uk', ux', ula, ull, ulc, uka, ukl, ukc⟩ := u
    obtain ⟨vk', vx', vla, vll, vlc, vka, vkl, vkc⟩ := v
    simp only at ua ub va vb HE
    subst ua ub va vb
    have a0 := cells_of hX 0 _ rfl
    have a1 := cells_of hX 1 _ rfl
    have a2 := cells_of hX 2 _ rfl
    have a3 := cells_of hX 3 _ rfl
    have b0 := cells_of hY 0 _ rfl
    have b1 := cells_of hY 1 _ rfl
    have b2 := cells_of hY 2 _ rfl
    have b3 := cells_of hY 3 _ rfl
    clear ha hb hs hba hX hY hl1 hl2 hl3 ih uk vk ux vx hN
    simp only at hq
    obtain ⟨hk, hx, ht, hl⟩ := hq
    have hk' : (uk' != vk') = false := by simp [bne, hk]
    have HRR := Lib.hid (show sameT a b = sameL a.kids b.kids from by rw [HE.out, hk, hx, ht]; rfl)
    have hne : ((a.kids.length : Int) != (b.kids.length : Int)) = true := by simp; omega
    have HR := Lib.hid (sameL_len a.kids b.kids hl)
    go_enter Try.func20, Try.ntmps20
    go_wp2_with (go_at_call 36; refine (rtexts_any _ _ _ _ _ _ _ _ _ HTA.out.strsIn HTB.out.strsIn HL1.out).mono ?_; rw [ht]; rintro e w2 ⟨rfl, hb2⟩; have HB2 := Lib.hid (HBA.out.trans (hb2.mono HBA.out.size)); have HX2 := Lib.hid ((hb2.block w.heap.size (lt_of_heap HX.out)).trans HX.out); have HY2 := Lib.hid ((hb2.block (w.heap.size + 1) (lt_of_heap HY.out)).trans HY.out); clear hb2 a0 a1 a2 a3 b0 b1 b2 b3; have a3 := cells_of HX2.out 3 _ rfl; have b3 := cells_of HY2.out 3 _ rfl; have alt := lt_of_heap HX2.out; have blt := lt_of_heap HY2.out)
    go_ret
    exact ⟨by rw [HRR.out, HR.out]; rfl, HB2.out⟩
set_option maxRecDepth 100000 in
set_option maxHeartbeats 2000000 in
theorem rsame_r {N : Nat} (ih : SameC 20 N) (S S' : Nat → Prop) (a b : Tr) (u v : TV) (w : World) (hN : SizeOf.sizeOf a ≤ N + 1) (ha : TrAt S w a u) (hb : TrAt S' w b v) (hs : smallT a = true) (hq : (u.kind == v.kind) = true ∧ (u.text.toList == v.text.toList) = true ∧ textsEq a.leads b.leads = true ∧ a.kids.length = b.kids.length) :
    Calls Try.prog 20 #[.agg #[.int .i64 u.kind, .string u.text, .slice u.la u.ll u.lc, .slice u.ka u.kl u.kc], .agg #[.int .i64 v.kind, .string v.text, .slice v.la v.ll v.lc, .slice v.ka v.kl v.kc]] w fun e w' => e = .returned (.bool (sameT a b)) ∧ Below w.heap.size w w' := by
    have HIH := Lib.hid ih
    have HXQ := Lib.hid hq
    obtain ⟨ua, ub, uk, ux⟩ := ha.kl
    obtain ⟨va, vb, vk, vx⟩ := hb.kl
    have hba : Below w.heap.size w ((w.alloc (trO u)).alloc (trO v)) := ((Below.refl _ _).alloc (Nat.le_refl _) _).alloc (by rw [World.size_alloc]; omega) _
    have HBA := Lib.hid hba
    have HTA := Lib.hid (ha.keep hba)
    have HTB := Lib.hid (hb.keep hba)
    have hX : ((w.alloc (trO u)).alloc (trO v)).heap[w.heap.size]? = some (trO u) := (((Below.refl (w.alloc (trO u)).heap.size (w.alloc (trO u))).alloc (Nat.le_refl _) (trO v)).block w.heap.size (by simp)).trans (heap_alloc_new w (trO u))
    have hY : ((w.alloc (trO u)).alloc (trO v)).heap[w.heap.size + 1]? = some (trO v) := by rw [← World.size_alloc w (trO u)]; exact heap_alloc_new _ _
    have HX := Lib.hid hX
    have HY := Lib.hid hY
    obtain ⟨hl1, hl2, hl3⟩ := smallT_kids hs
    have HL1 := Lib.hid hl1
    have HL2 := Lib.hid hl2
    have HNK := Lib.hid (show ∀ k ∈ a.kids, SizeOf.sizeOf k ≤ N ∧ smallT k = true from fun k hk => by
      obtain ⟨j, hj⟩ := List.getElem?_of_mem hk
      exact ⟨by have := kid_sizeOf hj; omega, hl3 j k hj⟩)
    have HE := Lib.hid (sameT_eq a b)
    rw [← uk, ← vk, ← ux, ← vx] at HE
    clear HXQ
    obtain ⟨uk', ux', ula, ull, ulc, uka, ukl, ukc⟩ := u
    obtain ⟨vk', vx', vla, vll, vlc, vka, vkl, vkc⟩ := v
    simp only at ua ub va vb HE
    subst ua ub va vb
    have a0 := cells_of hX 0 _ rfl
    have a1 := cells_of hX 1 _ rfl
    have a2 := cells_of hX 2 _ rfl
    have a3 := cells_of hX 3 _ rfl
    have b0 := cells_of hY 0 _ rfl
    have b1 := cells_of hY 1 _ rfl
    have b2 := cells_of hY 2 _ rfl
    have b3 := cells_of hY 3 _ rfl
    clear ha hb hs hba hX hY hl1 hl2 hl3 ih uk vk ux vx hN
    simp only at hq
    obtain ⟨hk, hx, ht, hl⟩ := hq
    have hk' : (uk' != vk') = false := by simp [bne, hk]
    have HRR := Lib.hid (show sameT a b = sameL a.kids b.kids from by rw [HE.out, hk, hx, ht]; rfl)
    have hne : ((a.kids.length : Int) != (b.kids.length : Int)) = false := by rw [hl]; simp
    have HLN := Lib.hid hl
    clear hl
    go_enter Try.func20, Try.ntmps20
    go_wp2_with fail
    go_at_call 36
    refine (rtexts_any _ _ _ _ _ _ _ _ _ HTA.out.strsIn HTB.out.strsIn HL1.out).mono ?_
    rw [ht]
    rintro e w2 ⟨rfl, hb2⟩
    have HB2 := Lib.hid (HBA.out.trans (hb2.mono HBA.out.size))
    have HTA2 := Lib.hid (HTA.out.keep hb2)
    have HTB2 := Lib.hid (HTB.out.keep hb2)
    have HX2 := Lib.hid ((hb2.block w.heap.size (lt_of_heap HX.out)).trans HX.out)
    have HY2 := Lib.hid ((hb2.block (w.heap.size + 1) (lt_of_heap HY.out)).trans HY.out)
    clear hb2 a0 a1 a2 a3 b0 b1 b2 b3
    have a3 := cells_of HX2.out 3 _ rfl
    have b3 := cells_of HY2.out 3 _ rfl
    have alt := lt_of_heap HX2.out
    have blt := lt_of_heap HY2.out
    go_wp2
    clear a3 b3 alt blt
    go_loopw [5] (fun i wr => EqAt a.kids b.kids w2 i wr) (fun i _ => a.kids.length - (intOf i).toNat)
    case atStart => exact ⟨0, rfl, Nat.zero_le _, rfl, Below.refl _ _⟩
    case round =>
      obtain ⟨j, rfl, hj, hf, hbr⟩ := hrel
      have HF := Lib.hid hf
      have HBR := Lib.hid hbr
      have hX3 := (hbr.block w.heap.size (lt_of_heap HX2.out)).trans HX2.out
      have hY3 := (hbr.block (w.heap.size + 1) (lt_of_heap HY2.out)).trans HY2.out
      have a3 := cells_of hX3 3 _ rfl
      have b3 := cells_of hY3 3 _ rfl
      have alt := lt_of_heap hX3
      have blt := lt_of_heap hY3
      clear hf hbr hX3 hY3
      by_cases hlt : j < a.kids.length
      · obtain ⟨x, hxj⟩ : ∃ x, a.kids[j]? = some x := ⟨_, List.getElem?_eq_getElem hlt⟩
        obtain ⟨y, hy⟩ : ∃ y, b.kids[j]? = some y := ⟨_, List.getElem?_eq_getElem (by have := HLN.out; omega)⟩
        obtain ⟨xb, xo, rfl, u, c0, c1, c2, c3, hu⟩ := (HTA2.out.keep HBR.out).kidsIn.at hxj
        obtain ⟨yb, yo, rfl, v, d0, d1, d2, d3, hv⟩ := (HTB2.out.keep HBR.out).kidsIn.at hy
        have cbl : xb < wr.heap.size := World.block_lt_of_cell? wr _ c3
        have dbl : yb < wr.heap.size := World.block_lt_of_cell? wr _ d3
        obtain ⟨hn1, hn2⟩ := HNK.out x (List.mem_of_getElem? hxj)
        have HN1 := Lib.hid hn1
        have HN2 := Lib.hid hn2
        have HU := Lib.hid hu
        have HV := Lib.hid hv
        have HD := Lib.hid (show sameL a.kids b.kids = (sameT x y && sameL (a.kids.drop (j + 1)) (b.kids.drop (j + 1))) from by rw [HF.out, drop_cons hxj, drop_cons hy, sameL_cons])
        have hjb : (j : Int) < (b.kids.length : Int) := by have := HLN.out; omega
        have hja : (j : Int) < (a.kids.length : Int) := by omega
        have hj0 : (0 : Int) ≤ (j : Int) := by omega
        have HW := Lib.hid (show wrap64 ((j : Int) + 1) = (j : Int) + 1 from by have := HL2.out; unfold wrap64; omega)
        clear hxj hy hu hv hn1 hn2 hk hx ht
        have HJ1 := Lib.hid (show j + 1 ≤ a.kids.length from by omega)
        cases hxy : sameT x y
        · have HR := Lib.hid (show sameL a.kids b.kids = false from by rw [HD.out, hxy, Bool.false_and])
          go_wp2_with fail
          go_still_tail 10, (by kernel_rfl)
          change wpList _ _ _ _ _ wr.drew
          have HBD := Lib.hid (show Below wr.heap.size wr wr.drew from (Below.refl _ _).drew)
          clear c0 c1 c2 c3 d0 d1 d2 d3 a3 b3 alt blt cbl dbl hja hjb hj0
          generalize wr.drew = wd at HBD ⊢
          repeat (first | go_values | go_skip | go_guarded | go_step | go_upon)
          go_at_call 20
          refine (HIH.out S S' x y u v _ HN1.out (HU.out.keep HBD.out) (HV.out.keep HBD.out) HN2.out).mono ?_
          rw [hxy]
          rintro e w4 ⟨rfl, hb4⟩
          have HB4 := Lib.hid (HBR.out.trans ((HBD.out.trans (hb4.mono HBD.out.size)).mono HBR.out.size))
          clear hb4
          dsimp only
          go_step
          go_step
          go_step
          go_step
          go_step
          go_step
          go_step
          go_wp2
          go_ret
          exact ⟨by rw [HRR.out, HR.out]; rfl, HB2.out.trans (HB4.out.mono HB2.out.size)⟩
        · have HR := Lib.hid (show sameL a.kids b.kids = sameL (a.kids.drop (j + 1)) (b.kids.drop (j + 1)) from by rw [HD.out, hxy, Bool.true_and])
          go_wp2_with fail
          go_still_tail 10, (by kernel_rfl)
          change wpList _ _ _ _ _ wr.drew
          have HBD := Lib.hid (show Below wr.heap.size wr wr.drew from (Below.refl _ _).drew)
          clear c0 c1 c2 c3 d0 d1 d2 d3 a3 b3 alt blt cbl dbl hja hjb hj0
          generalize wr.drew = wd at HBD ⊢
          repeat (first | go_values | go_skip | go_guarded | go_step | go_upon)
          go_at_call 20
          refine (HIH.out S S' x y u v _ HN1.out (HU.out.keep HBD.out) (HV.out.keep HBD.out) HN2.out).mono ?_
          rw [hxy]
          rintro e w4 ⟨rfl, hb4⟩
          have HB4 := Lib.hid (HBR.out.trans ((HBD.out.trans (hb4.mono HBD.out.size)).mono HBR.out.size))
          clear hb4
          dsimp only
          go_step
          go_step
          go_step
          go_step
          go_step
          go_step
          go_step
          have hj2 : (j : Int) + 1 ≤ 140737488355328 := by have := HL2.out; have := HJ1.out; omega
          go_wp2
          clear hj2
          go_roundw
          case measure => simp [intOf]; omega
          case rel => exact ⟨j + 1, by go_num, HJ1.out, HR.out, HB4.out⟩
      · have HR := Lib.hid (show sameL a.kids b.kids = true from by rw [HF.out, List.drop_eq_nil_of_le (by omega), List.drop_eq_nil_of_le (by have := HLN.out; omega), sameL_nil])
        go_wp2
        go_ret
        exact ⟨by rw [HRR.out, HR.out]; rfl, HB2.out.trans (HBR.out.mono HB2.out.size)⟩
theorem rsame_any (N : Nat) : SameC 20 N := by
  induction N with
  | zero => intro S S' a b u v w h; have := tr_pos a; omega
  | succ N ih =>
    intro S S' a b u v w hN ha hb hs
    cases hk : (u.kind == v.kind)
    · exact rsame_k ih S S' a b u v w hN ha hb hs hk
    · cases hx : (u.text.toList == v.text.toList)
      · exact rsame_x ih S S' a b u v w hN ha hb hs ⟨hk, hx⟩
      · cases ht : textsEq a.leads b.leads
        · exact rsame_t ih S S' a b u v w hN ha hb hs ⟨hk, hx, ht⟩
        · by_cases hl : a.kids.length = b.kids.length
          · exact rsame_r ih S S' a b u v w hN ha hb hs ⟨hk, hx, ht, hl⟩
          · exact rsame_l ih S S' a b u v w hN ha hb hs ⟨hk, hx, ht, hl⟩
end Go.Proofs.Ytojekhbebcdccaa
