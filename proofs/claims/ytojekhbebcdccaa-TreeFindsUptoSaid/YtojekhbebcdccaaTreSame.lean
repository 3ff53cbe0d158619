/- The contracts of Same and of all below it, the code's and the reference's. Condition: lists that a machine can hold. -/
import Derived.Test.YtojekhbebcdccaaTreNumber
namespace Go.Proofs.Ytojekhbebcdccaa
open Go.RowKit Go.Shelf
theorem mixed : Try.prog.follows Departure.mixedOrders = true := by kernel_rfl
def textsEq : List ByteArray → List ByteArray → Bool
  | [], [] => true
  | a :: r, b :: s => (a.toList == b.toList) && textsEq r s
  | _, _ => false
mutual
def sameT : Tr → Tr → Bool
  | .mk k x ls ks, .mk k' x' ls' ks' => (k == k') && (x.toList == x'.toList) && textsEq ls ls' && sameL ks ks'
def sameL : List Tr → List Tr → Bool
  | [], [] => true
  | a :: r, b :: s => sameT a b && sameL r s
  | _, _ => false
end
theorem sameT_eq (a b : Tr) : sameT a b = ((a.kind == b.kind) && (a.text.toList == b.text.toList) && textsEq a.leads b.leads && sameL a.kids b.kids) := by
  cases a; cases b; rw [sameT]; rfl
theorem textsEq_len : (a b : List ByteArray) → a.length ≠ b.length → textsEq a b = false
  | [], [], h => absurd rfl h
  | [], _ :: _, _ => rfl
  | _ :: _, [], _ => rfl
  | a :: r, b :: s, h => by
    unfold textsEq
    rw [textsEq_len r s (by simpa using h), Bool.and_false]
theorem sameL_len : (a b : List Tr) → a.length ≠ b.length → sameL a b = false
  | [], [], h => absurd rfl h
  | [], _ :: _, _ => by unfold sameL; rfl
  | _ :: _, [], _ => by unfold sameL; rfl
  | a :: r, b :: s, h => by
    rw [sameL, sameL_len r s (by simpa using h), Bool.and_false]
theorem textsEq_nil : textsEq [] [] = true := rfl
theorem sameL_nil : sameL [] [] = true := by rw [sameL]
theorem textsEq_cons (a b : ByteArray) (r s : List ByteArray) : textsEq (a :: r) (b :: s) = ((a.toList == b.toList) && textsEq r s) := rfl
theorem sameL_cons (a b : Tr) (r s : List Tr) : sameL (a :: r) (b :: s) = (sameT a b && sameL r s) := by rw [sameL]
/-- A slice of strings in memory. -/
theorem StrsAt.at {S : Nat → Prop} {w : World} {A : Option Addr} {l : List ByteArray} (h : StrsAt S w A l) {j : Nat} (hj : j < l.length) : ∃ b off, A = some ⟨b, off, none⟩ ∧ ∀ (i : Nat) (x : ByteArray), l[i]? = some x → w.cell? ⟨b, off + i, none⟩ = some (.string x) := by
  obtain ⟨b, off, hA, _, hc⟩ := h (fun e => by rw [e] at hj; simp at hj)
  exact ⟨b, off, hA, hc⟩
theorem StrsAt.keep {S : Nat → Prop} {w w' : World} {A : Option Addr} {l : List ByteArray} (h : StrsAt S w A l) (hb : Below w.heap.size w w') : StrsAt S w' A l := h.move (fun _ h => h) (fun k _ hlt => hb.block k hlt)
def TextsAt (a b : List ByteArray) (w : World) (i : Value) (wr : World) : Prop := ∃ j : Nat, i = .int .i64 j ∧ j ≤ a.length ∧ textsEq a b = textsEq (a.drop j) (b.drop j) ∧ Below w.heap.size w wr
set_option maxRecDepth 100000 in
set_option maxHeartbeats 1000000 in
theorem rtexts_any (S S' : Nat → Prop) (A B : Option Addr) (ca cb : Nat) (a b : List ByteArray) (w : World) (ha : StrsAt S w A a) (hb : StrsAt S' w B b) (hm : a.length ≤ 140737488355328) :
    Calls Try.prog 36 #[.slice A a.length ca, .slice B b.length cb] w fun e w' => e = .returned (.bool (textsEq a b)) ∧ Below w.heap.size w w' := by
  have HA := Lib.hid ha
  have HB := Lib.hid hb
  clear ha hb
  by_cases hl : a.length = b.length
  · have hne : ((a.length : Int) != (b.length : Int)) = false := by rw [hl]; simp
    go_enter Try.func36, Try.ntmps36
    go_wp2
    go_loopw [5] (fun i wr => TextsAt a b w i wr) (fun i _ => a.length - (intOf i).toNat)
    case atStart => exact ⟨0, rfl, Nat.zero_le _, rfl, Below.refl _ _⟩
    case round =>
      obtain ⟨j, rfl, hj, hf, hbr⟩ := hrel
      have HF := Lib.hid hf
      have HBR := Lib.hid hbr
      clear hf hbr
      by_cases hlt : j < a.length
      · obtain ⟨x, hx⟩ : ∃ x, a[j]? = some x := ⟨_, List.getElem?_eq_getElem hlt⟩
        obtain ⟨y, hy⟩ : ∃ y, b[j]? = some y := ⟨_, List.getElem?_eq_getElem (by omega)⟩
        obtain ⟨xb, xo, rfl, hxc⟩ := (HA.out.keep HBR.out).at hlt
        obtain ⟨yb, yo, rfl, hyc⟩ := (HB.out.keep HBR.out).at (j := j) (by omega)
        have c0 := hxc j x hx
        have d0 := hyc j y hy
        have HD := Lib.hid (show textsEq a b = ((x.toList == y.toList) && textsEq (a.drop (j + 1)) (b.drop (j + 1))) from by rw [HF.out, drop_cons hx, drop_cons hy, textsEq_cons])
        have hjb : (j : Int) < (b.length : Int) := by omega
        have hja : (j : Int) < (a.length : Int) := by omega
        have hj0 : (0 : Int) ≤ (j : Int) := by omega
        clear hxc hyc hx hy
        cases hxy : (x.toList == y.toList)
        · have HR := Lib.hid (show textsEq a b = false from by rw [HD.out, hxy, Bool.false_and])
          go_wp2_with fail
          first | go_region_o | go_region
          all_goals
            go_simp
            go_wp2
            go_ret
            exact ⟨by rw [HR.out]; rfl, HBR.out.drew⟩
        · have HR := Lib.hid (show textsEq a b = textsEq (a.drop (j + 1)) (b.drop (j + 1)) from by rw [HD.out, hxy, Bool.true_and])
          go_wp2_with fail
          first | go_region_o | go_region
          all_goals
            go_wp2
            go_roundw
            case measure => simp [intOf]; omega
            case rel => exact ⟨j + 1, by go_num, by omega, HR.out, HBR.out.drew⟩
      · have HR := Lib.hid (show textsEq a b = true from by rw [HF.out, List.drop_eq_nil_of_le (by omega), List.drop_eq_nil_of_le (by omega)]; rfl)
        go_wp2
        go_ret
        exact ⟨by rw [HR.out]; rfl, HBR.out⟩
  · have hne : ((a.length : Int) != (b.length : Int)) = true := by simp; omega
    have HR := Lib.hid (textsEq_len a b hl)
    go_enter Try.func36, Try.ntmps36
    go_wp2
    go_ret
    exact ⟨by rw [HR.out]; rfl, Below.refl _ _⟩
set_option maxRecDepth 100000 in
set_option maxHeartbeats 1000000 in
theorem texts_any (S S' : Nat → Prop) (A B : Option Addr) (ca cb : Nat) (a b : List ByteArray) (w : World) (ha : StrsAt S w A a) (hb : StrsAt S' w B b) (hm : a.length ≤ 140737488355328) :
    Calls Try.prog 38 #[.slice A a.length ca, .slice B b.length cb] w fun e w' => e = .returned (.bool (textsEq a b)) ∧ Below w.heap.size w w' := by
  have HA := Lib.hid ha
  have HB := Lib.hid hb
  clear ha hb
  by_cases hl : a.length = b.length
  · have hne : ((a.length : Int) != (b.length : Int)) = false := by rw [hl]; simp
    go_enter Try.func38, Try.ntmps38
    go_wp2
    go_loopw [13] (fun i wr => TextsAt a b w i wr) (fun i _ => a.length - (intOf i).toNat)
    case atStart => exact ⟨0, rfl, Nat.zero_le _, rfl, Below.refl _ _⟩
    case round =>
      obtain ⟨j, rfl, hj, hf, hbr⟩ := hrel
      have HF := Lib.hid hf
      have HBR := Lib.hid hbr
      clear hf hbr
      by_cases hlt : j < a.length
      · obtain ⟨x, hx⟩ : ∃ x, a[j]? = some x := ⟨_, List.getElem?_eq_getElem hlt⟩
        obtain ⟨y, hy⟩ : ∃ y, b[j]? = some y := ⟨_, List.getElem?_eq_getElem (by omega)⟩
        obtain ⟨xb, xo, rfl, hxc⟩ := (HA.out.keep HBR.out).at hlt
        obtain ⟨yb, yo, rfl, hyc⟩ := (HB.out.keep HBR.out).at (j := j) (by omega)
        have c0 := hxc j x hx
        have d0 := hyc j y hy
        have HD := Lib.hid (show textsEq a b = ((x.toList == y.toList) && textsEq (a.drop (j + 1)) (b.drop (j + 1))) from by rw [HF.out, drop_cons hx, drop_cons hy, textsEq_cons])
        have hjb : (j : Int) < (b.length : Int) := by omega
        have hja : (j : Int) < (a.length : Int) := by omega
        have hj0 : (0 : Int) ≤ (j : Int) := by omega
        clear hxc hyc hx hy
        cases hxy : (x.toList == y.toList)
        · have HR := Lib.hid (show textsEq a b = false from by rw [HD.out, hxy, Bool.false_and])
          go_wp2_with fail
          first | go_region_o | go_region
          all_goals
            go_simp
            go_wp2
            go_ret
            exact ⟨by rw [HR.out]; rfl, HBR.out.drew⟩
        · have HR := Lib.hid (show textsEq a b = textsEq (a.drop (j + 1)) (b.drop (j + 1)) from by rw [HD.out, hxy, Bool.true_and])
          go_wp2_with fail
          first | go_region_o | go_region
          all_goals
            go_wp2
            go_roundw
            case measure => simp [intOf]; omega
            case rel => exact ⟨j + 1, by go_num, by omega, HR.out, HBR.out.drew⟩
      · have HR := Lib.hid (show textsEq a b = true from by rw [HF.out, List.drop_eq_nil_of_le (by omega), List.drop_eq_nil_of_le (by omega)]; rfl)
        go_wp2
        go_ret
        exact ⟨by rw [HR.out]; rfl, HBR.out⟩
  · have hne : ((a.length : Int) != (b.length : Int)) = true := by simp; omega
    have HR := Lib.hid (textsEq_len a b hl)
    go_enter Try.func38, Try.ntmps38
    go_wp2
    go_ret
    exact ⟨by rw [HR.out]; rfl, Below.refl _ _⟩
/-- A slice of trees in memory. -/
def KidsIn (S : Nat → Prop) (w : World) (A : Option Addr) (l : List Tr) : Prop := l ≠ [] → ∃ b off, A = some ⟨b, off, none⟩ ∧ S b ∧ TrsAt S w b off l
theorem TrAt.kidsIn {S : Nat → Prop} {w : World} {t : Tr} {v : TV} (h : TrAt S w t v) : KidsIn S w v.ka t.kids := by
  cases t with
  | mk k x ls ks =>
    unfold TrAt at h
    exact h.2.2.2.2.2.1
theorem TrAt.strsIn {S : Nat → Prop} {w : World} {t : Tr} {v : TV} (h : TrAt S w t v) : StrsAt S w v.la t.leads := by
  cases t with
  | mk k x ls ks =>
    unfold TrAt at h
    exact h.2.2.2.2.1
theorem KidsIn.keep {S : Nat → Prop} {w w' : World} {A : Option Addr} {l : List Tr} (h : KidsIn S w A l) (hb : Below w.heap.size w w') : KidsIn S w' A l := fun hne => by
  obtain ⟨b, off, hA, hS, ht⟩ := h hne
  exact ⟨b, off, hA, hS, TrsAt.move (fun _ h => h) (fun k _ hlt => hb.block k hlt) b hS l off ht⟩
theorem KidsIn.at {S : Nat → Prop} {w : World} {A : Option Addr} {l : List Tr} (h : KidsIn S w A l) {j : Nat} {k : Tr} (hk : l[j]? = some k) : ∃ b off, A = some ⟨b, off, none⟩ ∧ ∃ u : TV, w.cell? ⟨b, off + j * 4, none⟩ = some (.int .i64 u.kind) ∧ w.cell? ⟨b, off + j * 4 + 1, none⟩ = some (.string u.text) ∧ w.cell? ⟨b, off + j * 4 + 2, none⟩ = some (.slice u.la u.ll u.lc) ∧ w.cell? ⟨b, off + j * 4 + 3, none⟩ = some (.slice u.ka u.kl u.kc) ∧ TrAt S w k u := by
  obtain ⟨b, off, hA, hS, ht⟩ := h (fun e => by rw [e] at hk; simp at hk)
  exact ⟨b, off, hA, TrsAt.get l off ht j k hk⟩
def SameC (f : Nat) (N : Nat) : Prop := ∀ (S S' : Nat → Prop) (a b : Tr) (u v : TV) (w : World), SizeOf.sizeOf a ≤ N → TrAt S w a u → TrAt S' w b v → smallT a = true →
    Calls Try.prog f #[.agg #[.int .i64 u.kind, .string u.text, .slice u.la u.ll u.lc, .slice u.ka u.kl u.kc], .agg #[.int .i64 v.kind, .string v.text, .slice v.la v.ll v.lc, .slice v.ka v.kl v.kc]] w fun e w' => e = .returned (.bool (sameT a b)) ∧ Below w.heap.size w w'
def EqAt (a b : List Tr) (w : World) (i : Value) (wr : World) : Prop := ∃ j : Nat, i = .int .i64 j ∧ j ≤ a.length ∧ sameL a b = sameL (a.drop j) (b.drop j) ∧ Below w.heap.size w wr
set_option maxRecDepth 100000 in
set_option maxHeartbeats 1000000 in
theorem equalfunc_any {N : Nat} (ih : SameC 25 N) (S S' : Nat → Prop) (A B : Option Addr) (ca cb : Nat) (a b : List Tr) (w : World) (ha : KidsIn S w A a) (hb : KidsIn S' w B b) (hn : ∀ k ∈ a, SizeOf.sizeOf k ≤ N ∧ smallT k = true) (hm : a.length ≤ 140737488355328) :
    Calls Try.prog 39 #[.slice A a.length ca, .slice B b.length cb, .func (.func 25) #[] #[]] w fun e w' => e = .returned (.bool (sameL a b)) ∧ Below w.heap.size w w' := by
  have HIH := Lib.hid ih
  have HA := Lib.hid ha
  have HB := Lib.hid hb
  have HNK := Lib.hid hn
  clear ha hb ih hn
  by_cases hl : a.length = b.length
  · have hne : ((a.length : Int) != (b.length : Int)) = false := by rw [hl]; simp
    have HLN := Lib.hid hl
    clear hl
    go_enter Try.func39, Try.ntmps39
    go_wp2
    go_loopw [17] (fun i wr => EqAt a b w i wr) (fun i _ => a.length - (intOf i).toNat)
    case atStart => exact ⟨0, rfl, Nat.zero_le _, rfl, Below.refl _ _⟩
    case round =>
      obtain ⟨j, rfl, hj, hf, hbr⟩ := hrel
      have HF := Lib.hid hf
      have HBR := Lib.hid hbr
      clear hf hbr
      by_cases hlt : j < a.length
      · obtain ⟨x, hx⟩ : ∃ x, a[j]? = some x := ⟨_, List.getElem?_eq_getElem hlt⟩
        obtain ⟨y, hy⟩ : ∃ y, b[j]? = some y := ⟨_, List.getElem?_eq_getElem (by have := HLN.out; omega)⟩
        obtain ⟨xb, xo, rfl, u, c0, c1, c2, c3, hu⟩ := (HA.out.keep HBR.out).at hx
        obtain ⟨yb, yo, rfl, v, d0, d1, d2, d3, hv⟩ := (HB.out.keep HBR.out).at hy
        have cbl : xb < wr.heap.size := World.block_lt_of_cell? wr _ c3
        have dbl : yb < wr.heap.size := World.block_lt_of_cell? wr _ d3
        obtain ⟨hn1, hn2⟩ := HNK.out x (List.mem_of_getElem? hx)
        have HN1 := Lib.hid hn1
        have HN2 := Lib.hid hn2
        have HU := Lib.hid hu
        have HV := Lib.hid hv
        have HD := Lib.hid (show sameL a b = (sameT x y && sameL (a.drop (j + 1)) (b.drop (j + 1))) from by rw [HF.out, drop_cons hx, drop_cons hy, sameL_cons])
        have hjb : (j : Int) < (b.length : Int) := by have := HLN.out; omega
        have hja : (j : Int) < (a.length : Int) := by omega
        have hj0 : (0 : Int) ≤ (j : Int) := by omega
        have hba : Below wr.heap.size wr ((wr.alloc (trO u)).alloc (trO v)) := ((Below.refl _ _).alloc (Nat.le_refl _) _).alloc (by rw [World.size_alloc]; omega) _
        have HBA := Lib.hid hba
        clear hx hy hu hv hn1 hn2 hba
        cases hxy : sameT x y
        · have HR := Lib.hid (show sameL a b = false from by rw [HD.out, hxy, Bool.false_and])
          go_wp2_with (go_at_call 25; refine (HIH.out S S' x y u v _ HN1.out (HU.out.keep HBA.out) (HV.out.keep HBA.out) HN2.out).mono ?_; rw [hxy]; rintro e w2 ⟨rfl, hb2⟩; have HB2 := Lib.hid (HBR.out.trans ((HBA.out.trans (hb2.mono HBA.out.size)).mono HBR.out.size)); clear hb2)
          go_ret
          exact ⟨by rw [HR.out]; rfl, HB2.out⟩
        · have HR := Lib.hid (show sameL a b = sameL (a.drop (j + 1)) (b.drop (j + 1)) from by rw [HD.out, hxy, Bool.true_and])
          go_wp2_with (go_at_call 25; refine (HIH.out S S' x y u v _ HN1.out (HU.out.keep HBA.out) (HV.out.keep HBA.out) HN2.out).mono ?_; rw [hxy]; rintro e w2 ⟨rfl, hb2⟩; have HB2 := Lib.hid (HBR.out.trans ((HBA.out.trans (hb2.mono HBA.out.size)).mono HBR.out.size)); clear hb2)
          go_roundw
          case measure => simp [intOf]; omega
          case rel => exact ⟨j + 1, by go_num, by omega, HR.out, HB2.out⟩
      · have HR := Lib.hid (show sameL a b = true from by rw [HF.out, List.drop_eq_nil_of_le (by omega), List.drop_eq_nil_of_le (by have := HLN.out; omega), sameL_nil])
        go_wp2
        go_ret
        exact ⟨by rw [HR.out]; rfl, HBR.out⟩
  · have hne : ((a.length : Int) != (b.length : Int)) = true := by simp; omega
    have HR := Lib.hid (sameL_len a b hl)
    go_enter Try.func39, Try.ntmps39
    go_wp2
    go_ret
    exact ⟨by rw [HR.out]; rfl, Below.refl _ _⟩
set_option maxRecDepth 100000 in
set_option maxHeartbeats 2000000 in
theorem same_any (N : Nat) : SameC 25 N := by
  induction N with
  | zero => intro S S' a b u v w h; have := tr_pos a; omega
  | succ N ih =>
    intro S S' a b u v w hN ha hb hs
    have HIH := Lib.hid ih
    obtain ⟨ua, ub, uk, ux⟩ := ha.kl
    obtain ⟨va, vb, vk, vx⟩ := hb.kl
    have hba : Below w.heap.size w ((w.alloc (trO u)).alloc (trO v)) := ((Below.refl _ _).alloc (Nat.le_refl _) _).alloc (by rw [World.size_alloc]; omega) _
    have HBA := Lib.hid hba
    have HTA := Lib.hid (ha.keep hba)
    have HTB := Lib.hid (hb.keep hba)
    have hX : ((w.alloc (trO u)).alloc (trO v)).heap[w.heap.size]? = some (trO u) := (((Below.refl (w.alloc (trO u)).heap.size (w.alloc (trO u))).alloc (Nat.le_refl _) (trO v)).block w.heap.size (by simp)).trans (heap_alloc_new w (trO u))
    have hY : ((w.alloc (trO u)).alloc (trO v)).heap[w.heap.size + 1]? = some (trO v) := by rw [← World.size_alloc w (trO u)]; exact heap_alloc_new _ _
    have HX := Lib.hid hX
    have HY := Lib.hid hY
    obtain ⟨hl1, hl2, hl3⟩ := smallT_kids hs
    have HL1 := Lib.hid hl1
    have HL2 := Lib.hid hl2
    have HNK := Lib.hid (show ∀ k ∈ a.kids, SizeOf.sizeOf k ≤ N ∧ smallT k = true from fun k hk => by
      obtain ⟨j, hj⟩ := List.getElem?_of_mem hk
      exact ⟨by have := kid_sizeOf hj; omega, hl3 j k hj⟩)
    have HE := Lib.hid (sameT_eq a b)
    rw [← uk, ← vk, ← ux, ← vx] at HE
    obtain ⟨uk', ux', ula, ull, ulc, uka, ukl, ukc⟩ := u
    obtain ⟨vk', vx', vla, vll, vlc, vka, vkl, vkc⟩ := v
    simp only at ua ub va vb HE
    subst ua ub va vb
    have a0 := cells_of hX 0 _ rfl
    have a1 := cells_of hX 1 _ rfl
    have a2 := cells_of hX 2 _ rfl
    have a3 := cells_of hX 3 _ rfl
    have b0 := cells_of hY 0 _ rfl
    have b1 := cells_of hY 1 _ rfl
    have b2 := cells_of hY 2 _ rfl
    have b3 := cells_of hY 3 _ rfl
    clear ha hb hs hba hX hY hl1 hl2 hl3 ih uk vk ux vx hN
    cases hk : (uk' == vk')
    · have HR := Lib.hid (show sameT a b = false from by rw [HE.out, hk]; rfl)
      go_enter Try.func25, Try.ntmps25
      go_wp2
      refine bodyPost_ret (v := .bool false) (by simp [results, Try.results25, go_sem]) rfl ?_
      exact ⟨by rw [HR.out], HBA.out⟩
    · cases hx : (ux'.toList == vx'.toList)
      · have HR := Lib.hid (show sameT a b = false from by rw [HE.out, hx, Bool.and_false]; rfl)
        go_enter Try.func25, Try.ntmps25
        go_wp2
        refine bodyPost_ret (v := .bool false) (by simp [results, Try.results25, go_sem]) rfl ?_
        exact ⟨by rw [HR.out], HBA.out⟩
      · cases ht : textsEq a.leads b.leads
        · have HR := Lib.hid (show sameT a b = false from by rw [HE.out, ht, Bool.and_false]; rfl)
          go_enter Try.func25, Try.ntmps25
          go_wp2_with (go_at_call 38; refine (texts_any _ _ _ _ _ _ _ _ _ HTA.out.strsIn HTB.out.strsIn HL1.out).mono ?_; rw [ht]; rintro e w2 ⟨rfl, hb2⟩; have HB2 := Lib.hid (HBA.out.trans (hb2.mono HBA.out.size)); clear hb2)
          refine bodyPost_ret (v := .bool false) (by simp [results, Try.results25, go_sem]) rfl ?_
          exact ⟨by rw [HR.out], HB2.out⟩
        · have HR := Lib.hid (show sameT a b = sameL a.kids b.kids from by rw [HE.out, hk, hx, ht]; rfl)
          go_enter Try.func25, Try.ntmps25
          go_wp2_with (first
            | (go_at_call 38; refine (texts_any _ _ _ _ _ _ _ _ _ HTA.out.strsIn HTB.out.strsIn HL1.out).mono ?_; rw [ht]; rintro e w2 ⟨rfl, hb2⟩; have HB2 := Lib.hid (HBA.out.trans (hb2.mono HBA.out.size)); have HTA2 := Lib.hid (HTA.out.keep hb2); have HTB2 := Lib.hid (HTB.out.keep hb2); have hX2 := (hb2.block w.heap.size (lt_of_heap HX.out)).trans HX.out; have hY2 := (hb2.block (w.heap.size + 1) (lt_of_heap HY.out)).trans HY.out; clear hb2 a0 a1 a2 a3 b0 b1 b2 b3; have a3 := cells_of hX2 3 _ rfl; have b3 := cells_of hY2 3 _ rfl; have alt := lt_of_heap hX2; have blt := lt_of_heap hY2; clear hX2 hY2)
            | (go_at_call 39; refine (equalfunc_any HIH.out _ _ _ _ _ _ _ _ _ HTA2.out.kidsIn HTB2.out.kidsIn HNK.out HL2.out).mono ?_; rintro e w3 ⟨rfl, hb3⟩; have HB3 := Lib.hid (HB2.out.trans (hb3.mono HB2.out.size)); clear hb3))
          refine bodyPost_ret (v := .bool (sameL a.kids b.kids)) (by simp [results, Try.results25, go_sem]) rfl ?_
          exact ⟨by rw [HR.out], HB3.out⟩
end Go.Proofs.Ytojekhbebcdccaa
