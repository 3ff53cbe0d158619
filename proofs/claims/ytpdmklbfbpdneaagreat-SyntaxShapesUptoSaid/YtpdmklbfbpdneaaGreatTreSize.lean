/- Texts of stage 3 that this seat needs: TrBase, TreSize. -/
import Derived.Test.YtpdmklbfbpdneaaGreatSynTexts
import Derived.Test.YtpdmklbfbpdneaaGreatSynParse
import Derived.Deep.QuietTactic
import Derived.Lib.Builder
namespace Go.Proofs.YtpdmklbfbpdneaaGreat
open Go.RowKit
/-- A tree's block, stored anew. -/
def setT (w : World) (b : Nat) (u : TV) : World := (((w.setCell ⟨b, 0, none⟩ (.int .i64 u.kind)).setCell ⟨b, 1, none⟩ (.string u.text)).setCell ⟨b, 2, none⟩ (.slice u.la u.ll u.lc)).setCell ⟨b, 3, none⟩ (.slice u.ka u.kl u.kc)
def trO (v : TV) : Obj := .cells #[.int .i64 v.kind, .string v.text, .slice v.la v.ll v.lc, .slice v.ka v.kl v.kc] 25
theorem setT_heap {w : World} {b : Nat} {v : TV} (u : TV) (h : w.heap[b]? = some (trO v)) : (setT w b u).heap[b]? = some (trO u) := heap_set (heap_set (heap_set (heap_set h rfl) rfl) rfl) rfl
theorem setT_below (w : World) (b : Nat) (u : TV) : Below b w (setT w b u) := ((((Below.refl b w).setCell (p := ⟨b, 0, none⟩) (Nat.le_refl _) _).setCell (p := ⟨b, 1, none⟩) (Nat.le_refl _) _).setCell (p := ⟨b, 2, none⟩) (Nat.le_refl _) _).setCell (p := ⟨b, 3, none⟩) (Nat.le_refl _) _
mutual
def sizeT : Tr → Nat
  | .mk _ _ _ ks => 1 + sizeL ks
def sizeL : List Tr → Nat
  | [] => 0
  | t :: r => sizeT t + sizeL r
end
mutual
def depthT : Tr → Nat
  | .mk _ _ _ ks => depthL ks + 1
def depthL : List Tr → Nat
  | [] => 0
  | t :: r => max (depthT t) (depthL r)
end
theorem sizeT_eq (t : Tr) : sizeT t = 1 + sizeL t.kids := by cases t; rw [sizeT]; rfl
theorem depthT_eq (t : Tr) : depthT t = depthL t.kids + 1 := by cases t; rw [depthT]; rfl
theorem sizeL_append : (a b : List Tr) → sizeL (a ++ b) = sizeL a + sizeL b
  | [], b => by rw [List.nil_append, sizeL]; omega
  | t :: r, b => by rw [List.cons_append, sizeL, sizeL, sizeL_append r b]; omega
theorem depthL_append : (a b : List Tr) → depthL (a ++ b) = max (depthL a) (depthL b)
  | [], b => by rw [List.nil_append, depthL]; omega
  | t :: r, b => by rw [List.cons_append, depthL, depthL, depthL_append r b]; omega
theorem take_snoc {α : Type} {l : List α} {j : Nat} {k : α} (h : l[j]? = some k) : l.take (j + 1) = l.take j ++ [k] := by
  rw [List.take_add_one, h]
  rfl
theorem sizeL_take {l : List Tr} {j : Nat} {k : Tr} (h : l[j]? = some k) : sizeL (l.take (j + 1)) = sizeL (l.take j) + sizeT k := by
  rw [take_snoc h, sizeL_append, sizeL, sizeL]
  omega
theorem depthL_take {l : List Tr} {j : Nat} {k : Tr} (h : l[j]? = some k) : depthL (l.take (j + 1)) = max (depthL (l.take j)) (depthT k) := by
  rw [take_snoc h, depthL_append, depthL, depthL]
  omega
theorem sizeL_take_le (l : List Tr) (j : Nat) : sizeL (l.take j) ≤ sizeL l := by
  conv => rhs; rw [← List.take_append_drop j l, sizeL_append]
  omega
theorem size_kid {t k : Tr} {j : Nat} (h : t.kids[j]? = some k) : sizeT k ≤ sizeT t := by
  have h1 := sizeL_take h
  have h2 := sizeL_take_le t.kids (j + 1)
  rw [sizeT_eq t]
  omega
mutual
theorem depth_le_size : (t : Tr) → depthT t ≤ sizeT t
  | .mk _ _ _ ks => by rw [depthT, sizeT]; have := depthL_le_size ks; omega
theorem depthL_le_size : (l : List Tr) → depthL l ≤ sizeL l
  | [] => by rw [depthL]; omega
  | t :: r => by rw [depthL, sizeL]; have := depth_le_size t; have := depthL_le_size r; omega
end
theorem kids_le_size : (l : List Tr) → l.length ≤ sizeL l
  | [] => Nat.zero_le _
  | t :: r => by
    rw [sizeL, List.length_cons, sizeT_eq]
    have := kids_le_size r
    omega
theorem kid_sizeOf {t k : Tr} {j : Nat} (h : t.kids[j]? = some k) : SizeOf.sizeOf k < SizeOf.sizeOf t := by
  cases t with
  | mk kd x ls ks =>
    have := List.sizeOf_lt_of_mem (List.mem_of_getElem? (show ks[j]? = some k from h))
    rw [Tr.mk.sizeOf_spec]
    omega
theorem tr_pos (t : Tr) : 0 < SizeOf.sizeOf t := by cases t; rw [Tr.mk.sizeOf_spec]; omega
/-- A loop over the kids of a tree in block b of its own: what has been reckoned so far. -/
def KidsAtN (f : List Tr → Nat) (t : Tr) (W : World) (n i : Value) (wr : World) : Prop := ∃ j : Nat, i = .int .i64 j ∧ j ≤ t.kids.length ∧ n = .int .i64 (f (t.kids.take j) : Nat) ∧ Below W.heap.size W wr
set_option maxRecDepth 100000 in
set_option maxHeartbeats 1000000 in
theorem rsize_any (N : Nat) : ∀ (S : Nat → Prop) (t : Tr) (v : TV) (w : World), SizeOf.sizeOf t ≤ N → TrAt S w t v → sizeT t ≤ 140737488355328 →
    Calls Tryz.prog 13 #[.agg #[.int .i64 v.kind, .string v.text, .slice v.la v.ll v.lc, .slice v.ka v.kl v.kc]] w fun e w' => e = .returned (.int .i64 (sizeT t : Nat)) ∧ Below w.heap.size w w' := by
  induction N with
  | zero => intro S t v w h; have := tr_pos t; omega
  | succ N ih =>
    intro S t v w hN h hz
    have HIH := Lib.hid ih
    have HB0 := Lib.hid ((Below.refl w.heap.size w).alloc (Nat.le_refl _) (trO v))
    have HT := Lib.hid (h.keep HB0.out)
    have HX := Lib.hid (heap_alloc_new w (trO v))
    have HZ := Lib.hid hz
    have HN := Lib.hid hN
    have hkl := h.kl.1
    obtain ⟨vk, vx, vla, vll, vlc, vka, vkl, vkc⟩ := v
    simp only at hkl
    subst hkl
    have hmax : t.kids.length ≤ 140737488355328 := by have := kids_le_size t.kids; rw [sizeT_eq] at hz; omega
    have HMX := Lib.hid hmax
    clear ih h hz hN
    have k3 : (w.alloc (trO ⟨vk, vx, vla, vll, vlc, vka, t.kids.length, vkc⟩)).cell? ⟨w.heap.size, 3, none⟩ = some (.slice vka t.kids.length vkc) := cells_of HX.out 3 _ rfl
    go_enter Tryz.func13, Tryz.ntmps13
    go_wp2
    clear k3
    go_loopw [3, 4] (fun n i wr => KidsAtN (fun l => 1 + sizeL l) t (w.alloc (trO ⟨vk, vx, vla, vll, vlc, vka, t.kids.length, vkc⟩)) n i wr) (fun _ i _ => t.kids.length - (intOf i).toNat)
    case atStart => exact ⟨0, rfl, Nat.zero_le _, rfl, Below.refl _ _⟩
    case round =>
      obtain ⟨j, rfl, hj, rfl, hb⟩ := hrel
      have HBR := Lib.hid hb
      have hx := (hb.block w.heap.size (lt_of_heap HX.out)).trans HX.out
      have k3 : wr.cell? ⟨w.heap.size, 3, none⟩ = some (.slice vka t.kids.length vkc) := cells_of hx 3 _ rfl
      clear hb hx
      by_cases hlt : j < t.kids.length
      · obtain ⟨k, hk⟩ : ∃ k, t.kids[j]? = some k := ⟨_, List.getElem?_eq_getElem hlt⟩
        obtain ⟨b, off, hka⟩ : ∃ b off, vka = some ⟨b, off, none⟩ := HT.out.addr.resolve_left (by omega)
        subst hka
        obtain ⟨u, c0, c1, c2, c3, hu⟩ := (HT.out.keep HBR.out).at rfl hk
        have HU := Lib.hid hu
        have HS1 := Lib.hid (sizeL_take hk)
        have HD1 := Lib.hid (depthL_take hk)
        have hs := sizeL_take_le t.kids (j + 1)
        have hs0 := sizeL_take hk
        have hds := depthL_le_size (t.kids.take j)
        have hdk := depth_le_size k
        have HSK := Lib.hid (Nat.le_trans (size_kid hk) HZ.out)
        have HNK := Lib.hid (show SizeOf.sizeOf k ≤ N from by have := kid_sizeOf hk; have := HN.out; omega)
        have hz := HZ.out
        rw [sizeT_eq] at hz
        have q1 : ((sizeL (t.kids.take j) : Nat) : Int) + (sizeT k : Nat) + 1 ≤ 140737488355328 := by omega
        have q2 : ((depthL (t.kids.take j) : Nat) : Int) ≤ 140737488355328 := by omega
        have q3 : ((depthT k : Nat) : Int) + 1 ≤ 140737488355329 := by omega
        have hj0 : (0 : Int) ≤ (j : Int) := by omega
        have hj1 : (j : Int) < (t.kids.length : Int) := by omega
        have hj2 : (j : Int) + 1 ≤ 140737488355328 := by omega
        clear hk hu hs hs0 hds hdk hz
        go_wp2_with (go_at_call 13; refine (HIH.out S k u _ HNK.out (HU.out.keep (Below.refl _ _)) HSK.out).mono ?_; rintro e w2 ⟨rfl, hb2⟩; have HB2 := Lib.hid (HBR.out.trans (hb2.mono HBR.out.size)); clear hb2)
        go_roundw
        case rel => exact ⟨j + 1, by go_num, by omega, by show _ = Value.int .i64 ((1 + sizeL (t.kids.take (j + 1)) : Nat) : Int); rw [HS1.out]; go_num, HB2.out⟩
        case measure => simp [intOf]; omega
      · have hjn : j = t.kids.length := by omega
        subst hjn
        have HR := Lib.hid (show sizeT t = 1 + sizeL (t.kids.take t.kids.length) from by rw [sizeT_eq, List.take_length])
        have hz := HZ.out
        have h1 := depth_le_size t
        have h2 := HR.out
        go_wp2
        go_ret
        exact ⟨ret_int (by rw [HR.out]), HB0.out.trans (HBR.out.mono (by simp))⟩
set_option maxRecDepth 100000 in
set_option maxHeartbeats 1000000 in
theorem size_any (N : Nat) : ∀ (S : Nat → Prop) (t : Tr) (v : TV) (w : World), SizeOf.sizeOf t ≤ N → TrAt S w t v → sizeT t ≤ 140737488355328 →
    Calls Tryz.prog 130 #[.agg #[.int .i64 v.kind, .string v.text, .slice v.la v.ll v.lc, .slice v.ka v.kl v.kc]] w fun e w' => e = .returned (.int .i64 (sizeT t : Nat)) ∧ Below w.heap.size w w' := by
  induction N with
  | zero => intro S t v w h; have := tr_pos t; omega
  | succ N ih =>
    intro S t v w hN h hz
    have HIH := Lib.hid ih
    have HB0 := Lib.hid ((Below.refl w.heap.size w).alloc (Nat.le_refl _) (trO v))
    have HT := Lib.hid (h.keep HB0.out)
    have HX := Lib.hid (heap_alloc_new w (trO v))
    have HZ := Lib.hid hz
    have HN := Lib.hid hN
    have hkl := h.kl.1
    obtain ⟨vk, vx, vla, vll, vlc, vka, vkl, vkc⟩ := v
    simp only at hkl
    subst hkl
    have hmax : t.kids.length ≤ 140737488355328 := by have := kids_le_size t.kids; rw [sizeT_eq] at hz; omega
    have HMX := Lib.hid hmax
    clear ih h hz hN
    have k3 : (w.alloc (trO ⟨vk, vx, vla, vll, vlc, vka, t.kids.length, vkc⟩)).cell? ⟨w.heap.size, 3, none⟩ = some (.slice vka t.kids.length vkc) := cells_of HX.out 3 _ rfl
    go_enter Tryz.func130, Tryz.ntmps130
    go_wp2
    clear k3
    go_loopw [3, 9] (fun n i wr => KidsAtN (fun l => 1 + sizeL l) t (w.alloc (trO ⟨vk, vx, vla, vll, vlc, vka, t.kids.length, vkc⟩)) n i wr) (fun _ i _ => t.kids.length - (intOf i).toNat)
    case atStart => exact ⟨0, rfl, Nat.zero_le _, rfl, Below.refl _ _⟩
    case round =>
      obtain ⟨j, rfl, hj, rfl, hb⟩ := hrel
      have HBR := Lib.hid hb
      have hx := (hb.block w.heap.size (lt_of_heap HX.out)).trans HX.out
      have k3 : wr.cell? ⟨w.heap.size, 3, none⟩ = some (.slice vka t.kids.length vkc) := cells_of hx 3 _ rfl
      clear hb hx
      by_cases hlt : j < t.kids.length
      · obtain ⟨k, hk⟩ : ∃ k, t.kids[j]? = some k := ⟨_, List.getElem?_eq_getElem hlt⟩
        obtain ⟨b, off, hka⟩ : ∃ b off, vka = some ⟨b, off, none⟩ := HT.out.addr.resolve_left (by omega)
        subst hka
        obtain ⟨u, c0, c1, c2, c3, hu⟩ := (HT.out.keep HBR.out).at rfl hk
        have HU := Lib.hid hu
        have HS1 := Lib.hid (sizeL_take hk)
        have HD1 := Lib.hid (depthL_take hk)
        have hs := sizeL_take_le t.kids (j + 1)
        have hs0 := sizeL_take hk
        have hds := depthL_le_size (t.kids.take j)
        have hdk := depth_le_size k
        have HSK := Lib.hid (Nat.le_trans (size_kid hk) HZ.out)
        have HNK := Lib.hid (show SizeOf.sizeOf k ≤ N from by have := kid_sizeOf hk; have := HN.out; omega)
        have hz := HZ.out
        rw [sizeT_eq] at hz
        have q1 : ((sizeL (t.kids.take j) : Nat) : Int) + (sizeT k : Nat) + 1 ≤ 140737488355328 := by omega
        have q2 : ((depthL (t.kids.take j) : Nat) : Int) ≤ 140737488355328 := by omega
        have q3 : ((depthT k : Nat) : Int) + 1 ≤ 140737488355329 := by omega
        have hj0 : (0 : Int) ≤ (j : Int) := by omega
        have hj1 : (j : Int) < (t.kids.length : Int) := by omega
        have hj2 : (j : Int) + 1 ≤ 140737488355328 := by omega
        clear hk hu hs hs0 hds hdk hz
        have HA1 := Lib.hid ((Below.refl wr.heap.size wr).alloc (Nat.le_refl _) (trO u))
        go_wp2_with (go_at_call 130; refine (HIH.out S k u _ HNK.out (HU.out.keep HA1.out) HSK.out).mono ?_; rintro e w2 ⟨rfl, hb2⟩; have HB2 := Lib.hid (HBR.out.trans ((HA1.out.trans (hb2.mono HA1.out.size)).mono HBR.out.size)); clear hb2)
        go_roundw
        case rel => exact ⟨j + 1, by go_num, by omega, by show _ = Value.int .i64 ((1 + sizeL (t.kids.take (j + 1)) : Nat) : Int); rw [HS1.out]; go_num, HB2.out⟩
        case measure => simp [intOf]; omega
      · have hjn : j = t.kids.length := by omega
        subst hjn
        have HR := Lib.hid (show sizeT t = 1 + sizeL (t.kids.take t.kids.length) from by rw [sizeT_eq, List.take_length])
        have hz := HZ.out
        have h1 := depth_le_size t
        have h2 := HR.out
        go_wp2
        go_ret
        exact ⟨ret_int (by rw [HR.out]), HB0.out.trans (HBR.out.mono (by simp))⟩
end Go.Proofs.YtpdmklbfbpdneaaGreat
