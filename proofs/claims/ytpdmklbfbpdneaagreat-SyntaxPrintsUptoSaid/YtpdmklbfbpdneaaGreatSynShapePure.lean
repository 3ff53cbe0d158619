/- The contracts of within and plain functions: which trees have the right shape. -/
import Derived.Test.YtpdmklbfbpdneaaGreatSynTree
import Derived.Deep.LoopGhost
import Derived.Test.YtpdmklbfbpdneaaGreatSynNamed
import Derived.Test.YtpdmklbfbpdneaaGreatSynCounts
namespace Go.Proofs.YtpdmklbfbpdneaaGreat
open Go.RowKit
theorem TrAt.keep {S : Nat → Prop} {w w' : World} {t : Tr} {v : TV} (h : TrAt S w t v) (hb : Below w.heap.size w w') : TrAt S w' t v := TrAt.move (fun _ h => h) (fun k _ hlt => hb.block k hlt) t v h
/-- What is to be read of a kid. -/
theorem TrAt.kid {S : Nat → Prop} {w : World} {t : Tr} {v : TV} (h : TrAt S w t v) {j : Nat} {k : Tr} (hk : t.kids[j]? = some k) :
    v.kl = t.kids.length ∧ ∃ b off, v.ka = some ⟨b, off, none⟩ ∧ S b ∧ ∃ u : TV, w.cell? ⟨b, off + j * 4, none⟩ = some (.int .i64 u.kind) ∧ w.cell? ⟨b, off + j * 4 + 1, none⟩ = some (.string u.text) ∧ w.cell? ⟨b, off + j * 4 + 2, none⟩ = some (.slice u.la u.ll u.lc) ∧ w.cell? ⟨b, off + j * 4 + 3, none⟩ = some (.slice u.ka u.kl u.kc) ∧ TrAt S w k u := by
  cases t with
  | mk kd tx ls ks =>
    unfold TrAt at h
    obtain ⟨_, _, _, h4, _, h6, _⟩ := h
    obtain ⟨b, off, hA, hb, hc⟩ := h6 (by intro e; rw [show (Tr.mk kd tx ls ks).kids = ks from rfl, e] at hk; simp at hk)
    exact ⟨h4, b, off, hA, hb, TrsAt.get ks off hc j k hk⟩
theorem TrAt.addr {S : Nat → Prop} {w : World} {t : Tr} {v : TV} (h : TrAt S w t v) : t.kids.length = 0 ∨ ∃ b off, v.ka = some ⟨b, off, none⟩ := by
  cases t with
  | mk kd tx ls ks =>
    unfold TrAt at h
    cases ks with
    | nil => exact .inl rfl
    | cons a r =>
      obtain ⟨b, off, hA, _⟩ := h.2.2.2.2.2.1 (by simp)
      exact .inr ⟨b, off, hA⟩
theorem TrAt.at {S : Nat → Prop} {w : World} {t : Tr} {v : TV} {b off : Nat} (h : TrAt S w t v) (hA : v.ka = some ⟨b, off, none⟩) {j : Nat} {k : Tr} (hk : t.kids[j]? = some k) :
    ∃ u : TV, w.cell? ⟨b, off + j * 4, none⟩ = some (.int .i64 u.kind) ∧ w.cell? ⟨b, off + j * 4 + 1, none⟩ = some (.string u.text) ∧ w.cell? ⟨b, off + j * 4 + 2, none⟩ = some (.slice u.la u.ll u.lc) ∧ w.cell? ⟨b, off + j * 4 + 3, none⟩ = some (.slice u.ka u.kl u.kc) ∧ TrAt S w k u := by
  obtain ⟨_, b', off', hA', _, u, hu⟩ := h.kid hk
  rw [hA] at hA'
  injection hA' with e
  injection e with e1 e2 _
  subst e1 e2
  exact ⟨u, hu⟩
theorem TrAt.kl {S : Nat → Prop} {w : World} {t : Tr} {v : TV} (h : TrAt S w t v) : v.kl = t.kids.length ∧ v.ll = t.leads.length ∧ v.kind = t.kind ∧ v.text = t.text := by
  cases t with
  | mk kd tx ls ks =>
    unfold TrAt at h
    exact ⟨h.2.2.2.1, h.2.2.1, h.1, h.2.1⟩
theorem TrAt.caps {S : Nat → Prop} {w : World} {t : Tr} {v : TV} (h : TrAt S w t v) : v.ll ≤ v.lc ∧ v.kl ≤ v.kc := by
  cases t with
  | mk kd tx ls ks =>
    unfold TrAt at h
    exact h.2.2.2.2.2.2
theorem withinT_step (t : Tr) (n : Nat) : withinT t (n + 1) = withinL t.kids n := by
  cases t with
  | mk kd tx ls ks => rw [withinT]; rfl
theorem withinT_zero (t : Tr) : withinT t 0 = false := by
  cases t with
  | mk kd tx ls ks => rw [withinT]
theorem withinL_at (l : List Tr) (n j : Nat) (k : Tr) (hk : l[j]? = some k) : withinL (l.drop j) n = (withinT k n && withinL (l.drop (j + 1)) n) := by
  obtain ⟨hj, he⟩ := List.getElem?_eq_some_iff.1 hk
  rw [List.drop_eq_getElem_cons hj, he, withinL]
theorem withinL_end (l : List Tr) (n j : Nat) (h : l.length ≤ j) : withinL (l.drop j) n = true := by
  rw [List.drop_eq_nil_of_le h, withinL]
mutual
/-- No list in a tree is too long. -/
def smallT : Tr → Bool
  | .mk _ _ ls ks => decide (ls.length ≤ 140737488355328) && decide (ks.length ≤ 140737488355328) && smallL ks
def smallL : List Tr → Bool
  | [] => true
  | t :: r => smallT t && smallL r
end
theorem smallL_get : (l : List Tr) → (j : Nat) → (k : Tr) → smallL l = true → l[j]? = some k → smallT k = true
  | [], j, k, _, h => by simp at h
  | a :: r, j, k, hs, h => by
    unfold smallL at hs
    rw [Bool.and_eq_true] at hs
    cases j with
    | zero => simp at h; subst h; exact hs.1
    | succ j => exact smallL_get r j k hs.2 (by simpa using h)
theorem smallT_kids {t : Tr} (h : smallT t = true) : t.leads.length ≤ 140737488355328 ∧ t.kids.length ≤ 140737488355328 ∧ ∀ (j : Nat) (k : Tr), t.kids[j]? = some k → smallT k = true := by
  cases t with
  | mk kd tx ls ks =>
    unfold smallT at h
    simp only [Bool.and_eq_true, decide_eq_true_eq] at h
    exact ⟨h.1.1, h.1.2, fun j k hk => smallL_get ks j k h.2 hk⟩
set_option maxRecDepth 100000 in
set_option maxHeartbeats 1000000 in
theorem within_syn (n : Nat) : ∀ (S : Nat → Prop) (t : Tr) (v : TV) (w : World), n ≤ 60 → TrAt S w t v → smallT t = true →
    Calls Tryz.prog 67 #[.agg #[.int .i64 v.kind, .string v.text, .slice v.la v.ll v.lc, .slice v.ka v.kl v.kc], .int .i64 n] w fun e w' => e = .returned (.bool (withinT t n)) ∧ Below w.heap.size w w' := by
  induction n with
  | zero =>
    intro S t v w _ _ _
    have HR := Lib.hid (withinT_zero t)
    go_enter Tryz.func67, Tryz.ntmps67
    go_wp2
    go_ret
    exact ⟨by rw [HR.out]; rfl, (Below.refl _ _).alloc (Nat.le_refl _) _⟩
  | succ n ih =>
    intro S t v w hn h hs
    obtain ⟨_, hk1, hk2⟩ := smallT_kids hs
    have HK2 := Lib.hid hk2
    have HIH := Lib.hid ih
    have hkl := h.kl.1
    have hadr := h.addr
    obtain ⟨vk, vx, vla, vll, vlc, vka, vkl, vkc⟩ := v
    simp only at hkl hadr
    subst hkl
    have HN := Lib.hid (show n ≤ 60 from by omega)
    have hn0 : ((n : Int) + 1 == 0) = false := beqF (by omega)
    have hn60 : (n : Int) ≤ 60 := by omega
    have hnw : (n : Int) + 1 - 1 = (n : Int) := by omega
    have HT := Lib.hid h
    clear h hs hk2 ih hn
    rcases hadr with h0 | ⟨b, off, rfl⟩
    · have HKL := Lib.hid h0
      clear h0
      go_enter Tryz.func67, Tryz.ntmps67
      go_wp2
      go_loopg [12] t.kids.length (fun g u12 wr => ∃ j : Nat, u12 = .int .i64 j ∧ j + g = t.kids.length ∧ Below w.heap.size w wr ∧ withinT t (n + 1) = withinL (t.kids.drop j) n)
      case atStart => exact ⟨0, rfl, by omega, (Below.refl _ _).alloc (Nat.le_refl _) _, withinT_step t n⟩
      case round =>
        obtain ⟨j, rfl, hj, hb, hw⟩ := hrel
        have HB := Lib.hid hb
        have HJ := Lib.hid hj
        have HW := Lib.hid hw
        clear hj hb hw
        have hlt : ¬ j < t.kids.length := by have := HKL.out; omega
        have HR := Lib.hid (HW.out.trans (withinL_end t.kids n j (by omega)))
        go_wp2
        go_ret
        exact ⟨by rw [HR.out]; rfl, HB.out⟩
    · skip
      go_enter Tryz.func67, Tryz.ntmps67
      go_wp2
      go_loopg [12] t.kids.length (fun g u12 wr => ∃ j : Nat, u12 = .int .i64 j ∧ j + g = t.kids.length ∧ Below w.heap.size w wr ∧ withinT t (n + 1) = withinL (t.kids.drop j) n)
      case atStart => exact ⟨0, rfl, by omega, (Below.refl _ _).alloc (Nat.le_refl _) _, withinT_step t n⟩
      case round =>
        obtain ⟨j, rfl, hj, hb, hw⟩ := hrel
        have HB := Lib.hid hb
        have HJ := Lib.hid hj
        have HW := Lib.hid hw
        clear hj hb hw
        by_cases hlt : j < t.kids.length
        · obtain ⟨k, hk⟩ : ∃ k, t.kids[j]? = some k := ⟨_, List.getElem?_eq_getElem hlt⟩
          obtain ⟨u, c0, c1, c2, c3, hu⟩ := (HT.out.keep HB.out).at rfl hk
          have HU := Lib.hid hu
          have HSK := Lib.hid (HK2.out j k hk)
          have HLT := Lib.hid hlt
          have HAT := Lib.hid (HW.out.trans (withinL_at t.kids n j k hk))
          have hj0 : (0 : Int) ≤ (j : Int) := by omega
          have hj1 : (j : Int) < (t.kids.length : Int) := by omega
          have hj2 : (j : Int) + 1 ≤ 140737488355328 := by omega
          clear hk hu
          cases hwk : withinT k n
          · have HR := Lib.hid (show withinT t (n + 1) = false from by rw [HAT.out, hwk]; rfl)
            go_wp2_with (go_at_call 67; refine (HIH.out S k u _ HN.out (HU.out.keep ((Below.refl _ _).alloc (Nat.le_refl _) _)) HSK.out).mono ?_; rintro e w2 ⟨rfl, hb2⟩; have HB2 := Lib.hid ((HB.out.alloc HB.out.size (.cells #[.int .i64 u.kind, .string u.text, .slice u.la u.ll u.lc, .slice u.ka u.kl u.kc] 25)).trans (hb2.mono (by have := HB.out.size; simp; omega))); clear hb2)
            go_ret
            exact ⟨by rw [HR.out]; rfl, HB2.out⟩
          · have HR := Lib.hid (show withinT t (n + 1) = withinL (t.kids.drop (j + 1)) n from by rw [HAT.out, hwk, Bool.true_and])
            go_wp2_with (go_at_call 67; refine (HIH.out S k u _ HN.out (HU.out.keep ((Below.refl _ _).alloc (Nat.le_refl _) _)) HSK.out).mono ?_; rintro e w2 ⟨rfl, hb2⟩; have HB2 := Lib.hid ((HB.out.alloc HB.out.size (.cells #[.int .i64 u.kind, .string u.text, .slice u.la u.ll u.lc, .slice u.ka u.kl u.kc] 25)).trans (hb2.mono (by have := HB.out.size; simp; omega))); clear hb2)
            go_roundg (gk - 1)
            case measure => have := HJ.out; have := HLT.out; omega
            case rel => exact ⟨j + 1, by go_num, by have := HJ.out; have := HLT.out; omega, HB2.out, HR.out⟩
        · have HR := Lib.hid (HW.out.trans (withinL_end t.kids n j (by omega)))
          go_wp2
          go_ret
          exact ⟨by rw [HR.out]; rfl, HB.out⟩
end Go.Proofs.YtpdmklbfbpdneaaGreat
namespace Go.Proofs.YtpdmklbfbpdneaaGreat
/-- The sorts that kids must be of, in their order. -/
def sortsP : List Part → Int → List Int
  | [], _ => []
  | x :: r, n => List.replicate (countP x n).toNat x.kids ++ sortsP r n
mutual
def shapedT : Tr → Bool
  | .mk kd x _ ks => (freeP (partsP kd) ks.length).2 && namedP (partsP kd) x && shapedL ks (sortsP (partsP kd) (freeP (partsP kd) ks.length).1)
def shapedL : List Tr → List Int → Bool
  | [], _ => true
  | _ :: _, [] => true
  | k :: r, s :: ss => hasB s k.kind && shapedT k && shapedL r ss
end
theorem shapedT_eq (t : Tr) : shapedT t = ((freeP (partsP t.kind) t.kids.length).2 && namedP (partsP t.kind) t.text && shapedL t.kids (sortsP (partsP t.kind) (freeP (partsP t.kind) t.kids.length).1)) := by
  cases t with
  | mk kd x ls ks => rw [shapedT]; rfl
theorem shapedL_cons (k : Tr) (r : List Tr) (s : Int) (ss : List Int) : shapedL (k :: r) (s :: ss) = (hasB s k.kind && shapedT k && shapedL r ss) := by rw [shapedL]
theorem shapedL_nil (ss : List Int) : shapedL [] ss = true := by rw [shapedL]
theorem shapedL_none (ks : List Tr) : shapedL ks [] = true := by
  cases ks with
  | nil => rw [shapedL]
  | cons a r => rw [shapedL]
/-- How many parts are one kid, and how many are series. -/
def onesP : List Part → Nat
  | [] => 0
  | x :: r => (if x.series then 0 else if x.kids ≠ 0 then 1 else 0) + onesP r
def seriesP : List Part → Nat
  | [] => 0
  | x :: r => (if x.series then 1 else 0) + seriesP r
/-- How many kids the parts take together. -/
def sumP : List Part → Int → Int
  | [], _ => 0
  | x :: r, n => countP x n + sumP r n
theorem sumP_eq (l : List Part) (n : Int) : sumP l n = onesP l + seriesP l * n := by
  induction l with
  | nil => simp [sumP, onesP, seriesP]
  | cons x r ih =>
    rw [sumP, onesP, seriesP, ih]
    unfold countP
    cases hs : x.series
    · by_cases hk : x.kids ≠ 0
      · rw [if_neg (by decide), if_pos hk, if_neg (by decide), if_pos hk, if_neg (by decide), Nat.zero_add]
        omega
      · rw [if_neg (by decide), if_neg hk, if_neg (by decide), if_neg hk, if_neg (by decide), Nat.zero_add, Nat.zero_add]
        omega
    · rw [if_pos rfl, if_pos rfl, if_pos rfl]
      rw [show ((1 + seriesP r : Nat) : Int) = 1 + (seriesP r : Int) from by omega, Int.add_mul, Int.one_mul]
      omega
theorem freeL_ones (l : List Part) : ∀ a b k, (freeL l a b k).2.2 = k - onesP l := by
  induction l with
  | nil => intro a b k; simp [freeL, onesP]
  | cons x r ih =>
    intro a b k
    rw [freeL, onesP]
    cases hs : x.series
    · by_cases hk : x.kids ≠ 0
      · rw [if_neg (by decide), if_pos hk, ih, if_neg (by decide), if_pos hk]
        omega
      · rw [if_neg (by decide), if_neg hk, ih, if_neg (by decide), if_neg hk]
        omega
    · rw [if_pos rfl, ih, if_pos rfl]
      omega
theorem freeL_none (l : List Part) (h : seriesP l = 0) : ∀ a b k, (freeL l a b k).1 = a ∧ (freeL l a b k).2.1 = b := by
  induction l with
  | nil => intro a b k; exact ⟨rfl, rfl⟩
  | cons x r ih =>
    intro a b k
    rw [seriesP] at h
    rw [freeL]
    cases hs : x.series
    · rw [hs] at h
      have hr := ih (by simpa using h)
      by_cases hk : x.kids ≠ 0
      · rw [if_neg (by decide), if_pos hk]
        exact hr _ _ _
      · rw [if_neg (by decide), if_neg hk]
        exact hr _ _ _
    · rw [hs] at h
      simp at h
theorem freeL_low (l : List Part) (hl : ∀ x ∈ l, 0 ≤ x.least) : ∀ a b k, 0 ≤ a → 0 ≤ (freeL l a b k).1 := by
  induction l with
  | nil => intro a b k h; exact h
  | cons x r ih =>
    intro a b k h
    have hr := ih (fun y hy => hl y (List.mem_cons_of_mem _ hy))
    have hx := hl x (List.mem_cons_self ..)
    rw [freeL]
    split
    · exact hr _ _ _ hx
    · split
      · exact hr _ _ _ h
      · exact hr _ _ _ h
theorem partsP_fin2 : ∀ n : Fin 23, seriesP (partsP ((n.val : Nat) : Int)) ≤ 1 ∧ ∀ x ∈ partsP ((n.val : Nat) : Int), 0 ≤ x.least := by decide
theorem partsP_ok2 (k : Int) : seriesP (partsP k) ≤ 1 ∧ ∀ x ∈ partsP k, 0 ≤ x.least := by
  by_cases h : k ≤ 0 ∨ 23 ≤ k
  · rw [partsP_none h]
    exact ⟨by decide, fun x hx => by simp at hx⟩
  · have := partsP_fin2 ⟨k.toNat, by omega⟩
    rw [show (((⟨k.toNat, by omega⟩ : Fin 23).val : Nat) : Int) = k from by show ((k.toNat : Nat) : Int) = k; omega] at this
    exact this
/-- A node that can have this many kids: the series' number, and that the parts take them all. -/
theorem free_sum {kd k : Int} (h : (freeP (partsP kd) k).2 = true) : 0 ≤ (freeP (partsP kd) k).1 ∧ sumP (partsP kd) (freeP (partsP kd) k).1 = k := by
  obtain ⟨_, hk0, hne⟩ := freeP_le _ _ h
  obtain ⟨hs, hl⟩ := partsP_ok2 kd
  have h0 := freeL_low _ hl 0 0 k (Int.le_refl _)
  have h1 := freeL_ones (partsP kd) 0 0 k
  have hf : freeP (partsP kd) k = ((freeL (partsP kd) 0 0 k).2.2, decide ((freeL (partsP kd) 0 0 k).1 ≤ (freeL (partsP kd) 0 0 k).2.2) && decide ((freeL (partsP kd) 0 0 k).2.2 ≤ (freeL (partsP kd) 0 0 k).2.1)) := by
    unfold freeP
    rw [if_neg (by intro e; rcases e with e | e; exact hne e; omega)]
  rw [hf] at h ⊢
  simp only [Bool.and_eq_true, decide_eq_true_eq] at h
  rw [sumP_eq]
  show 0 ≤ (freeL (partsP kd) 0 0 k).2.2 ∧ _ + _ * (freeL (partsP kd) 0 0 k).2.2 = k
  refine ⟨by omega, ?_⟩
  rcases Nat.le_one_iff_eq_zero_or_eq_one.1 hs with hz | hz
  · obtain ⟨e1, e2⟩ := freeL_none _ hz 0 0 k
    rw [hz]
    rw [e1, e2] at h
    omega
  · rw [hz, h1]
    omega
theorem sumP_nonneg (l : List Part) (n : Int) (hn : 0 ≤ n) : 0 ≤ sumP l n := by
  rw [sumP_eq]
  have : 0 ≤ (seriesP l : Int) * n := Int.mul_nonneg (by omega) hn
  omega
theorem countP_nonneg (x : Part) (n : Int) (hn : 0 ≤ n) : 0 ≤ countP x n := by
  unfold countP
  split
  · exact hn
  · split <;> decide
theorem sortsP_len (l : List Part) (n : Int) (hn : 0 ≤ n) : ((sortsP l n).length : Int) = sumP l n := by
  induction l with
  | nil => rfl
  | cons x r ih =>
    have := countP_nonneg x n hn
    rw [sortsP, sumP, List.length_append, List.length_replicate, ← ih]
    omega
theorem kid_size {t k : Tr} {j : Nat} (h : t.kids[j]? = some k) : SizeOf.sizeOf k < SizeOf.sizeOf t := by
  cases t with
  | mk kd x ls ks =>
    have := List.sizeOf_lt_of_mem (List.mem_of_getElem? (show ks[j]? = some k from h))
    rw [Tr.mk.sizeOf_spec]
    omega
end Go.Proofs.YtpdmklbfbpdneaaGreat
