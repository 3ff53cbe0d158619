/- The contract of within. Condition: at most 60 levels are asked for. -/
import Derived.Test.YtipkmffhebachaaSynTree
import Derived.Deep.LoopGhost
namespace Go.Proofs.Ytipkmffhebachaa
open Go.RowKit
theorem TrAt.keep {S : Nat → Prop} {w w' : World} {t : Tr} {v : TV} (h : TrAt S w t v) (hb : Below w.heap.size w w') : TrAt S w' t v := TrAt.move (fun _ h => h) (fun k _ hlt => hb.block k hlt) t v h
/-- What is to be read of a kid. -/
theorem TrAt.kid {S : Nat → Prop} {w : World} {t : Tr} {v : TV} (h : TrAt S w t v) {j : Nat} {k : Tr} (hk : t.kids[j]? = some k) :
    v.kl = t.kids.length ∧ ∃ b off, v.ka = some ⟨b, off, none⟩ ∧ S b ∧ ∃ u : TV, w.cell? ⟨b, off + j * 4, none⟩ = some (.int .i64 u.kind) ∧ w.cell? ⟨b, off + j * 4 + 1, none⟩ = some (.string u.text) ∧ w.cell? ⟨b, off + j * 4 + 2, none⟩ = some (.slice u.la u.ll u.lc) ∧ w.cell? ⟨b, off + j * 4 + 3, none⟩ = some (.slice u.ka u.kl u.kc) ∧ TrAt S w k u := by
  cases t with
  | mk kd tx ls ks =>
    unfold TrAt at h
    obtain ⟨_, _, _, h4, _, h6, _⟩ := h
    obtain ⟨b, off, hA, hb, hc⟩ := h6 (by intro e; rw [show (Tr.mk kd tx ls ks).kids = ks from rfl, e] at hk; simp at hk)
    exact ⟨h4, b, off, hA, hb, TrsAt.get ks off hc j k hk⟩
theorem TrAt.addr {S : Nat → Prop} {w : World} {t : Tr} {v : TV} (h : TrAt S w t v) : t.kids.length = 0 ∨ ∃ b off, v.ka = some ⟨b, off, none⟩ := by
  cases t with
  | mk kd tx ls ks =>
    unfold TrAt at h
    cases ks with
    | nil => exact .inl rfl
    | cons a r =>
      obtain ⟨b, off, hA, _⟩ := h.2.2.2.2.2.1 (by simp)
      exact .inr ⟨b, off, hA⟩
theorem TrAt.at {S : Nat → Prop} {w : World} {t : Tr} {v : TV} {b off : Nat} (h : TrAt S w t v) (hA : v.ka = some ⟨b, off, none⟩) {j : Nat} {k : Tr} (hk : t.kids[j]? = some k) :
    ∃ u : TV, w.cell? ⟨b, off + j * 4, none⟩ = some (.int .i64 u.kind) ∧ w.cell? ⟨b, off + j * 4 + 1, none⟩ = some (.string u.text) ∧ w.cell? ⟨b, off + j * 4 + 2, none⟩ = some (.slice u.la u.ll u.lc) ∧ w.cell? ⟨b, off + j * 4 + 3, none⟩ = some (.slice u.ka u.kl u.kc) ∧ TrAt S w k u := by
  obtain ⟨_, b', off', hA', _, u, hu⟩ := h.kid hk
  rw [hA] at hA'
  injection hA' with e
  injection e with e1 e2 _
  subst e1 e2
  exact ⟨u, hu⟩
theorem TrAt.kl {S : Nat → Prop} {w : World} {t : Tr} {v : TV} (h : TrAt S w t v) : v.kl = t.kids.length ∧ v.ll = t.leads.length ∧ v.kind = t.kind ∧ v.text = t.text := by
  cases t with
  | mk kd tx ls ks =>
    unfold TrAt at h
    exact ⟨h.2.2.2.1, h.2.2.1, h.1, h.2.1⟩
theorem TrAt.caps {S : Nat → Prop} {w : World} {t : Tr} {v : TV} (h : TrAt S w t v) : v.ll ≤ v.lc ∧ v.kl ≤ v.kc := by
  cases t with
  | mk kd tx ls ks =>
    unfold TrAt at h
    exact h.2.2.2.2.2.2
theorem withinT_step (t : Tr) (n : Nat) : withinT t (n + 1) = withinL t.kids n := by
  cases t with
  | mk kd tx ls ks => rw [withinT]; rfl
theorem withinT_zero (t : Tr) : withinT t 0 = false := by
  cases t with
  | mk kd tx ls ks => rw [withinT]
theorem withinL_at (l : List Tr) (n j : Nat) (k : Tr) (hk : l[j]? = some k) : withinL (l.drop j) n = (withinT k n && withinL (l.drop (j + 1)) n) := by
  obtain ⟨hj, he⟩ := List.getElem?_eq_some_iff.1 hk
  rw [List.drop_eq_getElem_cons hj, he, withinL]
theorem withinL_end (l : List Tr) (n j : Nat) (h : l.length ≤ j) : withinL (l.drop j) n = true := by
  rw [List.drop_eq_nil_of_le h, withinL]
mutual
/-- No list in a tree is too long. -/
def smallT : Tr → Bool
  | .mk _ _ ls ks => decide (ls.length ≤ 140737488355328) && decide (ks.length ≤ 140737488355328) && smallL ks
def smallL : List Tr → Bool
  | [] => true
  | t :: r => smallT t && smallL r
end
theorem smallL_get : (l : List Tr) → (j : Nat) → (k : Tr) → smallL l = true → l[j]? = some k → smallT k = true
  | [], j, k, _, h => by simp at h
  | a :: r, j, k, hs, h => by
    unfold smallL at hs
    rw [Bool.and_eq_true] at hs
    cases j with
    | zero => simp at h; subst h; exact hs.1
    | succ j => exact smallL_get r j k hs.2 (by simpa using h)
theorem smallT_kids {t : Tr} (h : smallT t = true) : t.leads.length ≤ 140737488355328 ∧ t.kids.length ≤ 140737488355328 ∧ ∀ (j : Nat) (k : Tr), t.kids[j]? = some k → smallT k = true := by
  cases t with
  | mk kd tx ls ks =>
    unfold smallT at h
    simp only [Bool.and_eq_true, decide_eq_true_eq] at h
    exact ⟨h.1.1, h.1.2, fun j k hk => smallL_get ks j k h.2 hk⟩
set_option maxRecDepth 100000 in
set_option maxHeartbeats 1000000 in
theorem within_syn (n : Nat) : ∀ (S : Nat → Prop) (t : Tr) (v : TV) (w : World), n ≤ 60 → TrAt S w t v → smallT t = true →
    Calls Try.prog 22 #[.agg #[.int .i64 v.kind, .string v.text, .slice v.la v.ll v.lc, .slice v.ka v.kl v.kc], .int .i64 n] w fun e w' => e = .returned (.bool (withinT t n)) ∧ Below w.heap.size w w' := by
  induction n with
  | zero =>
    intro S t v w _ _ _
    have HR := Lib.hid (withinT_zero t)
    go_enter Try.func22, Try.ntmps22
    go_wp2
    go_ret
    exact ⟨by rw [HR.out]; rfl, (Below.refl _ _).alloc (Nat.le_refl _) _⟩
  | succ n ih =>
    intro S t v w hn h hs
    obtain ⟨_, hk1, hk2⟩ := smallT_kids hs
    have HK2 := Lib.hid hk2
    have HIH := Lib.hid ih
    have hkl := h.kl.1
    have hadr := h.addr
    obtain ⟨vk, vx, vla, vll, vlc, vka, vkl, vkc⟩ := v
    simp only at hkl hadr
    subst hkl
    have HN := Lib.hid (show n ≤ 60 from by omega)
    have hn0 : ((n : Int) + 1 == 0) = false := beqF (by omega)
    have hn60 : (n : Int) ≤ 60 := by omega
    have hnw : (n : Int) + 1 - 1 = (n : Int) := by omega
    have HT := Lib.hid h
    clear h hs hk2 ih hn
    rcases hadr with h0 | ⟨b, off, rfl⟩
    · have HKL := Lib.hid h0
      clear h0
      go_enter Try.func22, Try.ntmps22
      go_wp2
      go_loopg [12] t.kids.length (fun g u12 wr => ∃ j : Nat, u12 = .int .i64 j ∧ j + g = t.kids.length ∧ Below w.heap.size w wr ∧ withinT t (n + 1) = withinL (t.kids.drop j) n)
      case atStart => exact ⟨0, rfl, by omega, (Below.refl _ _).alloc (Nat.le_refl _) _, withinT_step t n⟩
      case round =>
        obtain ⟨j, rfl, hj, hb, hw⟩ := hrel
        have HB := Lib.hid hb
        have HJ := Lib.hid hj
        have HW := Lib.hid hw
        clear hj hb hw
        have hlt : ¬ j < t.kids.length := by have := HKL.out; omega
        have HR := Lib.hid (HW.out.trans (withinL_end t.kids n j (by omega)))
        go_wp2
        go_ret
        exact ⟨by rw [HR.out]; rfl, HB.out⟩
    · skip
      go_enter Try.func22, Try.ntmps22
      go_wp2
      go_loopg [12] t.kids.length (fun g u12 wr => ∃ j : Nat, u12 = .int .i64 j ∧ j + g = t.kids.length ∧ Below w.heap.size w wr ∧ withinT t (n + 1) = withinL (t.kids.drop j) n)
      case atStart => exact ⟨0, rfl, by omega, (Below.refl _ _).alloc (Nat.le_refl _) _, withinT_step t n⟩
      case round =>
        obtain ⟨j, rfl, hj, hb, hw⟩ := hrel
        have HB := Lib.hid hb
        have HJ := Lib.hid hj
        have HW := Lib.hid hw
        clear hj hb hw
        by_cases hlt : j < t.kids.length
        · obtain ⟨k, hk⟩ : ∃ k, t.kids[j]? = some k := ⟨_, List.getElem?_eq_getElem hlt⟩
          obtain ⟨u, c0, c1, c2, c3, hu⟩ := (HT.out.keep HB.out).at rfl hk
          have HU := Lib.hid hu
          have HSK := Lib.hid (HK2.out j k hk)
          have HLT := Lib.hid hlt
          have HAT := Lib.hid (HW.out.trans (withinL_at t.kids n j k hk))
          have hj0 : (0 : Int) ≤ (j : Int) := by omega
          have hj1 : (j : Int) < (t.kids.length : Int) := by omega
          have hj2 : (j : Int) + 1 ≤ 140737488355328 := by omega
          clear hk hu
          cases hwk : withinT k n
          · have HR := Lib.hid (show withinT t (n + 1) = false from by rw [HAT.out, hwk]; rfl)
            go_wp2_with (go_at_call 22; refine (HIH.out S k u _ HN.out (HU.out.keep ((Below.refl _ _).alloc (Nat.le_refl _) _)) HSK.out).mono ?_; rintro e w2 ⟨rfl, hb2⟩; have HB2 := Lib.hid ((HB.out.alloc HB.out.size (.cells #[.int .i64 u.kind, .string u.text, .slice u.la u.ll u.lc, .slice u.ka u.kl u.kc] 26)).trans (hb2.mono (by have := HB.out.size; simp; omega))); clear hb2)
            go_ret
            exact ⟨by rw [HR.out]; rfl, HB2.out⟩
          · have HR := Lib.hid (show withinT t (n + 1) = withinL (t.kids.drop (j + 1)) n from by rw [HAT.out, hwk, Bool.true_and])
            go_wp2_with (go_at_call 22; refine (HIH.out S k u _ HN.out (HU.out.keep ((Below.refl _ _).alloc (Nat.le_refl _) _)) HSK.out).mono ?_; rintro e w2 ⟨rfl, hb2⟩; have HB2 := Lib.hid ((HB.out.alloc HB.out.size (.cells #[.int .i64 u.kind, .string u.text, .slice u.la u.ll u.lc, .slice u.ka u.kl u.kc] 26)).trans (hb2.mono (by have := HB.out.size; simp; omega))); clear hb2)
            go_roundg (gk - 1)
            case measure => have := HJ.out; have := HLT.out; omega
            case rel => exact ⟨j + 1, by go_num, by have := HJ.out; have := HLT.out; omega, HB2.out, HR.out⟩
        · have HR := Lib.hid (HW.out.trans (withinL_end t.kids n j (by omega)))
          go_wp2
          go_ret
          exact ⟨by rw [HR.out]; rfl, HB.out⟩
end Go.Proofs.Ytipkmffhebachaa
