/- The contract of lex.Fuses. Condition: lengths that a machine can hold, together. -/
import Derived.Test.YtpdmklbfbpdneaaGreatLexSame
import Derived.Test.YtpdmklbfbpdneaaGreatLexClass
import Derived.Deep.AppendLies
namespace Go.Proofs.YtpdmklbfbpdneaaGreat
open Go.RowKit
theorem tokCells_at {ts : List Tok} {i : Nat} {t : Tok} (ht : ts[i]? = some t) : ∀ (j : Nat) (u : Value), j < 3 → [Value.int .i64 t.kind, .string t.lead, .string t.text][j]? = some u → (tokCells ts)[i * 3 + j]? = some u := by
  induction ts generalizing i with
  | nil => simp at ht
  | cons a r ih =>
    intro j u hj hu
    have e : tokCells (a :: r) = [Value.int .i64 a.kind, .string a.lead, .string a.text] ++ tokCells r := by unfold tokCells; rw [List.flatMap_cons]
    rw [e]
    cases i with
    | zero =>
      have : a = t := by simpa using ht
      subst this
      rw [List.getElem?_append_left (by simp; omega)]
      simpa using hu
    | succ i =>
      rw [List.getElem?_append_right (by simp; omega)]
      have := ih (by simpa using ht) j u hj hu
      rw [← this]
      congr 1
      simp
      omega
theorem Toks.of_own {w : World} {base : Nat} {A : Option Addr} {c : Nat} {ts : List Tok} (h : w.ownsRow base 61 3 (.slice A ts.length c) ts.length (tokCells ts)) : Toks w A ts := fun hne => by
  obtain ⟨g, cap, hv, _, _⟩ := h.form (by rcases ts with _ | ⟨t, r⟩; exact absurd rfl hne; simp)
  have hA : A = some ⟨g, 0, none⟩ := by injection hv
  subst hA
  refine ⟨g, 0, rfl, fun i t ht => ?_⟩
  have hc := h.cells (g := g) rfl
  have hj := tokCells_at ht
  have hk : ∀ j (u : Value), j < 3 → [Value.int .i64 t.kind, .string t.lead, .string t.text][j]? = some u → w.cell? ⟨g, 0 + i * 3 + j, none⟩ = some u := fun j u h1 h2 => by
    have := hc (i * 3 + j) u (hj j u h1 h2)
    unfold Addr.add at this
    split at this
    · rename_i h0
      rw [show 0 + i * 3 + j = 0 from by omega]
      exact this
    · simpa using this
  exact ⟨hk 0 _ (by omega) rfl, hk 1 _ (by omega) rfl, hk 2 _ (by omega) rfl⟩
theorem own_shape {w : World} {base e size n : Nat} {v : Value} {xs : List Value} (h : w.ownsRow base e size v n xs) : ∃ A c, v = .slice A n c := by
  rcases h.2 with ⟨h1, h2⟩ | ⟨g, cap, _, h1, _⟩
  · subst h2
    exact ⟨none, 0, h1⟩
  · exact ⟨_, cap, h1⟩
/-- The two tokens a and b without leads. -/
def twoToks (a b : ByteArray) : List Tok := [⟨classN (suf a 0), ByteArray.empty, a⟩, ⟨classN (suf b 0), ByteArray.empty, b⟩]
/-- Fuses (P1.5). -/
def fusesB (a b : ByteArray) : Bool := classN (suf a 0) != 0 && classN (suf b 0) != 0 && !sameB (scanR (a ++ b)).toks (twoToks a b)
theorem scanR_few (s : ByteArray) : (scanR s).toks.length ≤ 4096 := by
  unfold scanR
  split
  · exact Nat.zero_le _
  · rename_i h
    unfold scanG
    have : ∀ f k acc, k ≤ s.size → acc.length ≤ k → (scanF s f k acc).toks.length ≤ 4096 := by
      intro f
      induction f with
      | zero => intro k acc _ _; exact Nat.zero_le _
      | succ f ih =>
        intro k acc hk ha
        unfold scanF
        split
        · show acc.length ≤ 4096
          omega
        · split
          · rename_i he
            have h1 := tok_len he
            have h2 := skipTo_ge s k
            have h3 := skipTo_le s k hk
            rw [suf_length] at h1
            exact ih _ _ (by omega) (by rw [List.length_append]; simp; omega)
          · exact Nat.zero_le _
    exact this _ _ _ (Nat.zero_le _) (Nat.zero_le _)
theorem two_toks (w : World) (a b : ByteArray) : Toks (w.alloc (.cells #[.int .i64 (classN (suf a 0)), .string ⟨#[]⟩, .string a, .int .i64 (classN (suf b 0)), .string ⟨#[]⟩, .string b] 61)) (some ⟨w.heap.size, 0, none⟩) (twoToks a b) := fun _ =>
  ⟨w.heap.size, 0, rfl, fun i t ht => by
    match i, ht with
    | 0, ht => simp [twoToks] at ht; subst ht; simp; rfl
    | 1, ht => simp [twoToks] at ht; subst ht; simp; rfl
    | (i + 2), ht => simp [twoToks] at ht⟩
theorem equal_two (A : Option Addr) (c : Nat) (ts : List Tok) (a b : ByteArray) (w : World) (ha : Toks w A ts) (hn : ts.length ≤ 4096) :
    Calls Tryz.prog 179 #[.slice A ts.length c, .slice (some ⟨w.heap.size, 0, none⟩) 2 2] (w.alloc (.cells #[.int .i64 (classN (suf a 0)), .string ⟨#[]⟩, .string a, .int .i64 (classN (suf b 0)), .string ⟨#[]⟩, .string b] 61))
      fun e w' => e = .returned (.bool (sameB ts (twoToks a b))) ∧ Below w.heap.size w w' := by
  refine (equal_any A (some ⟨w.heap.size, 0, none⟩) c 2 ts (twoToks a b) (w.alloc (.cells #[.int .i64 (classN (suf a 0)), .string ⟨#[]⟩, .string a, .int .i64 (classN (suf b 0)), .string ⟨#[]⟩, .string b] 61)) (ha.below ((Below.refl _ _).alloc (Nat.le_refl _) _)) (two_toks w a b) (by omega)).mono fun e w' h => ?_
  obtain ⟨h1, n, rfl⟩ := h
  exact ⟨h1, below_drewN ((Below.refl _ _).alloc (Nat.le_refl _) _) _⟩
set_option maxHeartbeats 1000000 in
theorem fuses_any (a b : ByteArray) (w : World) (hs : a.size + b.size < maxLen) :
    Calls Tryz.prog 168 #[.string a, .string b] w fun e w' => e = .returned (.bool (fusesB a b)) ∧ Below w.heap.size w w' := by
  have HA := Lib.hid (show a.size < maxLen from by omega)
  have HB := Lib.hid (show b.size < maxLen from by omega)
  have HS := Lib.hid (show (a ++ b).size ≤ maxLen from by rw [ByteArray.size_append]; omega)
  unfold maxLen at hs
  by_cases h1 : classN (suf a 0) = 0
  · have h1' : (((classN (suf a 0) : Nat) : Int) == 0) = true := by simp [h1]
    have HF := Lib.hid (show fusesB a b = false from by unfold fusesB; simp [h1])
    clear h1
    go_enter Tryz.func168, Tryz.ntmps168
    go_wp2_with (first | (go_at_call 100; ((with_reducible refine (class_any a _ HA.out).mono ?_); rintro e w' ⟨rfl, rfl⟩)) | (go_at_call 100; ((with_reducible refine (class_any b _ HB.out).mono ?_); rintro e w' ⟨rfl, rfl⟩)))
    go_ret
    exact ⟨ret_bool HF.out.symm, Below.refl _ _⟩
  · by_cases h2 : classN (suf b 0) = 0
    · have h1' : (((classN (suf a 0) : Nat) : Int) == 0) = false := by simp; omega
      have h2' : (((classN (suf b 0) : Nat) : Int) == 0) = true := by simp [h2]
      have HF := Lib.hid (show fusesB a b = false from by unfold fusesB; simp [h2])
      clear h1 h2
      go_enter Tryz.func168, Tryz.ntmps168
      go_wp2_with (first | (go_at_call 100; ((with_reducible refine (class_any a _ HA.out).mono ?_); rintro e w' ⟨rfl, rfl⟩)) | (go_at_call 100; ((with_reducible refine (class_any b _ HB.out).mono ?_); rintro e w' ⟨rfl, rfl⟩)))
      go_ret
      exact ⟨ret_bool HF.out.symm, Below.refl _ _⟩
    · have h1' : (((classN (suf a 0) : Nat) : Int) == 0) = false := by simp; omega
      have h2' : (((classN (suf b 0) : Nat) : Int) == 0) = false := by simp; omega
      have HF := Lib.hid (show fusesB a b = !sameB (scanR (a ++ b)).toks (twoToks a b) from by unfold fusesB; simp [h1, h2])
      clear h1 h2
      go_enter Tryz.func168, Tryz.ntmps168
      go_wp2_with (first | (go_at_call 100; ((with_reducible refine (class_any a _ HA.out).mono ?_); rintro e w' ⟨rfl, rfl⟩)) | (go_at_call 100; ((with_reducible refine (class_any b _ HB.out).mono ?_); rintro e w' ⟨rfl, rfl⟩)) | (go_at_call 42; refine (scan_any (a ++ b) _ HS.out).mono ?_; rintro e w1 ⟨v, rfl, ho, hb⟩; obtain ⟨A, c, rfl⟩ := own_shape ho; have HO := Lib.hid ho; have HW := Lib.hid hb; clear ho hb) | (go_at_call 179; refine (equal_two A c _ a b w1 (Toks.of_own HO.out) (scanR_few _)).mono ?_; rintro e w2 ⟨rfl, hb2⟩; have HW2 := Lib.hid hb2; clear hb2))
      go_ret
      exact ⟨ret_bool HF.out.symm, HW.out.trans (HW2.out.mono HW.out.size)⟩
end Go.Proofs.YtpdmklbfbpdneaaGreat
