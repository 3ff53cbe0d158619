/- The reference's parser as a plain function: it gives what the program's gives. No condition. -/
import Derived.Test.YthhgincbifckgaaIdnPure
namespace Go.Proofs.Ythhgincbifckgaa
/-- The reference's loop. -/
def rL (a n d : Nat) : List UInt8 → Option (Nat × Nat)
  | [] => some (a, n)
  | c :: r =>
    if c.toNat = 46 then rL a n (d + 1) r
    else if c.toNat < 48 ∨ 57 < c.toNat ∨ 1048576 < a ∨ 1048576 < n then none
    else if d = 0 then rL (a * 10 + (c.toNat - 48)) n d r
    else rL a (n * 10 + (c.toNat - 48)) d r
theorem rL_dot (a n d : Nat) (c : UInt8) (r : List UInt8) (h : c.toNat = 46) : rL a n d (c :: r) = rL a n (d + 1) r := by rw [rL, if_pos h]
theorem rL_bad (a n d : Nat) (c : UInt8) (r : List UInt8) (h : c.toNat ≠ 46) (hb : c.toNat < 48 ∨ 57 < c.toNat ∨ 1048576 < a ∨ 1048576 < n) : rL a n d (c :: r) = none := by rw [rL, if_neg h, if_pos hb]
theorem rL_site (a n : Nat) (c : UInt8) (r : List UInt8) (h0 : 48 ≤ c.toNat) (h1 : c.toNat ≤ 57) (ha : a ≤ 1048576) (hn : n ≤ 1048576) : rL a n 0 (c :: r) = rL (a * 10 + (c.toNat - 48)) n 0 r := by rw [rL, if_neg (by omega), if_neg (by omega), if_pos rfl]
theorem rL_ser (a n d : Nat) (c : UInt8) (r : List UInt8) (h0 : 48 ≤ c.toNat) (h1 : c.toNat ≤ 57) (ha : a ≤ 1048576) (hn : n ≤ 1048576) (hd : d ≠ 0) : rL a n d (c :: r) = rL a (n * 10 + (c.toNat - 48)) d r := by rw [rL, if_neg (by omega), if_neg (by omega), if_neg hd]
theorem digs_cons {c : UInt8} {p : List UInt8} (h : digsB (c :: p) = true) : 48 ≤ c.toNat ∧ c.toNat ≤ 57 ∧ digsB p = true := by
  unfold digsB at h ⊢
  simp at h ⊢
  exact ⟨h.1.1, h.1.2, h.2⟩
theorem rL_sites (p r : List UInt8) (a : Nat) (hd : digsB p = true) (h : numL a p ≤ 1048575) : rL a 0 0 (p ++ r) = rL (numL a p) 0 0 r := by
  induction p generalizing a with
  | nil => rfl
  | cons c p ih =>
    obtain ⟨h0, h1, h2⟩ := digs_cons hd
    have hge := numL_ge (a * 10 + (c.toNat - 48)) p
    have h' : numL (a * 10 + (c.toNat - 48)) p ≤ 1048575 := h
    rw [List.cons_append, rL_site a 0 c _ h0 h1 (by omega) (by omega), ih _ h2 h']
    rfl
theorem rL_sers (p : List UInt8) (a n : Nat) (ha : a ≤ 1048576) (hd : digsB p = true) (h : numL n p ≤ 1048575) : rL a n 1 p = some (a, numL n p) := by
  induction p generalizing n with
  | nil => rfl
  | cons c p ih =>
    obtain ⟨h0, h1, h2⟩ := digs_cons hd
    have hge := numL_ge (n * 10 + (c.toNat - 48)) p
    have h' : numL (n * 10 + (c.toNat - 48)) p ≤ 1048575 := h
    rw [rL_ser a n 1 c p h0 h1 ha (by omega) (by decide), ih _ h2 h']
    rfl
/-- What the reference's parser gives. -/
def parseR (l : List UInt8) : Int × Int :=
  if 20 < l.length then (0, 13)
  else match rL 0 0 0 l with
    | none => (0, 13)
    | some (a, n) => if makeE a n = 0 ∧ fmtI (makeI a n) = l then (makeI a n, 0) else (0, 13)
theorem parse_same (l : List UInt8) : parseR l = parseP l := by
  by_cases h : ∃ x, validB x = true ∧ fmtI x = l
  · obtain ⟨x, hv, rfl⟩ := h
    rw [parse_fmt x hv]
    obtain ⟨h1, h2⟩ := make_valid hv
    have hb : 1 ≤ x / 1048576 ∧ x / 1048576 ≤ 32 ∧ 1 ≤ x % 1048576 ∧ x % 1048576 ≤ 1048575 := by unfold validB siteB serB at hv; simp at hv; omega
    have hf : fmtI x = decL (x / 1048576).toNat ++ 46 :: decL (x % 1048576).toNat := by unfold fmtI fmtL; rw [if_pos hv]
    have hl : ¬ 20 < (fmtI x).length := by
      have k1 := decL_len (x / 1048576).toNat 7 (by omega) (by decide)
      have k2 := decL_len (x % 1048576).toNat 7 (by omega) (by decide)
      rw [hf, List.length_append, List.length_cons]
      omega
    have hr : rL 0 0 0 (fmtI x) = some ((x / 1048576).toNat, (x % 1048576).toNat) := by
      rw [hf, rL_sites _ _ _ (decL_digs _) (by rw [decL_num]; omega), decL_num, rL_dot _ _ _ _ _ (by decide), rL_sers _ _ _ (by omega) (decL_digs _) (by rw [decL_num]; omega), decL_num]
    have c1 : (((x / 1048576).toNat : Nat) : Int) = x / 1048576 := by omega
    have c2 : (((x % 1048576).toNat : Nat) : Int) = x % 1048576 := by omega
    unfold parseR
    rw [if_neg hl, hr]
    dsimp only
    rw [c1, c2, h1, if_pos ⟨h2, rfl⟩]
  · rw [parse_bad l (fun x hv e => h ⟨x, hv, e⟩)]
    unfold parseR
    split
    · rfl
    · split
      · rfl
      · rename_i a n _
        rw [if_neg]
        rintro ⟨he, hf⟩
        have hs : siteB (a : Int) = true ∧ serB (n : Int) = true := by
          unfold makeE at he
          split at he
          · rename_i hh; simpa using hh
          · simp at he
        exact h ⟨_, (make_parts hs.1 hs.2).1, hf⟩
end Go.Proofs.Ythhgincbifckgaa
