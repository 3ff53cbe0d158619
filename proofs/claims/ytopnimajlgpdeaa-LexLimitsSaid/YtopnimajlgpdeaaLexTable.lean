/- A table, computed by the kernel: what Scan answers for a space and n equal letters, a space and n equal digits, and M. with n letters and 9, for each n from 1 to 60. No condition. -/
import Derived.Test.YtopnimajlgpdeaaLexScanPure
import Derived.Laws.BytesArg
import Derived.KernelRfl
namespace Go.Proofs.Ytopnimajlgpdeaa
def rep (ch : Int) (n : Nat) : ByteArray := strOfNums (List.replicate n ch)
/-- One token of this text and no error, or no token and 'too long' at 1. -/
def oneTok (ok : Bool) (text : List UInt8) (r : Res) : Bool :=
  match r.toks with
  | [t] => ok && t.text.data.toList == text && r.e == 0
  | [] => !ok && r.e == 3 && r.place == 1
  | _ => false
/-- One token of the kind 3 and no error, or an error. -/
def oneKind (ok : Bool) (r : Res) : Bool :=
  match r.toks with
  | [t] => ok && t.kind == 3 && r.e == 0
  | _ => !ok && r.e != 0
def wordSrc (ch : Int) (n : Nat) : ByteArray := ⟨#[32]⟩ ++ rep ch n
def pairSrc (ch : Int) (n : Nat) : ByteArray := ⟨#[77, 46]⟩ ++ rep ch n ++ ⟨#[57]⟩
def goodWord (n d : Nat) : Bool := oneTok (decide (n ≤ 24)) (rep (97 + (d : Int)) n).data.toList (scanR (wordSrc (97 + (d : Int)) n))
def goodDigits (n d : Nat) : Bool := oneTok (decide (n ≤ 15)) (rep (49 + (d : Int)) n).data.toList (scanR (wordSrc (49 + (d : Int)) n))
def goodPair (n d : Nat) : Bool := oneKind (decide (n + 1 ≤ 24)) (scanR (pairSrc (97 + (d : Int)) n))
theorem words_table : ((List.range 60).all fun n => (List.range 26).all fun d => goodWord (n + 1) d) = true := by kernel_rfl
theorem digits_table : ((List.range 60).all fun n => (List.range 9).all fun d => goodDigits (n + 1) d) = true := by kernel_rfl
theorem pairs_table : ((List.range 60).all fun n => (List.range 26).all fun d => goodPair (n + 1) d) = true := by kernel_rfl
theorem in_table {p : Nat → Nat → Bool} {m : Nat} (h : ((List.range 60).all fun n => (List.range m).all fun d => p (n + 1) d) = true) {n d : Nat} (h0 : 0 < n) (hn : n ≤ 60) (hd : d < m) : p n d = true := by
  have h1 := List.all_eq_true.1 h (n - 1) (by simp; omega)
  have h2 := List.all_eq_true.1 h1 d (by simp; omega)
  rwa [show n - 1 + 1 = n from by omega] at h2
end Go.Proofs.Ytopnimajlgpdeaa
