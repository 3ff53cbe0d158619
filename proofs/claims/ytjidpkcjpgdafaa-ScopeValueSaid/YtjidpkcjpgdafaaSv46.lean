/- Part 46: Plain: a row of lets of one name, and its variables. -/
import Derived.Test.YtjidpkcjpgdafaaSv1
import Derived.Test.YtjidpkcjpgdafaaSv45
set_option maxRecDepth 100000
set_option maxHeartbeats 4000000
namespace Go.Proofs.Ytjidpkcjpgdafaa
open Go.RowKit
def varX:Tr:=.mk 12 ⟨#[120]⟩ [] []
def letN:Nat → Tr
 | 0=>varX
 | n + 1=>.mk 20 ⟨#[120]⟩ [] [varX,letN n]
def fnN (n:Nat):Tr:=.mk 2 ⟨#[102]⟩ [] [.mk 5 ⟨#[]⟩ [] [],letN n]
def goodV (vs:List Vrb) (i:Nat):Bool:=match vs[i]? with
 | some (_,some q)=>decide (q.length = i) && decide (0 < i)
 | some (_,none)=>decide (i = 0)
 | none=>false
def factsV (n:Nat):Bool:=Qa4 (fnN n) && Qce (fnN n) && decide (Qbl (fnN n) ≤ 10000) && decide ((varsR (fnN n)).length = n + 1) && (List.range (n + 1)).all (goodV (varsR (fnN n)))
theorem facts_all:(List.range 31).all factsV = true:=by kernel_rfl
theorem facts_at {n:Nat} (h:n ≤ 30):Qa4 (fnN n) = true ∧ Qce (fnN n) = true ∧ Qbl (fnN n) ≤ 10000 ∧ (varsR (fnN n)).length = n + 1 ∧ ∀ i,i ≤ n → goodV (varsR (fnN n)) i = true:=by
 have h1:=List.all_eq_true.1 facts_all n (List.mem_range.2 (by omega))
 unfold factsV at h1
 simp only [Bool.and_eq_true,decide_eq_true_eq] at h1
 exact ⟨h1.1.1.1.1,h1.1.1.1.2,h1.1.1.2,h1.1.2,fun i hi=>List.all_eq_true.1 h1.2 i (List.mem_range.2 (by omega))⟩
theorem good_zero {vs:List Vrb} (h:goodV vs 0 = true):∃ p,vs[0]? = some (p,none):=by
 unfold goodV at h
 split at h
 ·rename_i p q he
  simp at h
 ·rename_i p he
  exact ⟨p,he⟩
 ·cases h
theorem good_next {vs:List Vrb} {i:Nat} (hi:0 < i) (h:goodV vs i = true):∃ p q,vs[i]? = some (p,some q) ∧ q.length = i:=by
 unfold goodV at h
 split at h
 ·rename_i p q he
  simp at h
  exact ⟨p,q,he,h.1⟩
 ·rename_i p he
  simp at h
  omega
 ·cases h
end Go.Proofs.Ytjidpkcjpgdafaa
