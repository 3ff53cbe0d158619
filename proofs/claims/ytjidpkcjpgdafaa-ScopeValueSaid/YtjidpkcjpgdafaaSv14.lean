/- Part 14: The contract of lex.Fuses. -/
import Derived.Test.YtjidpkcjpgdafaaSv1
import Derived.Test.YtjidpkcjpgdafaaSv5
import Derived.Test.YtjidpkcjpgdafaaSv13
import Derived.Deep.AppendLies
set_option maxRecDepth 100000
set_option maxHeartbeats 4000000
namespace Go.Proofs.Ytjidpkcjpgdafaa
open Go.RowKit
theorem tokCells_at {ts:List Tok} {i:Nat} {t:Tok} (ht:ts[i]? = some t):∀ (j:Nat) (u:Value),j < 3 → [Value.int .i64 t.kind,.string t.lead,.string t.text][j]? = some u → (Qa3 ts)[i * 3 + j]? = some u:=by
 induction ts generalizing i with
 | nil=>simp at ht
 | cons a r ih =>
  intro j u hj hu
  have e:Qa3 (a :: r) = [Value.int .i64 a.kind,.string a.lead,.string a.text] ++ Qa3 r:=by unfold Qa3;rw [List.flatMap_cons]
  rw [e]
  cases i with
  | zero =>
   have:a = t:=by simpa using ht
   subst this
   rw [List.getElem?_append_left (by simp;omega)]
   simpa using hu
  | succ i =>
   rw [List.getElem?_append_right (by simp;omega)]
   have:=ih (by simpa using ht) j u hj hu
   rw [← this]
   congr 1
   simp
   omega
theorem Toks.of_own {w:World} {base:Nat} {A:Option Addr} {c:Nat} {ts:List Tok} (h:w.ownsRow base 51 3 (.slice A ts.length c) ts.length (Qa3 ts)):Toks w A ts:=fun hne=>by
 obtain ⟨g,cap,hv,_,_⟩:=h.form (by rcases ts with _ | ⟨t,r⟩;exact absurd rfl hne;simp)
 have hA:A = some ⟨g,0,none⟩:=by injection hv
 subst hA
 refine ⟨g,0,rfl,fun i t ht=>?_⟩
 have hc:=h.cells (g:=g) rfl
 have hj:=tokCells_at ht
 have hk:∀ j (u:Value),j < 3 → [Value.int .i64 t.kind,.string t.lead,.string t.text][j]? = some u → w.cell? ⟨g,0 + i * 3 + j,none⟩ = some u:=fun j u h1 h2=>by
  have:=hc (i * 3 + j) u (hj j u h1 h2)
  unfold Addr.add at this
  split at this
  ·rename_i h0
   rw [show 0 + i * 3 + j = 0 from by omega]
   exact this
  ·simpa using this
 exact ⟨hk 0 _ (by omega) rfl,hk 1 _ (by omega) rfl,hk 2 _ (by omega) rfl⟩
end Go.Proofs.Ytjidpkcjpgdafaa
