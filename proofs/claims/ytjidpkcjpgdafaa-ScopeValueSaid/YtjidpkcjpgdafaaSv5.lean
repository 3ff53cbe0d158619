/- Part 5: Lists of tokens in memory; the contracts of the reference's Same and of slices.Equal at tokens. -/
import Derived.Test.YtjidpkcjpgdafaaSv1
import Derived.Test.YtjidpkcjpgdafaaSv4
import Derived.Laws.StructEq
set_option maxRecDepth 100000
set_option maxHeartbeats 4000000
namespace Go.Proofs.Ytjidpkcjpgdafaa
open Go.RowKit
def Toks (w:World) (A:Option Addr) (ts:List Tok):Prop :=
 ts ≠ [] → ∃ b off,A = some ⟨b,off,none⟩ ∧ ∀ (i:Nat) (t:Tok),ts[i]? = some t →
  w.cell? ⟨b,off + i * 3,none⟩ = some (.int .i64 t.kind) ∧ w.cell? ⟨b,off + i * 3 + 1,none⟩ = some (.string t.lead) ∧ w.cell? ⟨b,off + i * 3 + 2,none⟩ = some (.string t.text)
theorem Toks.same {w w':World} {A:Option Addr} {ts:List Tok} (h:Toks w A ts) (hw:∀ p:Addr,(∃ u,w.cell? p = some u) → w'.cell? p = w.cell? p):Toks w' A ts:=fun hne=>by
 obtain ⟨b,off,hA,hc⟩:=h hne
 refine ⟨b,off,hA,fun i t ht=>?_⟩
 obtain ⟨h1,h2,h3⟩:=hc i t ht
 exact ⟨(hw _ ⟨_,h1⟩).trans h1,(hw _ ⟨_,h2⟩).trans h2,(hw _ ⟨_,h3⟩).trans h3⟩
theorem Toks.below {w w':World} {A:Option Addr} {ts:List Tok} (h:Toks w A ts) (hb:Below w.heap.size w w'):Toks w' A ts :=
 h.same fun p ⟨_,hu⟩=>hb.cell (xK w p hu)
end Go.Proofs.Ytjidpkcjpgdafaa
