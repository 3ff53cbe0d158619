/- Part 5: Lists of tokens in memory; the contracts of the reference's Same and of slices.Equal at tokens. The contract of lex.Class; of the reference's reserved and word. The contract of lex.Fuses. -/
import Derived.Test.YtclkilljmdkfaaaTy4
import Derived.Test.YtclkilljmdkfaaaTy3
import Derived.Test.YtclkilljmdkfaaaTy1
import Derived.Laws.StructEq
import Derived.Deep.AppendLies
set_option maxRecDepth 100000
set_option maxHeartbeats 4000000
namespace Go.Proofs.Ytclkilljmdkfaaa
open Go.RowKit
def Toks (w:World) (A:Option Addr) (ts:List Tok):Prop :=
 ts ≠ [] → ∃ b off,A = some ⟨b,off,none⟩ ∧ ∀ (i:Nat) (t:Tok),ts[i]? = some t →
  w.cell? ⟨b,off + i * 3,none⟩ = some (.int .i64 t.kind) ∧ w.cell? ⟨b,off + i * 3 + 1,none⟩ = some (.string t.lead) ∧ w.cell? ⟨b,off + i * 3 + 2,none⟩ = some (.string t.text)
theorem Toks.same {w w':World} {A:Option Addr} {ts:List Tok} (h:Toks w A ts) (hw:∀ p:Addr,(∃ u,w.cell? p = some u) → w'.cell? p = w.cell? p):Toks w' A ts:=fun hne=>by
 obtain ⟨b,off,hA,hc⟩:=h hne
 refine ⟨b,off,hA,fun i t ht=>?_⟩
 obtain ⟨h1,h2,h3⟩:=hc i t ht
 exact ⟨(hw _ ⟨_,h1⟩).trans h1,(hw _ ⟨_,h2⟩).trans h2,(hw _ ⟨_,h3⟩).trans h3⟩
theorem Toks.below {w w':World} {A:Option Addr} {ts:List Tok} (h:Toks w A ts) (hb:Below w.heap.size w w'):Toks w' A ts :=
 h.same fun p ⟨_,hu⟩=>hb.cell (xK w p hu)
theorem suf_nil {s:ByteArray} (h:s.size = 0):suf s 0 = []:=suf_end s 0 (by omega)
theorem suf_ne {s:ByteArray} (h:0 < s.size):suf s 0 ≠ []:=by
 intro e
 have:=Qbm s 0
 rw [e] at this
 simp at this
 omega
theorem Qd5 (s:ByteArray) (w:World) (hs:s.size < maxLen) :
  Calls Try.prog 83 #[.string s] w fun e w'=>e = .returned (.int .i64 (Qaj (suf s 0))) ∧ w = w':=by
 have HS:=hQ hs
 by_cases h0:0 < s.size
 ·have hne:s.toList.isEmpty = false:=by
   have:=suf_ne h0
   rw [suf_zero] at this
   simpa using this
  have HN:=hQ (suf_ne h0)
  have HL:=hQ (Qbm s 0)
  unfold maxLen at hs
  by_cases he:(Qb3 (suf s 0)).e = 0
  ·have he':(((Qb3 (suf s 0)).e:Nat):Int) = 0:=by omega
   by_cases hn:(Qb3 (suf s 0)).n = s.size
   ·have hn':(((Qb3 (suf s 0)).n:Nat):Int) = (s.size:Int):=by omega
    have HC:=hQ (show Qaj (suf s 0) = (Qb3 (suf s 0)).kind from by unfold Qaj;rw [if_neg HN.out,if_neg (by rw [HL.out,he,hn];simp)])
    clear he hn
    go_enter Try.func83,Try.ntmps83
    go_wp2_with (go_at_call 43;refine (token_any _ _ h0 HS.out).mono ?_;rintro e w' ⟨rfl,rfl⟩)
    go_ret
    exact ⟨ret_int (by rw [HC.out]),rfl⟩
   ·have hn':¬ (((Qb3 (suf s 0)).n:Nat):Int) = (s.size:Int):=by omega
    have HC:=hQ (show Qaj (suf s 0) = 0 from by unfold Qaj;rw [if_neg HN.out,if_pos (.inr (by rw [HL.out];exact hn))])
    clear he hn
    go_enter Try.func83,Try.ntmps83
    go_wp2_with (go_at_call 43;refine (token_any _ _ h0 HS.out).mono ?_;rintro e w' ⟨rfl,rfl⟩)
    go_ret
    exact ⟨ret_int (by rw [HC.out];rfl),rfl⟩
  ·have he':¬ (((Qb3 (suf s 0)).e:Nat):Int) = 0:=by omega
   have HC:=hQ (show Qaj (suf s 0) = 0 from by unfold Qaj;rw [if_neg HN.out,if_pos (.inl he)])
   clear he
   go_enter Try.func83,Try.ntmps83
   go_wp2_with (go_at_call 43;refine (token_any _ _ h0 HS.out).mono ?_;rintro e w' ⟨rfl,rfl⟩)
   go_ret
   exact ⟨ret_int (by rw [HC.out];rfl),rfl⟩
 ·have he:s.toList.isEmpty = true:=by rw [← suf_zero,suf_nil (by omega)];rfl
  have HC:=hQ (show Qaj (suf s 0) = 0 from by rw [suf_nil (by omega)];rfl)
  go_enter Try.func83,Try.ntmps83
  go_wp2
  go_ret
  exact ⟨ret_int (by rw [HC.out];rfl),rfl⟩
theorem tokCells_at {ts:List Tok} {i:Nat} {t:Tok} (ht:ts[i]? = some t):∀ (j:Nat) (u:Value),j < 3 → [Value.int .i64 t.kind,.string t.lead,.string t.text][j]? = some u → (Qbs ts)[i * 3 + j]? = some u:=by
 induction ts generalizing i with
 | nil=>simp at ht
 | cons a r ih =>
  intro j u hj hu
  have e:Qbs (a :: r) = [Value.int .i64 a.kind,.string a.lead,.string a.text] ++ Qbs r:=by unfold Qbs;rw [List.flatMap_cons]
  rw [e]
  cases i with
  | zero =>
   have:a = t:=by simpa using ht
   subst this
   rw [List.getElem?_append_left (by simp;omega)]
   simpa using hu
  | succ i =>
   rw [List.getElem?_append_right (by simp;omega)]
   have:=ih (by simpa using ht) j u hj hu
   rw [← this]
   congr 1
   simp
   omega
theorem Toks.of_own {w:World} {base:Nat} {A:Option Addr} {c:Nat} {ts:List Tok} (h:w.ownsRow base 73 3 (.slice A ts.length c) ts.length (Qbs ts)):Toks w A ts:=fun hne=>by
 obtain ⟨g,cap,hv,_,_⟩:=h.form (by rcases ts with _ | ⟨t,r⟩;exact absurd rfl hne;simp)
 have hA:A = some ⟨g,0,none⟩:=by injection hv
 subst hA
 refine ⟨g,0,rfl,fun i t ht=>?_⟩
 have hc:=h.cells (g:=g) rfl
 have hj:=tokCells_at ht
 have hk:∀ j (u:Value),j < 3 → [Value.int .i64 t.kind,.string t.lead,.string t.text][j]? = some u → w.cell? ⟨g,0 + i * 3 + j,none⟩ = some u:=fun j u h1 h2=>by
  have:=hc (i * 3 + j) u (hj j u h1 h2)
  unfold Addr.add at this
  split at this
  ·rename_i h0
   rw [show 0 + i * 3 + j = 0 from by omega]
   exact this
  ·simpa using this
 exact ⟨hk 0 _ (by omega) rfl,hk 1 _ (by omega) rfl,hk 2 _ (by omega) rfl⟩
theorem own_shape {w:World} {base e size n:Nat} {v:Value} {xs:List Value} (h:w.ownsRow base e size v n xs):∃ A c,v = .slice A n c:=by
 rcases h.2 with ⟨h1,h2⟩ | ⟨g,cap,_,h1,_⟩
 ·subst h2
  exact ⟨none,0,h1⟩
 ·exact ⟨_,cap,h1⟩
end Go.Proofs.Ytclkilljmdkfaaa
