/- Part 29: The contracts of the reference's Size, Depth, IsType . -/
import Derived.Test.YtclkilljmdkfaaaTy24
import Derived.Test.YtclkilljmdkfaaaTy4
import Derived.Test.YtclkilljmdkfaaaTy5
import Derived.Test.YtclkilljmdkfaaaTy1
import Derived.Test.YtclkilljmdkfaaaTy2
import Derived.Test.YtclkilljmdkfaaaTy28
import Derived.StillTailTactics
import Derived.Deep.RegionHeld3
import Derived.Deep.AppendLies
set_option maxRecDepth 100000
set_option maxHeartbeats 4000000
namespace Go.Proofs.Ytclkilljmdkfaaa
open Go.RowKit
def exprB (k:Int):Bool:=decide (10 ≤ k) && decide (k ≤ 22) && (k != 17)
def unitB (k:Int):Bool:=exprB k && (k != 19) && (k != 20) && (k != 21)
theorem Qez (k:Int):exprB k = Qde 5 k:=by
 unfold exprB Qde
 by_cases h17:k = 17
 ·subst h17;rfl
 ·by_cases h19:k = 19
  ·subst h19;rfl
  ·by_cases h20:k = 20
   ·subst h20;rfl
   ·by_cases h21:k = 21
    ·subst h21;rfl
    ·simp [h17,h19,h20,h21]
theorem unitB_has (k:Int):unitB k = Qde 7 k:=by
 unfold unitB exprB Qde
 by_cases h17:k = 17
 ·subst h17;rfl
 ·by_cases h19:k = 19
  ·subst h19;rfl
  ·by_cases h20:k = 20
   ·subst h20;rfl
   ·by_cases h21:k = 21
    ·subst h21;rfl
    ·have b17:(k != 17) = true:=bne_iff_ne.2 h17
     have b19:(k != 19) = true:=bne_iff_ne.2 h19
     have b20:(k != 20) = true:=bne_iff_ne.2 h20
     have b21:(k != 21) = true:=bne_iff_ne.2 h21
     have c21:(k == 21) = false:=beqF h21
     rw [if_neg (by decide),if_neg (by decide),if_neg (by decide),if_neg (by decide),if_neg h17,if_neg (fun h=>by omega),if_neg h21]
     simp only [b17,b19,b20,b21,Bool.and_true]
theorem firstB_has (k:Int):(unitB k || k == 21) = Qde 6 k:=by
 unfold unitB exprB Qde
 by_cases h17:k = 17
 ·subst h17;rfl
 ·by_cases h19:k = 19
  ·subst h19;rfl
  ·by_cases h20:k = 20
   ·subst h20;rfl
   ·by_cases h21:k = 21
    ·subst h21;rfl
    ·have b17:(k != 17) = true:=bne_iff_ne.2 h17
     have b19:(k != 19) = true:=bne_iff_ne.2 h19
     have b20:(k != 20) = true:=bne_iff_ne.2 h20
     have b21:(k != 21) = true:=bne_iff_ne.2 h21
     have c21:(k == 21) = false:=beqF h21
     rw [if_neg (by decide),if_neg (by decide),if_neg (by decide),if_neg (by decide),if_neg h17,if_neg (fun h=>by omega),if_neg h21]
     simp only [b17,b19,b20,b21,Bool.and_true,c21,Bool.or_false]
def kidR (tk:Int) (n i:Nat) (k:Int):Bool :=
 if tk = 1 then k == 2 || k == 3
 else if tk = 2 then (if i + 1 = n then exprB k else if i + 2 = n then Qde 3 k else k == 4)
 else if tk = 3 ∨ tk = 4 ∨ tk = 8 then Qde 3 k
 else if tk = 16 then k == 17
 else if tk = 21 then (unitB k || (decide (i = 0) && k == 21))
 else exprB k
mutual
def Qa1:Tr → Bool
 | .mk k x _ ks=>!decide (Qey k ks.length < 0) && Qa6 (Qae k) x && Qa0 k ks.length 0 ks
def Qa0:Int → Nat → Nat → List Tr → Bool
 | _,_,_,[]=>true
 | k,n,i,a :: r=>kidR k n i a.kind && Qa1 a && Qa0 k n (i + 1) r
end
theorem Qb7 (t:Tr):Qa1 t = (!decide (Qey t.kind t.kids.length < 0) && Qa6 (Qae t.kind) t.text && Qa0 t.kind t.kids.length 0 t.kids):=by
 cases t with
 | mk k x ls ks=>rw [Qa1];rfl
theorem free_leads (k:Int) (n:Nat) (hn:n ≤ 1000):(Qbt (Qae k) n).2 = !decide (Qey k n < 0):=by
 rw [← leads_eq k n (by omega)]
 unfold leadsP
 have hc:∀ (l:List Part) (m:Int),0 ≤ commasP l m:=by
  intro l m
  induction l with
  | nil=>exact Int.le_refl 0
  | cons x r ih =>
   rw [commasP]
   split
   ·rename_i h
    simp only [Bool.and_eq_true,decide_eq_true_eq] at h
    omega
   ·omega
 cases (Qbt (Qae k) n).2
 ·rw [if_neg (by decide)];rfl
 ·rw [if_pos rfl]
  have:=hc (Qae k) (Qbt (Qae k) n).1
  rw [decide_eq_false (by omega)]
  rfl
theorem free_one {k:Int} {n:Nat} {o:Int} (hl:Qae k ≠ []) (ho:(onesP (Qae k):Int) = o):(Qbt (Qae k) n).1 = n - o:=by
 unfold Qbt
 rw [if_neg (fun h=>by rcases h with h | h;exact hl h;omega),freeL_ones,ho]
theorem Qdc {n:Nat} {must m:Int} (h:(!decide (Qa4 n must m < 0)) = true):(n:Int) = must:=by
 unfold Qa4 at h
 by_cases e:(n:Int) = must
 ·exact e
 ·rw [if_neg e] at h
  exact absurd h (by decide)
theorem sorts_1 (n:Nat):Qcr (Qae 1) (Qbt (Qae 1) n).1 = List.replicate n 1:=by
 rw [free_one (o:=0) (by decide) rfl]
 simp [Qae,Qcr,Qdb,Qb8,nameP,manyP]
theorem sorts_2 (n:Nat) (h:2 ≤ n):Qcr (Qae 2) (Qbt (Qae 2) n).1 = List.replicate (n - 2) 2 ++ [3,5]:=by
 rw [free_one (o:=2) (by decide) rfl]
 have:((n:Int) - 2).toNat = n - 2:=by omega
 simp [Qae,Qcr,Qdb,Qb8,nameP,manyP,oneP,this]
theorem sorts_16 (n:Nat):Qcr (Qae 16) (Qbt (Qae 16) n).1 = List.replicate n 4:=by
 rw [free_one (o:=0) (by decide) rfl]
 simp [Qae,Qcr,Qdb,Qb8,nameP,manyP]
theorem sorts_18 (n:Nat):Qcr (Qae 18) (Qbt (Qae 18) n).1 = List.replicate n 5:=by
 rw [free_one (o:=0) (by decide) rfl]
 simp [Qae,Qcr,Qdb,Qb8,manyP]
theorem rep_get {n j:Nat} {s:Int} (h:j < n):(List.replicate n s)[j]? = some s:=by rw [List.getElem?_replicate];simp [h]
theorem kid_cases {k:Int} (h:¬ (k ≤ 0 ∨ 23 ≤ k)):k = 1 ∨ k = 2 ∨ k = 3 ∨ k = 4 ∨ k = 5 ∨ k = 6 ∨ k = 7 ∨ k = 8 ∨ k = 9 ∨ k = 10 ∨ k = 11 ∨ k = 12 ∨ k = 13 ∨ k = 14 ∨ k = 15 ∨ k = 16 ∨ k = 17 ∨ k = 18 ∨ k = 19 ∨ k = 20 ∨ k = 21 ∨ k = 22:=by omega
theorem sorts_kid (k:Int) (n:Nat) (hn:n ≤ 1000) (h:(Qbt (Qae k) n).2 = true) (j:Nat) (hj:j < n):∃ s,(Qcr (Qae k) (Qbt (Qae k) n).1)[j]? = some s ∧ ∀ kd,kidR k n j kd = Qde s kd:=by
 have hq:=h
 rw [free_leads k n hn] at hq
 by_cases h0:k ≤ 0 ∨ 23 ≤ k
 ·rw [Qd3 h0] at h
  simp [Qbt] at h
 ·rcases kid_cases h0 with rfl | rfl | rfl | rfl | rfl | rfl | rfl | rfl | rfl | rfl | rfl | rfl | rfl | rfl | rfl | rfl | rfl | rfl | rfl | rfl | rfl | rfl
  ·exact ⟨1,by rw [sorts_1];exact rep_get hj,fun kd=>rfl⟩
  ·have h2:2 ≤ n:=by
    rcases Nat.lt_or_ge n 2 with h' | h'
    ·rw [show Qey 2 n = -1 from by show (if 2 ≤ (n:Int) then 6 + max 0 ((n:Int) - 3) else -1) = _;rw [if_neg (by omega)]] at hq
     exact absurd hq (by decide)
    ·exact h'
   rw [sorts_2 n h2]
   by_cases j1:j + 1 = n
   ·refine ⟨5,?_,fun kd=>?_⟩
    ·rw [List.getElem?_append_right (by simp;omega),List.length_replicate,show j - (n - 2) = 1 from by omega];rfl
    ·unfold kidR;rw [if_neg (by decide),if_pos rfl,if_pos j1];exact Qez kd
   ·by_cases j2:j + 2 = n
    ·refine ⟨3,?_,fun kd=>?_⟩
     ·rw [List.getElem?_append_right (by simp;omega),List.length_replicate,show j - (n - 2) = 0 from by omega];rfl
     ·unfold kidR;rw [if_neg (by decide),if_pos rfl,if_neg j1,if_pos j2]
    ·refine ⟨2,?_,fun kd=>?_⟩
     ·rw [List.getElem?_append_left (by simp;omega)];exact rep_get (by omega)
     ·unfold kidR;rw [if_neg (by decide),if_pos rfl,if_neg j1,if_neg j2];rfl
  ·obtain rfl:n = 1:=by have:=Qdc (n:=n) (must:=1) (m:=3) hq;omega
   obtain rfl:j = 0:=by omega
   exact ⟨3,rfl,fun kd=>rfl⟩
  ·obtain rfl:n = 1:=by have:=Qdc (n:=n) (must:=1) (m:=2) hq;omega
   obtain rfl:j = 0:=by omega
   exact ⟨3,rfl,fun kd=>rfl⟩
  ·have:=Qdc (n:=n) (must:=0) (m:=1) hq;omega
  ·have:=Qdc (n:=n) (must:=0) (m:=1) hq;omega
  ·have:=Qdc (n:=n) (must:=0) (m:=1) hq;omega
  ·obtain rfl:n = 1:=by have:=Qdc (n:=n) (must:=1) (m:=2) hq;omega
   obtain rfl:j = 0:=by omega
   exact ⟨3,rfl,fun kd=>rfl⟩
  ·have:=Qdc (n:=n) (must:=0) (m:=1) hq;omega
  ·have:=Qdc (n:=n) (must:=0) (m:=1) hq;omega
  ·have:=Qdc (n:=n) (must:=0) (m:=1) hq;omega
  ·have:=Qdc (n:=n) (must:=0) (m:=1) hq;omega
  ·have:=Qdc (n:=n) (must:=0) (m:=1) hq;omega
  ·have:=Qdc (n:=n) (must:=0) (m:=1) hq;omega
  ·have:=Qdc (n:=n) (must:=0) (m:=1) hq;omega
  ·exact ⟨4,by rw [sorts_16];exact rep_get hj,fun kd=>rfl⟩
  ·obtain rfl:n = 1:=by have:=Qdc (n:=n) (must:=1) (m:=0) hq;omega
   obtain rfl:j = 0:=by omega
   exact ⟨5,rfl,fun kd=>Qez kd⟩
  ·exact ⟨5,by rw [sorts_18];exact rep_get hj,fun kd=>Qez kd⟩
  ·obtain rfl:n = 3:=by have:=Qdc (n:=n) (must:=3) (m:=3) hq;omega
   rcases (show j = 0 ∨ j = 1 ∨ j = 2 from by omega) with rfl | rfl | rfl <;> exact ⟨5,rfl,fun kd=>Qez kd⟩
  ·obtain rfl:n = 2:=by have:=Qdc (n:=n) (must:=2) (m:=4) hq;omega
   rcases (show j = 0 ∨ j = 1 from by omega) with rfl | rfl <;> exact ⟨5,rfl,fun kd=>Qez kd⟩
  ·obtain rfl:n = 2:=by have:=Qdc (n:=n) (must:=2) (m:=1) hq;omega
   rcases (show j = 0 ∨ j = 1 from by omega) with rfl | rfl
   ·exact ⟨6,rfl,fun kd=>firstB_has kd⟩
   ·exact ⟨7,rfl,fun kd=>by rw [← unitB_has];show (unitB kd || (decide (1 = 0) && kd == 21)) = unitB kd;simp⟩
  ·obtain rfl:n = 1:=by have:=Qdc (n:=n) (must:=1) (m:=2) hq;omega
   obtain rfl:j = 0:=by omega
   exact ⟨5,rfl,fun kd=>Qez kd⟩
theorem shapedRL_eq (k:Int) (n:Nat):∀ (ks:List Tr) (i:Nat) (ss:List Int),(∀ a ∈ ks,Qa1 a = Qai a) → (∀ j,j < ks.length → ∃ s,ss[j]? = some s ∧ ∀ kd,kidR k n (i + j) kd = Qde s kd) → Qa0 k n i ks = Qci ks ss
 | [],i,ss,_,_=>by rw [Qa0,shapedL_nil]
 | a :: r,i,ss,ha,hs=>by
  obtain ⟨s,h0,hk⟩:=hs 0 (by simp)
  cases ss with
  | nil=>simp at h0
  | cons s' ss =>
   simp at h0
   subst h0
   have hk0:kidR k n i a.kind = Qde s' a.kind:=hk a.kind
   rw [Qa0,shapedL_cons,← hk0,ha a (by simp),shapedRL_eq k n r (i + 1) ss (fun x hx=>ha x (by simp [hx])) (fun j hj=>by
    obtain ⟨s,h1,h2⟩:=hs (j + 1) (by simp;omega)
    exact ⟨s,by simpa using h1,fun kd=>by rw [show i + 1 + j = i + (j + 1) from by omega];exact h2 kd⟩)]
theorem mem_size {l:List Tr} {a:Tr} (h:a ∈ l):Qao a ≤ Qah l:=by
 induction l with
 | nil=>simp at h
 | cons x r ih =>
  rw [Qah]
  rcases List.mem_cons.1 h with rfl | h
  ·omega
  ·have:=ih h;omega
theorem mem_sizeOf {l:List Tr} {a:Tr} (h:a ∈ l):SizeOf.sizeOf a < SizeOf.sizeOf l:=List.sizeOf_lt_of_mem h
theorem Qbq (N:Nat):∀ t:Tr,SizeOf.sizeOf t ≤ N → Qao t ≤ 1000 → Qa1 t = Qai t:=by
 induction N with
 | zero=>intro t h;have:=tr_pos t;omega
 | succ N ih =>
  intro t hN hs
  have hkl:=Qas t.kids
  have hsz:=Qbd t
  rw [Qb7,shapedT_eq,← free_leads t.kind t.kids.length (by omega)]
  cases hf:(Qbt (Qae t.kind) t.kids.length).2
  ·rfl
  ·rw [shapedRL_eq t.kind t.kids.length t.kids 0 _ (fun a ha=>ih a (by
    have h1:=mem_sizeOf ha
    cases t with
    | mk k x ls ks =>
     simp at hN
     have:SizeOf.sizeOf (Tr.mk k x ls ks).kids = SizeOf.sizeOf ks:=rfl
     omega) (by have:=mem_size ha;omega)) (fun j hj=>by rw [Nat.zero_add];exact sorts_kid t.kind t.kids.length (by omega) hf j hj)]
end Go.Proofs.Ytclkilljmdkfaaa
