/- Part 25 -/
import Derived.Test.YtjidpkcjpgdafaaGreatSf21
import Derived.Test.YtjidpkcjpgdafaaGreatSf23
import Derived.Test.YtjidpkcjpgdafaaGreatSf24
set_option maxRecDepth 100000
set_option maxHeartbeats 4000000
namespace Go.Proofs.YtjidpkcjpgdafaaGreat
theorem Qeu:(a b:List Tr)→Qct (a ++ b)=(Qct a && Qct b)
 | [],b=>by rw [xU,Qct,Bool.true_and]
 | t :: r,b=>by rw [xV,Qct,Qct,Qeu r b,Bool.and_assoc]
theorem Qli (t:Tr) (h:Qb7 t=true):Qct [t] = true:=by rw [Qct,h,Qct];rfl
def Qnh (T:Int→PS→Option (Tr × PS)):Prop:=∀ s p t q,T s p=some (t,q)→Qb7 t=true
theorem Qni {T:Int→PS→Option (Tr × PS)} (hT:Qnh T) {x:Part}:∀ (n:Nat) (more:Bool) (ks:List Tr) (cs:List ByteArray) (p:PS) (r:List Tr × List ByteArray × PS),Qcg T x n more ks cs p=some r→Qct ks=true→Qct r.1=true:=by
 intro n
 induction n with
 | zero =>
  intro more ks cs p r h hs
  cases more
  ·have:=Qef h
   subst this
   exact hs
  ·unfold Qcg at h
   cases h
 | succ n ih =>
  intro more ks cs p r h hs
  cases more
  ·have:=Qef h
   subst this
   exact hs
  ·obtain ⟨t,q,ht,hw⟩:=Qf0 h
   have h1:Qct (ks ++ [t])=true:=by rw [Qeu,hs,Qli t (hT _ _ _ _ ht)];rfl
   rcases hw with ⟨_,_,hs'⟩|⟨_,_,hs'⟩|⟨_,hs'⟩
   ·exact ih _ _ _ _ _ hs' h1
   ·exact ih _ _ _ _ _ hs' h1
   ·exact ih _ _ _ _ _ hs' h1
theorem Qr0 {T:Int→PS→Option (Tr × PS)} (hT:Qnh T) {n:Nat} (hn:n≤65536) {kind:Int}:∀ (l:List Part) (text:ByteArray) (leads:List ByteArray) (kids:List Tr) (commas:List ByteArray) (p:PS) (r:Tr × PS),Qey T n kind l text leads kids commas p=some r →
  leads.length+l.length≤100→kids.length+l.length*65536≤1000000→commas.length≤65536→Qct kids=true→Qb7 r.1=true:=by
 intro l
 induction l with
 | nil =>
  intro text leads kids commas p r h h1 h2 h3 h4
  have:=Qnc h
  subst this
  rw [xG] at h1 h2
  unfold Qb7
  simp only [Bool.and_eq_true,decide_eq_true_eq,xB]
  exact ⟨⟨by omega,by omega⟩,h4⟩
 | cons x l ih =>
  intro text leads kids commas p r h h1 h2 h3 h4
  rw [xD] at h1 h2
  rcases Qlc h with ⟨_,s,hs,hg⟩|⟨_,_,t,q,ht,hg⟩|⟨_,_,hg⟩
  ·have hl:=Qj8 _ _ _ _ _ _ hs
   simp only [xG] at hl
   refine ih _ _ _ _ _ _ hg (by omega) (by rw [xB];omega) (by omega) ?_
   rw [Qeu,h4,Qni hT _ _ _ _ _ _ hs (by rw [Qct])]
   rfl
  ·refine ih _ _ _ _ _ _ hg (by omega) (by rw [xB,List.length_singleton];omega) h3 ?_
   rw [Qeu,h4,Qli t (hT _ _ _ _ ht)]
   rfl
  ·have key:∀ s:ByteArray × List ByteArray × PS,s.2.1.length≤leads.length+1→Qey T n kind l s.1 s.2.1 kids commas s.2.2=some r→Qb7 r.1=true:=fun s h5 h6=>ih s.1 s.2.1 kids commas s.2.2 r h6 (xQ (Nat.add_le_add_right h5 _) (by omega)) (xQ (Nat.add_le_add_left (Nat.mul_le_mul_right 65536 (Nat.le_succ l.length)) kids.length) h2) h3 h4
   exact key _ (Qld x text leads p) hg
theorem Qkc {T:Int→PS→Option (Tr × PS)} (hT:Qnh T) {n:Nat} (hn:n≤65536) {kind:Int} {p:PS} {r:Tr × PS} (h:Qey T n kind (Qae kind) ⟨#[]⟩ [] [] [] p=some r):Qb7 r.1=true:=by
 have:=Qgy kind
 have h1:([]:List ByteArray).length+(Qae kind).length≤100:=by rw [xG];omega
 have h2:([]:List Tr).length+(Qae kind).length*65536≤1000000:=by rw [xG];omega
 exact Qr0 hT hn (Qae kind) ⟨#[]⟩ [] [] [] p r h h1 h2 (xZ _) (by rw [Qct])
theorem Qtp {T:Int→PS→Option (Tr × PS)} (hT:Qnh T) {s:Int}:∀ (n:Nat) (t:Tr) (p:PS) (r:Tr × PS),Qvd T s n t p=some r→Qb7 t=true→Qb7 r.1=true:=by
 intro n
 induction n with
 | zero=>intro t p r h _;unfold Qvd at h;cases h
 | succ n ih =>
  intro t p r h ht
  rcases Qng h with (⟨_,_,u,q,hu,hn⟩|⟨_,_,he⟩) | ⟨_,he⟩
  ·refine ih _ _ _ hn ?_
   have h1:=hT _ _ _ _ hu
   unfold Qb7
   simp only [xD,xG]
   rw [Qct,ht,Qct,h1,Qct]
   rfl
  ·subst he
   exact ht
  ·subst he
   exact ht
theorem Qr1:∀ n,n≤65536→Qnh (Qfx n):=by
 intro n
 induction n with
 | zero=>intro _ s p t q h;unfold Qfx at h;cases h
 | succ n ih =>
  intro hn s p t q h
  have hT:=ih (by omega)
  rcases Qlh h with ⟨_,he⟩|⟨_,t0,q0,hN,ho⟩
  ·injection he with h1 _
   subst h1
   rfl
  ·exact Qtp hT _ _ _ _ ho (Qkc hT (by omega) hN)
theorem Qye:∀ n,n≤65536→Qrr (Qfx n):=by
 intro n
 induction n with
 | zero=>intro _ b s p t q w h;unfold Qfx at h;cases h
 | succ n ih =>
  intro hn
  have hT:=ih (by omega)
  exact Qyd hT (Qto hT (by omega))
theorem Qyf {n:Nat} (hn:n≤65536):Qx9 (fun k p=>Qey (Qfx n) n k (Qae k) ⟨#[]⟩ [] [] [] p):=Qto (Qye n hn) hn
theorem Qr2:Qa6 [] = 0:=by decide
theorem Qtq (ts:List Tok) (tail:List UInt8):(Qjj ts tail).length=(ts.map fun t=>t.lead.size+t.text.size).sum+tail.length:=by
 induction ts with
 | nil=>simp [Qjj]
 | cons t r ih =>
  unfold Qjj at ih ⊢
  rw [List.flatMap_cons,xT,xB,ih,xB,Qfo,Qfo,List.map_cons,List.sum_cons]
  omega
theorem Qyg (ts:List Tok) (h:∀ t∈ts,Ql5 t):ts.length≤(ts.map fun t=>t.lead.size+t.text.size).sum:=by
 induction ts with
 | nil=>simp
 | cons t r ih =>
  have h1:=ih (fun u hu=>h u (List.mem_cons_of_mem _ hu))
  obtain ⟨h2,h3,_⟩:=h t (List.mem_cons_self ..)
  have h4:0<t.text.size:=by
   rcases Nat.eq_zero_or_pos t.text.size with h0 | h0
   ·exfalso
    have:bl t.text = []:=List.eq_nil_of_length_eq_zero (by rw [Qfo];exact h0)
    rw [this,Qr2] at h2
    exact h3 h2.symm
   ·exact h0
  rw [xD,List.map_cons,List.sum_cons]
  omega
theorem Qlj {s:ByteArray} (h:(Qbs s).e=0):s.size≤4096:=by
 rcases Nat.lt_or_ge 4096 s.size with h' | h'
 ·unfold Qbs at h
  rw [xO h'] at h
  cases h
 ·exact h'
def Qk0 (s:ByteArray):PS:=⟨(Qbs s).toks ++ [⟨0,(Qbs s).tail,⟨#[]⟩⟩],0,0,0⟩
theorem Qlk {s:ByteArray} (h:(Qbs s).e=0):(Qbs s).toks.length≤4096∧((Qbs s).toks.map fun t=>t.lead.size+t.text.size).sum+(Qbs s).tail.size=s.size:=by
 obtain ⟨h1,h2,_⟩:=(Qq8 s).1 h
 have h3:=Qtq (Qbs s).toks (bl (Qbs s).tail)
 rw [h2,Qfo,Qfo] at h3
 have h4:=Qyg _ h1
 have h5:=Qlj h
 exact ⟨by omega,h3.symm⟩
theorem Qyh {s:ByteArray} (h:(Qbs s).e=0):PSok (Qk0 s):=by
 obtain ⟨h1,h2⟩:=Qlk h
 have h5:=Qlj h
 refine ⟨⟨(Qbs s).toks,_,rfl,rfl⟩,?_,?_,xZ _⟩
 ·show ((Qbs s).toks ++ [_]).length≤_
  rw [xB,List.length_singleton]
  omega
 ·show 0+(((Qbs s).toks ++ [_]).map _).sum≤_
  rw [List.map_append,List.sum_append]
  simp only [List.map_cons,List.map_nil,List.sum_cons,List.sum_nil]
  show 0+(_+((Qbs s).tail.size+0+0))≤_
  omega
end Go.Proofs.YtjidpkcjpgdafaaGreat
