/- Part 26: Plain facts: no list in a tree that the parser makes is too long; its state at the beginning. -/
import Derived.Test.YtjidpkcjpgdafaaSv20
import Derived.Test.YtjidpkcjpgdafaaSv24
import Derived.Test.YtjidpkcjpgdafaaSv25
import Derived.Test.YtjidpkcjpgdafaaSv1
set_option maxRecDepth 100000
set_option maxHeartbeats 4000000
namespace Go.Proofs.Ytjidpkcjpgdafaa
theorem Qcu:(a b:List Tr) → Qbw (a ++ b) = (Qbw a && Qbw b)
 | [],b=>by rw [List.nil_append,Qbw,Bool.true_and]
 | t :: r,b=>by rw [List.cons_append,Qbw,Qbw,Qcu r b,Bool.and_assoc]
theorem smallL_one (t:Tr) (h:Qa4 t = true):Qbw [t] = true:=by rw [Qbw,h,Qbw];rfl
def SmallC (T:Int → PS → Option (Tr × PS)):Prop:=∀ s p t q,T s p = some (t,q) → Qa4 t = true
theorem small_series {T:Int → PS → Option (Tr × PS)} (hT:SmallC T) {x:Part}:∀ (n:Nat) (more:Bool) (ks:List Tr) (cs:List ByteArray) (p:PS) (r:List Tr × List ByteArray × PS),Qba T x n more ks cs p = some r → Qbw ks = true → Qbw r.1 = true:=by
 intro n
 induction n with
 | zero =>
  intro more ks cs p r h hs
  cases more
  ·have:=Qck h
   subst this
   exact hs
  ·unfold Qba at h
   cases h
 | succ n ih =>
  intro more ks cs p r h hs
  cases more
  ·have:=Qck h
   subst this
   exact hs
  ·obtain ⟨t,q,ht,hw⟩:=Qdy h
   have h1:Qbw (ks ++ [t]) = true:=by rw [Qcu,hs,smallL_one t (hT _ _ _ _ ht)];rfl
   rcases hw with ⟨_,_,hs'⟩ | ⟨_,_,hs'⟩ | ⟨_,hs'⟩
   ·exact ih _ _ _ _ _ hs' h1
   ·exact ih _ _ _ _ _ hs' h1
   ·exact ih _ _ _ _ _ hs' h1
theorem small_node {T:Int → PS → Option (Tr × PS)} (hT:SmallC T) {n:Nat} (hn:n ≤ 65536) {kind:Int}:∀ (l:List Part) (text:ByteArray) (leads:List ByteArray) (kids:List Tr) (commas:List ByteArray) (p:PS) (r:Tr × PS),Qcy T n kind l text leads kids commas p = some r →
  leads.length + l.length ≤ 100 → kids.length + l.length * 65536 ≤ 1000000 → commas.length ≤ 65536 → Qbw kids = true → Qa4 r.1 = true:=by
 intro l
 induction l with
 | nil =>
  intro text leads kids commas p r h h1 h2 h3 h4
  have:=nodeG_end h
  subst this
  rw [xG] at h1 h2
  unfold Qa4
  simp only [Bool.and_eq_true,decide_eq_true_eq,xB]
  exact ⟨⟨by omega,by omega⟩,h4⟩
 | cons x l ih =>
  intro text leads kids commas p r h h1 h2 h3 h4
  rw [xD] at h1 h2
  rcases nodeG_step h with ⟨_,s,hs,hg⟩ | ⟨_,_,t,q,ht,hg⟩ | ⟨_,_,hg⟩
  ·have hl:=seriesG_len _ _ _ _ _ _ hs
   simp only [xG] at hl
   refine ih _ _ _ _ _ _ hg (by omega) (by rw [xB];omega) (by omega) ?_
   rw [Qcu,h4,small_series hT _ _ _ _ _ _ hs (by rw [Qbw])]
   rfl
  ·refine ih _ _ _ _ _ _ hg (by omega) (by rw [xB,List.length_singleton];omega) h3 ?_
   rw [Qcu,h4,smallL_one t (hT _ _ _ _ ht)]
   rfl
  ·have key:∀ s:ByteArray × List ByteArray × PS,s.2.1.length ≤ leads.length + 1 → Qcy T n kind l s.1 s.2.1 kids commas s.2.2 = some r → Qa4 r.1 = true:=fun s h5 h6=>ih s.1 s.2.1 kids commas s.2.2 r h6 (Nat.le_trans (Nat.add_le_add_right h5 _) (by omega)) (Nat.le_trans (Nat.add_le_add_left (Nat.mul_le_mul_right 65536 (Nat.le_succ l.length)) kids.length) h2) h3 h4
   exact key _ (tokenP_len x text leads p) hg
theorem small_parts {T:Int → PS → Option (Tr × PS)} (hT:SmallC T) {n:Nat} (hn:n ≤ 65536) {kind:Int} {p:PS} {r:Tr × PS} (h:Qcy T n kind (Qae kind) ⟨#[]⟩ [] [] [] p = some r):Qa4 r.1 = true:=by
 have:=partsP_len kind
 have h1:([]:List ByteArray).length + (Qae kind).length ≤ 100:=by rw [xG];omega
 have h2:([]:List Tr).length + (Qae kind).length * 65536 ≤ 1000000:=by rw [xG];omega
 exact small_node hT hn (Qae kind) ⟨#[]⟩ [] [] [] p r h h1 h2 (Nat.zero_le _) (by rw [Qbw])
theorem small_ops {T:Int → PS → Option (Tr × PS)} (hT:SmallC T) {s:Int}:∀ (n:Nat) (t:Tr) (p:PS) (r:Tr × PS),opsG T s n t p = some r → Qa4 t = true → Qa4 r.1 = true:=by
 intro n
 induction n with
 | zero=>intro t p r h _;unfold opsG at h;cases h
 | succ n ih =>
  intro t p r h ht
  rcases opsG_step h with (⟨_,_,u,q,hu,hn⟩ | ⟨_,_,he⟩) | ⟨_,he⟩
  ·refine ih _ _ _ hn ?_
   have h1:=hT _ _ _ _ hu
   unfold Qa4
   simp only [xD,xG]
   rw [Qbw,ht,Qbw,h1,Qbw]
   rfl
  ·subst he
   exact ht
  ·subst he
   exact ht
theorem small_tree:∀ n,n ≤ 65536 → SmallC (Qdv n):=by
 intro n
 induction n with
 | zero=>intro _ s p t q h;unfold Qdv at h;cases h
 | succ n ih =>
  intro hn s p t q h
  have hT:=ih (by omega)
  rcases treeM_step h with ⟨_,he⟩ | ⟨_,t0,q0,hN,ho⟩
  ·injection he with h1 _
   subst h1
   rfl
  ·exact small_ops hT _ _ _ _ ho (small_parts hT (by omega) hN)
theorem tree_ok:∀ n,n ≤ 65536 → TreeC (Qdv n):=by
 intro n
 induction n with
 | zero=>intro _ b s p t q w h;unfold Qdv at h;cases h
 | succ n ih =>
  intro hn
  have hT:=ih (by omega)
  exact tree_of hT (node_of hT (by omega))
theorem node_ok {n:Nat} (hn:n ≤ 65536):NodeC (fun k p=>Qcy (Qdv n) n k (Qae k) ⟨#[]⟩ [] [] [] p):=node_of (tree_ok n hn) hn
theorem classN_nil:Qbc [] = 0:=by decide
theorem joinL_sum (ts:List Tok) (tail:List UInt8):(joinL ts tail).length = (ts.map fun t=>t.lead.size + t.text.size).sum + tail.length:=by
 induction ts with
 | nil=>simp [joinL]
 | cons t r ih =>
  unfold joinL at ih ⊢
  rw [List.flatMap_cons,List.append_assoc,xB,ih,xB,Qdh,Qdh,List.map_cons,List.sum_cons]
  omega
theorem toks_le (ts:List Tok) (h:∀ t ∈ ts,GoodTok t):ts.length ≤ (ts.map fun t=>t.lead.size + t.text.size).sum:=by
 induction ts with
 | nil=>simp
 | cons t r ih =>
  have h1:=ih (fun u hu=>h u (List.mem_cons_of_mem _ hu))
  obtain ⟨h2,h3,_⟩:=h t (List.mem_cons_self ..)
  have h4:0 < t.text.size:=by
   rcases Nat.eq_zero_or_pos t.text.size with h0 | h0
   ·exfalso
    have:bl t.text = []:=List.eq_nil_of_length_eq_zero (by rw [Qdh];exact h0)
    rw [this,classN_nil] at h2
    exact h3 h2.symm
   ·exact h0
  rw [xD,List.map_cons,List.sum_cons]
  omega
theorem scan_short {s:ByteArray} (h:(Qaw s).e = 0):s.size ≤ 4096:=by
 rcases Nat.lt_or_ge 4096 s.size with h' | h'
 ·unfold Qaw at h
  rw [if_pos h'] at h
  cases h
 ·exact h'
def initP (s:ByteArray):PS:=⟨(Qaw s).toks ++ [⟨0,(Qaw s).tail,⟨#[]⟩⟩],0,0,0⟩
theorem scan_sizes {s:ByteArray} (h:(Qaw s).e = 0):(Qaw s).toks.length ≤ 4096 ∧ ((Qaw s).toks.map fun t=>t.lead.size + t.text.size).sum + (Qaw s).tail.size = s.size:=by
 obtain ⟨h1,h2,_⟩:=(scanR_good s).1 h
 have h3:=joinL_sum (Qaw s).toks (bl (Qaw s).tail)
 rw [h2,Qdh,Qdh] at h3
 have h4:=toks_le _ h1
 have h5:=scan_short h
 exact ⟨by omega,h3.symm⟩
theorem init_ok {s:ByteArray} (h:(Qaw s).e = 0):PSok (initP s):=by
 obtain ⟨h1,h2⟩:=scan_sizes h
 have h5:=scan_short h
 refine ⟨⟨(Qaw s).toks,_,rfl,rfl⟩,?_,?_,Nat.zero_le _⟩
 ·show ((Qaw s).toks ++ [_]).length ≤ _
  rw [xB,List.length_singleton]
  omega
 ·show 0 + (((Qaw s).toks ++ [_]).map _).sum ≤ _
  rw [List.map_append,List.sum_append]
  simp only [List.map_cons,List.map_nil,List.sum_cons,List.sum_nil]
  show 0 + (_ + ((Qaw s).tail.size + 0 + 0)) ≤ _
  omega
end Go.Proofs.Ytjidpkcjpgdafaa
