/- Part 35: What a walk of variables hands on, step by step: a longer path, a longer stack. -/
import Derived.Test.YtjidpkcjpgdafaaSv1
import Derived.Test.YtjidpkcjpgdafaaSv34
set_option maxRecDepth 100000
set_option maxHeartbeats 4000000
namespace Go.Proofs.Ytjidpkcjpgdafaa
open Go.RowKit Go.Shelf
theorem paramsS_one (ks:List Tr):(n:Nat) → ∀ z ∈ Qc3 ks n,z.2.length = 1
 | 0,z,h=>by rw [Qc3] at h;simp at h
 | n + 1,z,h=>by
  rw [Qc3] at h
  rcases List.mem_cons.1 h with rfl | h
  ·rfl
  ·exact paramsS_one ks n z h
theorem paramsP_one {ks:List Tr} {z:Bnd} (h:z ∈ Qcf ks):z.2.length = 1:=paramsS_one ks _ z h
structure Hand (B:Nat) (w:World) (lv:Value) (ws:List (Value × Value × Bool)) (pv:Value) (p:List Int) (sv:Value) (us:List (ByteArray × Value)) (st:List Bnd):Prop where
 hl:VRow w B lv ws
 hp:IRow w B pv p
 hs:SRow w B sv us
 hm:StkM w B pv p.length us st
 hb:B ≤ w.heap.size
section
variable {B:Nat} {w w':World} {lv pv sv:Value} {ws:List (Value × Value × Bool)} {p:List Int} {us:List (ByteArray × Value)} {st:List Bnd}
theorem Hand.apart (h:Hand B w lv ws pv p sv us st):Apart lv pv ∧ Apart lv sv ∧ Apart pv sv:=⟨rows_apart h.hl h.hp (by decide),rows_apart h.hl h.hs (by decide),rows_apart h.hp h.hs (by decide)⟩
theorem Hand.keep (h:Hand B w lv ws pv p sv us st) (hk:Keeps (Qcg lv (ws.length * 3) pv p.length sv (us.length * 2)) w w'):Hand B w' lv ws pv p sv us st:=by
 obtain ⟨d1,d2,d3⟩:=h.apart
 exact ⟨hk.row h.hl (fun k hk=>.inr ⟨_,names_l hk,xA _⟩),hk.row h.hp (fun k hk=>.inr ⟨_,names_p hk d1,by omega⟩),hk.row h.hs (fun k hk=>.inr ⟨_,names_s hk d2 d3,xA _⟩),h.hm.keep hk h.hl h.hs,Nat.le_trans h.hb hk.size⟩
theorem Hand.later (h:Hand B w lv ws pv p sv us st) (hb:Below w.heap.size w w'):Hand B w' lv ws pv p sv us st:=h.keep (Keeps.of_below hb)
theorem asks_refl (N:Nat) (P:Nat → Option Nat):AsksMore N P P:=fun k _=>by
 cases h:P k with
 | none=>exact .inl rfl
 | some n=>exact .inr ⟨n,n,rfl,rfl,xA _⟩
theorem stk_path {pv':Value} {n n':Nat} {wa:World} (hm:StkM w B pv n us st) (_hw:w.heap.size ≤ wa.heap.size) (hk:∀ v z,IB w B v z → (∀ g,v.ownBlock = some g → pv.ownBlock = some g → z.length ≤ n) → IB w' B v z) (hl:Later w pv pv') (hn:n ≤ n'):StkM w' B pv' n' us st:=by
 refine ⟨hm.1,fun j y z hy hz=>?_⟩
 obtain ⟨h1,h2,h3,h4,h5⟩:=hm.2 j y z hy hz
 refine ⟨h1,hk _ _ h2 h5,h3,h4,fun g hg hp=>?_⟩
 rcases hl g hp with h | h
 ·exact Nat.le_trans (h5 g hg h) hn
 ·obtain ⟨g',c,cur,hv,_,hh,_⟩:=h2
  rw [hv] at hg
  injection hg with hg
  have e1:g' = g:=hg
  have:=Qaa hh
  omega
theorem Hand.path (h:Hand B w lv ws pv p sv us st) {pv':Value} {q:Int} (hk:Keeps (pre pv (p.length * 1)) w w') (hp:IRow w' B pv' (p ++ [q])) (hl:Later w pv pv') :
  Hand B w' lv ws pv' (p ++ [q]) sv us st ∧ Keeps (Qcg lv (ws.length * 3) pv p.length sv (us.length * 2)) w w' ∧ IRow w' B pv p:=by
 obtain ⟨d1,d2,d3⟩:=h.apart
 have hK:Keeps (Qcg lv (ws.length * 3) pv p.length sv (us.length * 2)) w w':=by
  refine (Keeps.refl _ w).trans hk ?_
  rw [Nat.mul_one]
  exact asks_p d1
 have hh:=h.keep hK
 refine ⟨⟨hh.hl,hp,hh.hs,?_,hh.hb⟩,hK,hh.hp⟩
 refine stk_path (wa:=w) h.hm (xA _) (fun v z hi hz=>?_) hl (by rw [xB];omega)
 refine hi.keepP hk fun g hg=>?_
 by_cases hp:pv.ownBlock = some g
 ·exact .inr ⟨_,pre_self hp,by have:=hz g hg hp;omega⟩
 ·exact .inl (Qbs hp)
theorem Hand.stack (h:Hand B w lv ws pv p sv us st) {pv0:Value} {p0:List Int} (h0:IRow w B pv0 p0) (hle:∀ g,pv0.ownBlock = some g → pv.ownBlock = some g → p0.length ≤ p.length) {t:Tr} {i:Int} {e:Ending}
  (hne:p0 ≠ [] ∨ t.kind = 2) (hpl:p0.length ≤ 1000000) (he:EntPost B sv us t pv0 i w e w') :
  ∃ sv' us',e = .returned sv' ∧ us'.length ≤ us.length + t.kids.length + 1 ∧ us.length ≤ us'.length ∧ Hand B w' lv ws pv p sv' us' (st ++ Qbr t.kind t.text t.kids p0 i) ∧ Keeps (Qcg lv (ws.length * 3) pv p.length sv (us.length * 2)) w w' ∧ Later w sv sv' ∧ IRow w' B pv0 p0:=by
 obtain ⟨d1,d2,d3⟩:=h.apart
 obtain ⟨sv',us',rfl,hs,hk,hl,hc⟩:=he
 have hK:Keeps (Qcg lv (ws.length * 3) pv p.length sv (us.length * 2)) w w':=(Keeps.refl _ w).trans hk (asks_s d2 d3)
 have hh:=h.keep hK
 have h0':IRow w' B pv0 p0:=hk.row h0 fun k hk'=>.inl (Qbs (rows_apart h0 h.hs (by decide) k hk'))
 have hcl:us'.length ≤ t.kids.length + 1:=by
  rcases hc with ⟨_,_,rfl⟩ | ⟨_,_,_,hp⟩ | ⟨_,_,rfl⟩
  ·simp
  ·rw [hp.1]
   have:=paramsP_le t.kids
   omega
  ·simp
 refine ⟨sv',us ++ us',rfl,by rw [xB];omega,by rw [xB];omega,⟨hh.hl,hh.hp,hs,?_,hh.hb⟩,hK,hl,h0'⟩
 have hlen:us'.length = (Qbr t.kind t.text t.kids p0 i).length ∧ ∀ (j:Nat) (y:ByteArray × Value) (z:Bnd),us'[j]? = some y → (Qbr t.kind t.text t.kids p0 i)[j]? = some z →
   y.1 = z.1 ∧ IB w' B y.2 z.2 ∧ z.2 ≠ [] ∧ z.2.length ≤ 1000000 ∧ ∀ g,y.2.ownBlock = some g → pv.ownBlock = some g → z.2.length ≤ p.length:=by
  rcases hc with ⟨c1,c2,rfl⟩ | ⟨c0,c1,c2,hp⟩ | ⟨c0,c1,rfl⟩
  ·have he:Qbr t.kind t.text t.kids p0 i = [(t.text,p0)]:=if_pos ⟨c1,c2⟩
   rw [he]
   have hp0:p0 ≠ []:=hne.resolve_right (by rw [c1];decide)
   refine ⟨rfl,fun j y z hy hz=>?_⟩
   match j,hy,hz with
   | 0,hy,hz =>
    injection hy with hy
    injection hz with hz
    subst hy hz
    exact ⟨rfl,h0'.ib hp0,hp0,hpl,hle⟩
  ·have he:Qbr t.kind t.text t.kids p0 i = Qcf t.kids:=by unfold Qbr;rw [if_neg c0,if_pos ⟨c1,c2⟩]
   rw [he]
   refine ⟨hp.1,fun j y z hy hz=>?_⟩
   obtain ⟨q1,q2⟩:=hp.2 j y z hy hz
   have hz1:z.2.length = 1:=paramsP_one (List.mem_of_getElem? hz)
   refine ⟨q1,q2.low h.hb,fun e=>by rw [e] at hz1;simp at hz1,by omega,fun g hg hpg=>?_⟩
   obtain ⟨g',c,cur,hv,hlo,hh',_⟩:=q2
   rw [hv] at hg
   injection hg with hg
   have e1:g' = g:=hg
   have:=(h.hp.lt g hpg).2
   omega
  ·have he:Qbr t.kind t.text t.kids p0 i = []:=by unfold Qbr;rw [if_neg c0,if_neg c1]
   rw [he]
   exact ⟨rfl,fun j y z hy=>by simp at hy⟩
 refine ⟨by rw [xB,xB,hh.hm.1,hlen.1],fun j y z hy hz=>?_⟩
 by_cases hj:j < us.length
 ·rw [List.getElem?_append_left hj] at hy
  rw [List.getElem?_append_left (by rw [← hh.hm.1];exact hj)] at hz
  exact hh.hm.2 j y z hy hz
 ·rw [List.getElem?_append_right (by omega)] at hy
  rw [List.getElem?_append_right (by rw [← hh.hm.1];omega),← hh.hm.1] at hz
  exact hlen.2 _ y z hy hz
end
def VPost (B:Nat) (lv:Value) (ws:List (Value × Value × Bool)) (pv:Value) (p:List Int) (sv:Value) (us:List (ByteArray × Value)) (st:List Bnd) (t:Tr) (w:World) (e:Ending) (w':World):Prop :=
 ∃ v' vs',e = .returned v' ∧ VRow w' B v' (ws ++ vs') ∧ VarsAt w' w.heap.size vs' (varsT t p st) ∧ Keeps (Qcg lv (ws.length * 3) pv p.length sv (us.length * 2)) w w' ∧ Later w lv v'
end Go.Proofs.Ytjidpkcjpgdafaa
