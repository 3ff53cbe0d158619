/- Part 23 -/
import Derived.Test.YtfjpemdejoejbaaGreatSg22
import Derived.Shelf.Spec.SearchS
import Derived.Shelf.Spec.SlicesInsert
import Derived.Shelf.Spec.SlicesInsertGrow
import Derived.Lib.LazyBuf
set_option maxRecDepth 100000
set_option maxHeartbeats 4000000
namespace Go.Proofs.YtfjpemdejoejbaaGreat
open Go.RowKit Go.Shelf
def Qca (t:Tr) (zs:List Int):List Bnd:=if Qfx t=true∧0≤Qnd 0 t zs then Qbt t [] zs [] else []
theorem Qky (S:Nat→Prop) (t:Tr) (v:TV) (PA:Option Addr) (c:Nat) (zs:List Int) (w:World) (ht:TrAt S w t v) (hs:Qcf t=true) (hw:Qdb t=true) (hz:Qak t≤10000) (hA:IntsAt w PA zs) (hzl:zs.length≤10000) (hc:zs.length≤c) :
  Calls Tryz.prog 74 #[.agg #[.int .i64 v.kind,.string v.text,.slice v.la v.ll v.lc,.slice v.ka v.kl v.kc],.slice PA zs.length c] w fun e w'=>∃ r us,e = .returned r∧Ql0 w' w.heap.size r us∧StkE w PA w' us (Qca t zs)∧us.length≤20000∧Below w.heap.size w w':=by
 cases hf:Qfx t
 ·have hr:Qca t zs = []:=by unfold Qca;rw [xN (fun h=>by rw [hf] at h;exact absurd h.1 (by decide))]
  rw [hr];clear hr;have hb0:=Qas w (trO v);have HT:=hQ (ht.keep hb0);have HX:=hQ (xH w (trO v));have HB0:=hQ hb0;have HS:=hQ hs;have HW:=hQ hw;have HZ:=hQ hz;have HF:=hQ hf;have HA:=hQ hA;have HZL:=hQ hzl;obtain ⟨vk,vx,vla,vll,vlc,vka,vkl,vkc⟩:=v;clear ht hb0 hs hw hz hf hA hzl
  go_enter Tryz.func74,Tryz.ntmps74
  go_wp2_with (go_at_call 47;refine (Qfy _ t _ _ HT.out HS.out HW.out).mono ?_;rw [HF.out];rintro e w1 ⟨rfl,hb⟩;have HB1:=hQ (HB0.out.trans (hb.mono HB0.out.size));clear hb)
  go_ret
  exact ⟨_,[],rfl,World.ownsRow_nil _ _ _ _,⟨rfl,fun j y z hy=>by simp at hy⟩,by simp,HB1.out⟩
 ·by_cases hn:0≤Qnd 0 t zs
  ·have hr:Qca t zs=Qbt t [] zs []:=by unfold Qca;rw [xO ⟨hf,hn⟩]
   rw [hr];exact Qwm S t v PA c zs w ht hs hw hz hA hzl hc hf hn
  ·have hr:Qca t zs = []:=by unfold Qca;rw [xN (fun h=>hn h.2)]
   rw [hr];clear hr;have hb0:=Qas w (trO v);have HT:=hQ (ht.keep hb0);have HX:=hQ (xH w (trO v));have HB0:=hQ hb0;have HS:=hQ hs;have HW:=hQ hw;have HZ:=hQ hz;have HF:=hQ hf;have HN:=hQ hn;have HA:=hQ hA;have HZL:=hQ hzl;have HC:=hQ hc;have hkl:=ht.kl.1;obtain ⟨vk,vx,vla,vll,vlc,vka,vkl,vkc⟩:=v;simp only at hkl;subst hkl;clear ht hb0 hs hw hz hf hA hzl hc;have d0:decide (Qnd 0 t zs<0)=true:=xS (by omega);clear hn
   go_enter Tryz.func74,Tryz.ntmps74
   go_wp2_with (first
    | (go_at_call 47;refine (Qfy _ t _ _ HT.out HS.out HW.out).mono ?_;rw [HF.out];rintro e w1 ⟨rfl,hb⟩;have HB1:=hQ (HB0.out.trans (hb.mono HB0.out.size));have HT1:=hQ (HT.out.keep hb);have HX1:=hQ ((hb.block _ (Qaa HX.out)).trans HX.out);have k0:w1.cell? ⟨w.heap.size,0,none⟩=some (.int .i64 vk):=Qab HX1.out 0 _ rfl;have k1:w1.cell? ⟨w.heap.size,1,none⟩=some (.string vx):=Qab HX1.out 1 _ rfl;have k2:w1.cell? ⟨w.heap.size,2,none⟩=some (.slice vla vll vlc):=Qab HX1.out 2 _ rfl;have k3:w1.cell? ⟨w.heap.size,3,none⟩=some (.slice vka t.kids.length vkc):=Qab HX1.out 3 _ rfl;clear hb)
    | (go_at_call 107;refine (Qmm _ t _ PA c zs _ HT1.out (HA.out.keep HB1.out) (by have:=HZL.out;unfold maxLen;omega) (by have:=HZ.out;omega)).mono ?_;rintro e w2 ⟨rfl,hb⟩;have HB2:=hQ (HB1.out.trans (hb.mono HB1.out.size));have HT2:=hQ (HT1.out.keep hb);have HX2:=hQ ((hb.block _ (Qaa HX1.out)).trans HX1.out);clear k0 k1 k2 k3;have k0:w2.cell? ⟨w.heap.size,0,none⟩=some (.int .i64 vk):=Qab HX2.out 0 _ rfl;have k1:w2.cell? ⟨w.heap.size,1,none⟩=some (.string vx):=Qab HX2.out 1 _ rfl;have k2:w2.cell? ⟨w.heap.size,2,none⟩=some (.slice vla vll vlc):=Qab HX2.out 2 _ rfl;have k3:w2.cell? ⟨w.heap.size,3,none⟩=some (.slice vka t.kids.length vkc):=Qab HX2.out 3 _ rfl;clear hb))
   go_ret
   exact ⟨_,[],rfl,World.ownsRow_nil _ _ _ _,⟨rfl,fun j y z hy=>by simp at hy⟩,by simp,HB2.out⟩
theorem StkE.stk {w w':World} {B:Nat} {PA A:Option Addr} {m cap:Nat} {us:List (ByteArray × Value)} {st:List Bnd} (h:StkE w PA w' us st) (hs:Ql0 w' B (.slice A m cap) us) (hb:Below w.heap.size w w'):m=st.length∧Zc4 w' A st:=by
 refine ⟨?_,us,h.1,fun hne=>?_,fun j y z hy hz=>?_⟩
 ·rcases hs.2 with ⟨hv,h0⟩|⟨g,cap',cur,hv,_⟩
  ·injection hv with _ hv _;rw [hv,←h.1,h0]
  ·injection hv with _ hv _;rw [hv,h.1]
 ·rcases hs.2 with ⟨hv,h0⟩|⟨g,cap',cur,hv,_,hh,_⟩
  ·exact absurd (List.eq_nil_of_length_eq_zero h0) hne
  ·injection hv with hv _ _;have hc:=hs.cells (g:=g) (by rw [hv];rfl);refine ⟨g,0,hv,Qaa hh,fun j x hx=>?_⟩;have h1:=hc _ _ (Qfm hx).1;have h2:=hc _ _ (Qfm hx).2;rw [Addr.add_lit] at h1 h2;exact ⟨h1,h2⟩
 ·obtain ⟨h1,h2,h3,h4⟩:=h.2 j y z hy hz
  rcases h4 with h4|⟨pc,hv,hi⟩
  ·obtain ⟨PA',pc,hv,hi⟩:=h4.ints;exact ⟨h1,PA',pc,hv,hi,h2,h3⟩
  ·exact ⟨h1,PA,pc,hv,hi.keep hb,h2,h3⟩
theorem Qwn (S:Nat→Prop) (t:Tr) (v:TV) (PA:Option Addr) (c:Nat) (zs:List Int) (x:ByteArray) (w:World) (ht:TrAt S w t v) (hs:Qcf t=true) (hw:Qdb t=true) (hz:Qak t≤10000) (hA:IntsAt w PA zs) (hzl:zs.length≤10000) (hc:zs.length≤c) :
  Calls Tryz.prog 45 #[.agg #[.int .i64 v.kind,.string v.text,.slice v.la v.ll v.lc,.slice v.ka v.kl v.kc],.slice PA zs.length c,.string x] w (Qsr (Qdo (Qca t zs) x) w):=by
 have hb0:=Qas w (trO v);have HT:=hQ (ht.keep hb0);have HX:=hQ (xH w (trO v));have HB0:=hQ hb0;have HS:=hQ hs;have HW:=hQ hw;have HZ:=hQ hz;have HA:=hQ (hA.keep hb0);have HZL:=hQ hzl;have HC:=hQ hc;obtain ⟨vk,vx,vla,vll,vlc,vka,vkl,vkc⟩:=v;clear ht hb0 hs hw hz hA hzl hc;cases hin:Qdo (Qca t zs) x with
 | none =>
  have HIN:=hQ hin;clear hin
  go_enter Tryz.func45,Tryz.ntmps45
  go_wp2_with (first
   | (go_at_call 74;refine (Qky _ t _ PA c zs _ HT.out HS.out HW.out HZ.out HA.out HZL.out HC.out).mono ?_;rintro e w1 ⟨r,us,rfl,hr,hst,hul,hb⟩;obtain ⟨RA,rc,rfl⟩:=Qdq hr;have HB1:=hQ (HB0.out.trans (hb.mono HB0.out.size));have HSK:=hQ (hst.stk hr hb);have HUL:=hQ hul;clear hr hst hul hb)
   | (go_at_call 73;refine (Qga RA _ rc (Qca t zs) x _ HSK.out.1 HSK.out.2 (by have:=HUL.out;omega)).mono ?_;rw [HIN.out];rintro e w2 ⟨hb,rfl⟩;have HB2:=hQ (HB1.out.trans (hb.mono HB1.out.size));clear hb))
  go_ret2
  exact ⟨HB2.out,rfl⟩
 | some q =>
  have HIN:=hQ hin;clear hin
  go_enter Tryz.func45,Tryz.ntmps45
  go_wp2_with (first
   | (go_at_call 74;refine (Qky _ t _ PA c zs _ HT.out HS.out HW.out HZ.out HA.out HZL.out HC.out).mono ?_;rintro e w1 ⟨r,us,rfl,hr,hst,hul,hb⟩;obtain ⟨RA,rc,rfl⟩:=Qdq hr;have HB1:=hQ (HB0.out.trans (hb.mono HB0.out.size));have HSK:=hQ (hst.stk hr hb);have HUL:=hQ hul;clear hr hst hul hb)
   | (go_at_call 73;refine (Qga RA _ rc (Qca t zs) x _ HSK.out.1 HSK.out.2 (by have:=HUL.out;omega)).mono ?_;rw [HIN.out];rintro e w2 ⟨hb,y,rfl,hy⟩;have HY:=hQ (hy.low HB1.out.size);have HB2:=hQ (HB1.out.trans (hb.mono HB1.out.size));clear hb hy))
  go_ret2
  exact ⟨HB2.out,y,rfl,HY.out⟩
end Go.Proofs.YtfjpemdejoejbaaGreat
namespace Go.Proofs.YtfjpemdejoejbaaGreat
open Go.RowKit
theorem Ze2:(x:List UInt8)→Op.bytesLess x x=false
 | []=>rfl
 | a :: r=>by
  rw [Op.bytesLess,Ze2 r];simp
theorem Ze3:(x y:List UInt8)→Op.bytesLess x y=false→Op.bytesLess y x=false→x=y
 | [],[],_,_=>rfl
 | [],b :: s,h,_=>by rw [Op.bytesLess] at h;cases h
 | a :: r,[],_,h=>by rw [Op.bytesLess] at h;cases h
 | a :: r,b :: s,h,k=>by
  rw [Op.bytesLess] at h k;simp only [Bool.or_eq_false_iff,decide_eq_false_iff_not,Bool.and_eq_false_imp,beq_iff_eq] at h k
  have hab:a=b:=by
   have h1:=h.1;have h2:=k.1;rw [UInt8.lt_iff_toNat_lt] at h1 h2;exact UInt8.toNat_inj.1 (by omega)
  subst hab;rw [Ze3 r s (h.2 rfl) (k.2 rfl)]
theorem Qui:(x y z:List UInt8)→Op.bytesLess x y=true→Op.bytesLess y z=true→Op.bytesLess x z=true
 | _,[],_,h,_=>by unfold Op.bytesLess at h;cases h
 | _,_ :: _,[],_,h=>by unfold Op.bytesLess at h;cases h
 | [],_ :: _,_ :: _,_,_=>rfl
 | a :: r,b :: s,c :: t,h,k=>by
  rw [Op.bytesLess] at h k ⊢;simp only [Bool.or_eq_true,decide_eq_true_eq,Bool.and_eq_true,beq_iff_eq,UInt8.lt_iff_toNat_lt] at h k ⊢
  rcases h with h|⟨rfl,h⟩
  ·rcases k with k|⟨rfl,k⟩
   ·exact .inl (by omega)
   ·exact .inl h
  ·rcases k with k|⟨rfl,k⟩
   ·exact .inl k
   ·exact .inr ⟨rfl,Qui r s t h k⟩
def ltS (x y:ByteArray):Bool:=Op.bytesLess x.toList y.toList
theorem Qzp {x y:ByteArray} (h:x.toList=y.toList):x=y:=by
 rw [Lib.toList_data,Lib.toList_data] at h;cases x with
 | mk a=>cases y with
  | mk b=>exact congrArg ByteArray.mk (Array.toList_inj.1 h)
theorem Zgd (x:ByteArray):ltS x x=false:=Ze2 _
theorem Zge {x y:ByteArray} (h:ltS x y=false) (k:ltS y x=false):x=y:=Qzp (Ze3 _ _ h k)
theorem Qqp {x y z:ByteArray} (h:ltS x y=true) (k:ltS y z=true):ltS x z=true:=Qui _ _ _ h k
def Qfc (l:List ByteArray) (x:ByteArray):Nat:=(l.takeWhile fun y=>ltS y x).length
theorem Qpg (l:List ByteArray) (x:ByteArray):Qfc l x≤l.length:=by
 unfold Qfc;exact (List.takeWhile_prefix _).length_le
def Qsw (l:List ByteArray) (x:ByteArray):List ByteArray:=if l[Qfc l x]? = some x then l else l.take (Qfc l x) ++ x :: l.drop (Qfc l x)
def Asc (l:List ByteArray):Prop:=l.Pairwise fun a b=>ltS a b=true
theorem Qn4 (a:ByteArray) (r:List ByteArray) (x:ByteArray):Qfc (a :: r) x=if ltS a x=true then Qfc r x+1 else 0:=by
 unfold Qfc;rw [List.takeWhile_cons]
 split <;> rfl
theorem Qmt:(l:List ByteArray)→(x:ByteArray)→(t:Nat)→t<Qfc l x→∃ y,l[t]? = some y∧ltS y x=true
 | [],_,t,h=>by exact absurd h (Nat.not_lt_zero t)
 | a :: r,x,t,h=>by
  rw [Qn4] at h
  split at h
  ·rename_i ha
   match t,h with
   | 0,_=>exact ⟨a,rfl,ha⟩
   | t+1,h=>exact Qmt r x t (by omega)
  ·omega
theorem Qi3:(l:List ByteArray)→(x:ByteArray)→Asc l→(t:Nat)→Qfc l x≤t→(y:ByteArray)→l[t]? = some y→ltS y x=false
 | [],_,_,_,_,_,h=>by simp at h
 | a :: r,x,hl,t,ht,y,hy=>by
  rw [Qn4] at ht;unfold Asc at hl;rw [List.pairwise_cons] at hl
  split at ht
  ·match t,ht,hy with
   | t+1,ht,hy=>exact Qi3 r x hl.2 t (by omega) y hy
  ·rename_i ha
   have ha:ltS a x=false:=by simpa using ha
   match t,hy with
   | 0,hy =>
    injection hy with hy;subst hy;exact ha
   | t+1,hy =>
    cases hyx:ltS y x
    ·rfl
    ·have:=Qqp (hl.1 y (yA hy)) hyx
     rw [ha] at this;cases this
theorem Zdb (l:List ByteArray) (x y:ByteArray):y∈Qsw l x ↔ y∈l∨y=x:=by
 unfold Qsw
 split
 ·rename_i h
  exact ⟨.inl,fun k=>k.elim id fun e=>e ▸ yA h⟩
 ·rw [List.mem_append,List.mem_cons]
  constructor
  ·rintro (h | h | h)
   ·exact .inl (List.mem_of_mem_take h)
   ·exact .inr h
   ·exact .inl (List.mem_of_mem_drop h)
  ·rintro (h | h)
   ·rw [←List.take_append_drop (Qfc l x) l,List.mem_append] at h;exact h.elim .inl fun h=>.inr (.inr h)
   ·exact .inr (.inl h)
theorem Zdc {l:List ByteArray} (x:ByteArray) (h:Asc l):Asc (Qsw l x):=by
 unfold Qsw
 split
 ·exact h
 ·rename_i hn
  have h':=h;unfold Asc at h' ⊢;rw [List.pairwise_append,List.pairwise_cons]
  have hlow:∀ a∈l.take (Qfc l x),ltS a x=true:=fun a ha=>by
   obtain ⟨t,ht⟩:=List.mem_iff_getElem?.1 ha;have hlt:=(xP.1 ht).1;rw [List.length_take] at hlt;rw [List.getElem?_take_of_lt (by omega)] at ht;obtain ⟨y,hy,hyx⟩:=Qmt l x t (by omega);rw [ht] at hy;injection hy with hy;subst hy;exact hyx
  have hhigh:∀ b∈l.drop (Qfc l x),ltS x b=true:=fun b hb=>by
   obtain ⟨t,ht⟩:=List.mem_iff_getElem?.1 hb;rw [List.getElem?_drop] at ht
   cases hxb:ltS x b
   ·exfalso
    have e:=Zge hxb (Qi3 l x h _ (Nat.le_add_right _ _) b ht);subst e
    match t,ht with
    | 0,ht=>exact hn ht
    | t+1,ht =>
     have hlt:=(xP.1 ht).1;obtain ⟨y,hy⟩:∃ y,l[Qfc l x]? = some y:=⟨_,xF (by omega)⟩;have h1:=Qi3 l x h _ (xA _) y hy;have h2:=List.pairwise_iff_getElem.1 h' (Qfc l x) (Qfc l x+(t+1)) (by omega) (by omega) (by omega);rw [(xP.1 hy).2,(xP.1 ht).2] at h2;rw [h1] at h2;cases h2
   ·rfl
  exact ⟨h'.sublist (List.take_sublist _ _),⟨hhigh,h'.sublist (List.drop_sublist _ _)⟩,fun a ha b hb=>by
   rcases List.mem_cons.1 hb with rfl | hb
   ·exact hlow a ha
   ·exact Qqp (hlow a ha) (hhigh b hb)⟩
theorem Zgf {l:List ByteArray} (x:ByteArray) (h:Asc l) (S:Nat→ByteArray) (hS:∀ j,j<l.length→l[j]? = some (S j)) (hS':∀ j,l.length≤j→ltS (S j) x=false):Lib.bsGo (fun t=>Op.bytesLess (S t).toList x.toList) l.length 0 l.length=Qfc l x:=by
 refine Lib.bsGo_spec _ _ (fun t ht=>?_) (fun t ht=>?_) _ _ _ (by omega) (xZ _) (Qpg l x)
 ·obtain ⟨y,hy,hyx⟩:=Qmt l x t ht;rw [hS t (by have:=Qpg l x;omega)] at hy;injection hy with hy;rw [←hy] at hyx;exact hyx
 ·by_cases hl:t<l.length
  ·exact Qi3 l x h t ht _ (hS t hl)
  ·exact hS' t (by omega)
def Qh7 (l:List ByteArray):List ByteArray:=l.foldl Qsw []
theorem Qsx (l:List ByteArray) (x:ByteArray):Qh7 (l ++ [x])=Qsw (Qh7 l) x:=by
 unfold Qh7;rw [List.foldl_append];rfl
theorem Qqq (x:ByteArray):(l m:List ByteArray)→(x∈l.foldl Qsw m ↔ x∈m∨x∈l)
 | [],m=>by simp
 | a :: r,m=>by
  rw [List.foldl_cons,Qqq x r,Zdb,List.mem_cons,or_assoc]
theorem Qwo (l:List ByteArray) (x:ByteArray):x∈Qh7 l ↔ x∈l:=by
 unfold Qh7;rw [Qqq];simp
theorem Qqr:(l m:List ByteArray)→Asc m→Asc (l.foldl Qsw m)
 | [],_,h=>h
 | a :: r,_,h=>Qqr r _ (Zdc a h)
theorem Qwp (l:List ByteArray):Asc (Qh7 l):=Qqr l [] List.Pairwise.nil
theorem Zdd (l:List ByteArray) (x:ByteArray):(Qsw l x).length≤l.length+1:=by
 unfold Qsw
 split
 ·omega
 ·rw [xB,xD,List.length_take,List.length_drop];omega
theorem Qwq (l:List ByteArray):(Qh7 l).length≤l.length:=by
 have h:∀ (l m:List ByteArray),(l.foldl Qsw m).length≤m.length+l.length:=by
  intro l
  induction l with
  | nil=>intro m;simp
  | cons a r ih =>
   intro m;rw [List.foldl_cons,xD];have h1:=ih (Qsw m a);have h2:=Zdd m a;omega
 have:=h l []
 unfold Qh7
 simpa using this
end Go.Proofs.YtfjpemdejoejbaaGreat
namespace Go.Proofs.YtfjpemdejoejbaaGreat
open Go.RowKit Go.Shelf
def Zgg:Go.Shelf.Ren:=⟨fun | 26=>75 | 33=>108 | 34=>109 | 38=>148 | n=>n,fun | 0=>0 | 3=>3 | 4=>4 | 9=>9 | 24=>23 | 40=>154 | n=>n,fun n=>n⟩
theorem Quj:Go.Proofs.Lays2.n26 Tryz.prog Zgg:={
 mixed:=by kernel_rfl
 f26:=Tryz.func75.trans (congrArg some (by kernel_rfl))
 f33:=Tryz.func108.trans (congrArg some (by kernel_rfl))
 f34:=Tryz.func109.trans (congrArg some (by kernel_rfl))
 f38:=Tryz.func148.trans (congrArg some (by kernel_rfl))
 t0:=Tryz.underlying0
 a0:=Tryz.isAgg0
 z0:=Tryz.sizeOf0
 v0:=Tryz.zeroValue0
 t3:=Tryz.underlying3
 a3:=Tryz.isAgg3
 z3:=Tryz.sizeOf3
 v3:=Tryz.zeroValue3
 t4:=Tryz.underlying4
 a4:=Tryz.isAgg4
 z4:=Tryz.sizeOf4
 v4:=Tryz.zeroValue4
 t9:=Tryz.underlying9
 a9:=Tryz.isAgg9
 z9:=Tryz.sizeOf9
 v9:=Tryz.zeroValue9
 t24:=Tryz.underlying23
 a24:=Tryz.isAgg23
 z24:=Tryz.sizeOf23
 v24:=Tryz.zeroValue23
 t40:=Tryz.underlying154
 a40:=Tryz.isAgg154
 z40:=Tryz.sizeOf154
 v40:=Tryz.zeroValue154 }
def insRen:Go.Shelf.Ren:=⟨fun | 22=>76 | 17=>171 | 29=>110 | 30=>111 | 36=>149 | n=>n,fun | 0=>0 | 3=>3 | 4=>4 | 9=>9 | 24=>23 | n=>n,fun n=>n⟩
theorem Qph:Go.Proofs.Lays2.n22 Tryz.prog insRen:={
 mixed:=by kernel_rfl
 f17:=Tryz.func171.trans (congrArg some (by kernel_rfl))
 f22:=Tryz.func76.trans (congrArg some (by kernel_rfl))
 f29:=Tryz.func110.trans (congrArg some (by kernel_rfl))
 f30:=Tryz.func111.trans (congrArg some (by kernel_rfl))
 f36:=Tryz.func149.trans (congrArg some (by kernel_rfl))
 t0:=Tryz.underlying0
 a0:=Tryz.isAgg0
 z0:=Tryz.sizeOf0
 v0:=Tryz.zeroValue0
 t3:=Tryz.underlying3
 a3:=Tryz.isAgg3
 z3:=Tryz.sizeOf3
 v3:=Tryz.zeroValue3
 t4:=Tryz.underlying4
 a4:=Tryz.isAgg4
 z4:=Tryz.sizeOf4
 v4:=Tryz.zeroValue4
 t9:=Tryz.underlying9
 a9:=Tryz.isAgg9
 z9:=Tryz.sizeOf9
 v9:=Tryz.zeroValue9
 t24:=Tryz.underlying23
 a24:=Tryz.isAgg23
 z24:=Tryz.sizeOf23
 v24:=Tryz.zeroValue23
 i9:=by kernel_rfl }
def NRow (w:World) (B:Nat) (v:Value) (l:List ByteArray):Prop:=w.ownsRow B 9 1 v l.length (l.map Value.string)
theorem NRow.nil (w:World) (B:Nat):NRow w B (.slice none 0 0) []:=World.ownsRow_nil _ _ _ _
theorem NRow.cells {w:World} {B g n c:Nat} {l:List ByteArray} (h:NRow w B (.slice (some ⟨g,0,none⟩) n c) l):n=l.length∧B≤g∧g<w.heap.size∧n≤c∧c≤maxLen∧w.rowIs g 9 c (fun j=>((w.cell? ⟨g,j,none⟩).getD default))∧∀ (j:Nat) (x:ByteArray),l[j]? = some x→w.cell? ⟨g,j,none⟩=some (.string x):=by
 rcases h.2 with ⟨hv,_⟩|⟨g',cap,cur,hv,hb,hh,hnc,hm,hsz,htk⟩
 ·cases hv
 ·injection hv with e1 e2 e3;injection e1 with e1;injection e1 with e1;subst e1 e3;rw [Nat.mul_one] at hsz
  refine ⟨e2,hb,Qaa hh,by omega,hm,⟨cur,hh,hsz,fun i hi=>?_⟩,fun j x hx=>?_⟩
  ·show cur[i]? = some ((w.cell? ⟨g,i,none⟩).getD default)
   rw [Lib.cell_of_heap hh,Array.getElem?_eq_getElem (by omega)];rfl
  ·have hi:=(xP.1 hx).1;rw [Lib.cell_of_heap hh,←Array.getElem?_toList];have h1:(l.map Value.string)[j]? = some (.string x):=by rw [List.getElem?_map,hx];rfl
   rw [←htk,List.getElem?_take_of_lt (by omega)] at h1;exact h1
theorem NRow.of_row {w:World} {B g c:Nat} {l:List ByteArray} {f:Nat→Value} (hb:B≤g) (hc:l.length≤c) (hm:c≤maxLen) (h:w.rowIs g 9 c f) (hf:∀ (j:Nat) (x:ByteArray),l[j]? = some x→f j = .string x):NRow w B (.slice (some ⟨g,0,none⟩) l.length c) l:=by
 obtain ⟨cur,hh,hsz,hcs⟩:=h;refine ⟨by simp,.inr ⟨g,c,cur,rfl,hb,hh,hc,hm,by rw [hsz,Nat.mul_one],?_⟩⟩
 apply List.ext_getElem?
 intro j;rw [Nat.mul_one]
 by_cases hj:j<l.length
 ·rw [List.getElem?_take_of_lt hj,Array.getElem?_toList,hcs j (by omega),List.getElem?_map,xF hj,hf j _ (xF hj)];rfl
 ·rw [List.getElem?_eq_none (by rw [List.length_take];omega),List.getElem?_eq_none (by rw [List.length_map];omega)]
theorem NRow.keep {w w':World} {B:Nat} {v:Value} {l:List ByteArray} (h:NRow w B v l) (hb:Below w.heap.size w w'):NRow w' B v l:=by
 refine ⟨h.1,?_⟩
 rcases h.2 with h0|⟨g,cap,cur,hv,hb',hh,hr⟩
 ·exact .inl h0
 ·exact .inr ⟨g,cap,cur,hv,hb',(hb.block g (Qaa hh)).trans hh,hr⟩
theorem Qkz (B:Nat) (w:World) (q:Nat):Below B w (w.drewN q):=⟨rfl,rfl,rfl,xA _,fun _ _=>rfl⟩
theorem Qn5 (B:Nat) (v:Value) (l:List ByteArray) (x:ByteArray) (w:World) (h:NRow w B v l) (ha:Asc l) (hl:l.length≤1000000) :
  Calls Tryz.prog 75 #[v,.string x] w fun e w'=>e = .returned (.tuple #[.int .i64 ((Qfc l x:Nat):Int),.bool (decide (l[Qfc l x]? = some x))])∧∃ q,w'=w.drewN q:=by
 rcases h.2 with ⟨rfl,h0⟩|⟨g,cap,cur,hv,_⟩
 ·obtain rfl:=List.eq_nil_of_length_eq_zero h0;refine (Any2.slices_BinarySearch_string_empty Quj none 0 x w).mono ?_;rintro e w' ⟨rfl,rfl⟩;exact ⟨rfl,0,rfl⟩
 ·subst hv;obtain ⟨_,_,_,_,_,_,hc⟩:=h.cells;have hS:∀ j,j<l.length→l[j]? = some (l.getD j x):=fun j hj=>by rw [List.getD_eq_getElem?_getD,xF hj];rfl
  have hb:=Zgf x ha (fun j=>l.getD j x) hS (fun j hj=>by
   show ltS (l.getD j x) x=false
   rw [List.getD_eq_getElem?_getD,List.getElem?_eq_none hj];exact Zgd x)
  refine (Any2.slices_BinarySearch_string Quj g 0 l.length cap (fun j=>l.getD j x) x w (by omega) (fun j hj=>by rw [Nat.zero_add];exact hc j _ (hS j hj))).mono ?_;rw [hb];rintro e w' ⟨rfl,hq⟩;refine ⟨?_,hq⟩
  have:decide (Qfc l x<l.length∧l.getD (Qfc l x) x=x)=decide (l[Qfc l x]? = some x):=by
   by_cases hlt:Qfc l x<l.length
   ·rw [hS _ hlt];simp [hlt]
   ·rw [List.getElem?_eq_none (by omega)];simp [hlt]
  rw [this]
theorem Qzq {l:List ByteArray} {i:Nat} {x y:ByteArray} {j:Nat} (hi:i≤l.length) (h:(l.take i ++ x :: l.drop i)[j]? = some y):(j<i∧l[j]? = some y)∨(j=i∧y=x)∨(i<j∧l[j-1]? = some y):=by
 have hl:(l.take i).length=i:=by rw [List.length_take];omega
 by_cases h1:j<i
 ·rw [yB (by omega),List.getElem?_take_of_lt h1] at h;exact .inl ⟨h1,h⟩
 ·rw [xX (by omega),hl] at h
  by_cases h2:j=i
  ·subst h2;rw [Nat.sub_self] at h;injection h with h;exact .inr (.inl ⟨rfl,h.symm⟩)
  ·obtain ⟨k,rfl⟩:∃ k,j=i+1+k:=⟨j-i-1,by omega⟩;rw [show i+1+k-i=k+1 from by omega,List.getElem?_cons_succ,List.getElem?_drop] at h;exact .inr (.inr ⟨by omega,by rw [show i+1+k-1=i+k from by omega];exact h⟩)
theorem Zgh {l:List ByteArray} {i:Nat} (x:ByteArray) (hi:i≤l.length):(l.take i ++ x :: l.drop i).length=l.length+1:=by
 rw [xB,xD,List.length_take,List.length_drop];omega
theorem Qqs (l:List ByteArray):∀ v∈l.map Value.string,v.oneCell'=true:=fun v hv=>by
 obtain ⟨x,_,rfl⟩:=List.mem_map.1 hv;rfl
theorem NRow.of_heap {w:World} {B g c:Nat} {l:List ByteArray} {arr:Array Value} (hb:B≤g) (hh:w.heap[g]? = some (.cells arr 9 (0,0))) (hc:l.length≤c) (hm:c≤maxLen) (hs:arr.size=c) (ht:arr.toList.take l.length=l.map Value.string):NRow w B (.slice (some ⟨g,0,none⟩) l.length c) l :=
 ⟨by simp,.inr ⟨g,c,arr,rfl,hb,hh,hc,hm,by rw [hs,Nat.mul_one],by rw [Nat.mul_one];exact ht⟩⟩
theorem Ze4 {l:List ByteArray} {i:Nat} {x y:ByteArray} {j:Nat} {f:Nat→Value} (hi:i≤l.length) (hf:∀ (j:Nat) (y:ByteArray),j<i→l[j]? = some y→f j = .string y) (hy:(l.take i ++ x :: l.drop i)[j]? = some y) :
  (if i≤j∧j<i + [Value.string x].length then [Value.string x][j-i]?.getD default else if i+1≤j∧j<i+1+((l.map Value.string).drop i).length then ((l.map Value.string).drop i)[j-(i+1)]?.getD default else f j) = .string y ∧
  (if i+1≤j∧j<i+1+((l.map Value.string).drop i).length then ((l.map Value.string).drop i)[j-(i+1)]?.getD default else if i≤j∧j<i + [Value.string x].length then [Value.string x][j-i]?.getD default else f j) = .string y:=by
 have hd:((l.map Value.string).drop i).length=l.length-i:=by rw [List.length_drop,List.length_map]
 have h1:[Value.string x].length=1:=rfl;rw [hd,h1]
 rcases Qzq hi hy with ⟨a,b⟩|⟨rfl,rfl⟩|⟨a,b⟩
 ·rw [xN (by omega),xN (by omega),xN (by omega),xN (by omega),hf j y a b];exact ⟨rfl,rfl⟩
 ·rw [xO (by omega),xN (by omega),xO (by omega),Nat.sub_self];exact ⟨rfl,rfl⟩
 ·have hj:=(xP.1 b).1;rw [xN (by omega),xO (by omega),xO (by omega),List.getElem?_drop,show i+(j-(i+1))=j-1 from by omega,List.getElem?_map,b];exact ⟨rfl,rfl⟩
theorem Qwr (B:Nat) (v:Value) (l:List ByteArray) (i:Nat) (x:ByteArray) (vb:Nat) (w:World) (h:NRow w B v l) (hi:i≤l.length) (hl:l.length≤1000000) (hv:w.heap[vb]? = some (.cells #[.string x] 9 (0,0))) (hne:v.ownBlock≠some vb) (hB:B≤w.heap.size) :
  Calls Tryz.prog 76 #[v,.int .i64 (i:Int),.slice (some ⟨vb,0,none⟩) 1 1] w fun e w'=>∃ u,e = .returned u∧NRow w' B u (l.take i ++ x :: l.drop i)∧Below B w w':=by
 have hvs:∀ (j:Nat) (u:Value),[Value.string x][j]? = some u→w.cell? ⟨vb,0+j,none⟩=some u:=fun j u hu=>by
  rw [Nat.zero_add,Lib.cell_of_heap hv,←Array.getElem?_toList];exact hu
 have h1v:∀ u∈[Value.string x],u.oneCell'=true:=fun u hu=>by
  obtain rfl:=List.mem_singleton.1 hu;rfl
 have hlen:=Zgh x hi
 have endgrow:∀ (base:Option Addr) (c:Nat),v = .slice base l.length c→l.length≤c→c<l.length+1→i=l.length→(base=none→l.length=0)→(∀ a,base=some a→∀ j u,(l.map Value.string)[j]? = some u→w.cell? (a.add j)=some u) →
   Calls Tryz.prog 76 #[v,.int .i64 (i:Int),.slice (some ⟨vb,0,none⟩) 1 1] w fun e w'=>∃ u,e = .returned u∧NRow w' B u (l.take i ++ x :: l.drop i)∧Below B w w':=by
  rintro base c rfl hnc hroom rfl hnil hcs;refine (Any2.slices_Insert_string_end_grow Qph base l.length c vb 0 1 1 (l.map Value.string) [.string x] w (by decide) hnc hroom (by omega) (by rw [List.length_map]) rfl hnil hcs hvs h1v).mono ?_;rintro e w' ⟨rfl,rfl⟩;have hg:=grownCap_ge w (l.length+1) c 9;have hm:=grownCap_le_maxLen w (l.length+1) c 9 (by unfold maxLen;omega);refine ⟨_,rfl,?_,((Qkz B w 1).trans ((Qas w.drew _).mono hB))⟩;have hn:=fun h1 h2 h3=>NRow.of_heap (w:=w.drew.alloc (.cells (((l.map Value.string) ++ [Value.string x]).toArray ++ Builtin.zeroCells (Value.string ⟨#[]⟩).cells (grownCap w (l.length+1) c 9-(l.length+1))) 9)) (c:=grownCap w (l.length+1) c 9) (l:=l.take l.length ++ x :: l.drop l.length) (arr:=((l.map Value.string) ++ [Value.string x]).toArray ++ Builtin.zeroCells (Value.string ⟨#[]⟩).cells (grownCap w (l.length+1) c 9-(l.length+1))) hB (xH w.drew _) h1 hm h2 h3
  rw [hlen] at hn
  refine hn hg ?_ ?_
  ·rw [Array.size_append,size_zeroCells];simp [Value.cells]
   omega
  ·rw [Array.toList_append,List.take_left' (by simp),List.take_length,List.drop_length];simp
 rcases h.2 with ⟨rfl,h0⟩|⟨g,cap,cur,hv0,_⟩
 ·exact endgrow none 0 (by rw [h0]) (by omega) (by omega) (by omega) (fun _=>h0) (fun a e=>by cases e)
 ·subst hv0;obtain ⟨_,hBg,hgl,hnc,hcm,hrow,hc⟩:=h.cells;have hgb:vb≠g:=fun e=>hne (by rw [e];rfl)
  have hcs:∀ (j:Nat) (u:Value),(l.map Value.string)[j]? = some u→w.cell? ⟨g,0+j,none⟩=some u:=fun j u hu=>by
   rw [List.getElem?_map,Option.map_eq_some_iff] at hu;obtain ⟨y,hy,rfl⟩:=hu;rw [Nat.zero_add];exact hc j y hy
  have hrow0:=hrow;obtain ⟨cs,hh,hsz,_⟩:=hrow0;have hfr:∀ j,w.frozen? ⟨g,j,none⟩=false:=fun j=>Qgn hh
  have hcv:cap≤9223372036854775807:=by unfold maxLen at hcm;omega
  by_cases hin:i=l.length
  ·by_cases hroom:l.length+1≤cap
   ·subst hin
    refine (Any2.slices_Insert_string_end_room Qph g 0 l.length cap vb 0 1 1 [.string x] w (by decide) hroom hcv rfl (fun j hj=>?_) (fun j _=>hfr _) hvs h1v).mono ?_
    ·rw [Nat.zero_add,hrow.cell (by omega)];rfl
    rintro e w' ⟨rfl,rfl⟩;refine ⟨_,rfl,?_,_root_.Go.below_setCells hBg _ _ _ (xC _ _)⟩;have hr:=rowIs_setCells [Value.string x] l.length w _ hrow;rw [Nat.zero_add];have hn:=fun h1 h2=>NRow.of_row (l:=l.take l.length ++ x :: l.drop l.length) hBg h1 hcm hr h2
    rw [hlen] at hn;refine hn hroom (fun j y hy=>?_)
    rcases Qzq (xA _) hy with ⟨a,b⟩|⟨rfl,rfl⟩|⟨a,b⟩
    ·rw [xN (by omega),hc j y b];rfl
    ·rw [xO (by simp),Nat.sub_self];rfl
    ·have:=(xP.1 b).1
     omega
   ·exact endgrow _ cap rfl hnc (by omega) hin (fun e=>by cases e) (fun a ha j u hu=>by
     injection ha with ha;subst ha;rw [Addr.add_lit];exact hcs j u hu)
  ·by_cases hroom:l.length+1≤cap
   ·refine (Any2.slices_Insert_string_shift Qph g 0 l.length cap i vb 0 1 1 (l.map Value.string) [.string x] w (by omega) (by decide) hroom hcv hgb (by rw [List.length_map]) rfl hcs (fun j hj=>?_) (fun j _=>hfr _) hvs (Qqs l) h1v 9 9 1 cap (by simp [World.shape?,hv]) (by simp [World.shape?,hh,hsz]) (by omega) (Qgn hv) (Qgn hv)).mono ?_
    ·rw [Nat.zero_add,hrow.cell (by omega)];rfl
    rintro e w' ⟨rfl,rfl⟩;refine ⟨_,rfl,?_,_root_.Go.below_setCells hBg _ _ _ (_root_.Go.below_setCells hBg _ _ _ (Qkz B w 1))⟩;have hr:=rowIs_setCells [Value.string x] i _ _ (rowIs_setCells ((l.map Value.string).drop i) (i+1) w.drew _ (show w.drew.rowIs g 9 cap _ from hrow));rw [Nat.zero_add,Nat.zero_add];have hn:=fun h1 h2=>NRow.of_row (l:=l.take i ++ x :: l.drop i) hBg h1 hcm hr h2
    rw [hlen] at hn;refine hn hroom (fun j y hy=>(Ze4 (f:=fun j=>(w.cell? ⟨g,j,none⟩).getD default) hi (fun j y _ hj=>by show (w.cell? ⟨g,j,none⟩).getD default=_;rw [hc j y hj];rfl) hy).1)
   ·refine (Any2.slices_Insert_string_grow Qph g 0 l.length cap i vb 0 1 1 (l.map Value.string) [.string x] w (by omega) (by decide) hnc (by omega) (by omega) (by rw [List.length_map]) rfl hcs hvs (Qqs l) h1v).mono ?_;rintro e w' ⟨rfl,rfl⟩;have hg:=grownCap_ge w (l.length+1) cap 9;have hm:=grownCap_le_maxLen w (l.length+1) cap 9 (by unfold maxLen;omega);refine ⟨_,rfl,?_,_root_.Go.below_setCells hB _ _ _ ((_root_.Go.below_setCells hB _ _ _ (((Qas w _).mono hB).trans (Qkz B _ 1))).trans (Qkz B _ 1))⟩
    have hr0:(w.alloc (.cells (((l.map Value.string).take i).toArray ++ Builtin.zeroCells (Value.string ⟨#[]⟩).cells (l.length+1-i) ++ Builtin.zeroCells (Value.string ⟨#[]⟩).cells (grownCap w (l.length+1) cap 9-(l.length+1))) 9)).rowIs w.heap.size 9 (grownCap w (l.length+1) cap 9) (fun j=>((((l.map Value.string).take i).toArray ++ Builtin.zeroCells (Value.string ⟨#[]⟩).cells (l.length+1-i) ++ Builtin.zeroCells (Value.string ⟨#[]⟩).cells (grownCap w (l.length+1) cap 9-(l.length+1)))[j]?).getD default):=by
     have hsz1:(((l.map Value.string).take i).toArray ++ Builtin.zeroCells (Value.string ⟨#[]⟩).cells (l.length+1-i) ++ Builtin.zeroCells (Value.string ⟨#[]⟩).cells (grownCap w (l.length+1) cap 9-(l.length+1))).size=grownCap w (l.length+1) cap 9:=by
      rw [Array.size_append,Array.size_append,size_zeroCells,size_zeroCells];simp [Value.cells]
      omega
     refine ⟨_,xH w _,hsz1,fun j hj=>?_⟩
     dsimp only
     rw [Array.getElem?_eq_getElem (by rw [hsz1];exact hj)];rfl
    obtain ⟨W0,hW0⟩:∃ W0,W0=w.alloc (.cells (((l.map Value.string).take i).toArray ++ Builtin.zeroCells (Value.string ⟨#[]⟩).cells (l.length+1-i) ++ Builtin.zeroCells (Value.string ⟨#[]⟩).cells (grownCap w (l.length+1) cap 9-(l.length+1))) 9):=⟨_,rfl⟩;rw [←hW0] at hr0;rw [show (insRen.t 9)=9 from rfl,←hW0];have hr:=rowIs_setCells ((l.map Value.string).drop i) (i+1) (W0.drew.setCells w.heap.size i [Value.string x]).drew _ (show (W0.drew.setCells w.heap.size i [Value.string x]).drew.rowIs w.heap.size 9 _ _ from rowIs_setCells [Value.string x] i W0.drew _ (show W0.drew.rowIs w.heap.size 9 _ _ from hr0));have hn:=fun h1 h2=>NRow.of_row (l:=l.take i ++ x :: l.drop i) hB h1 hm hr h2
    rw [hlen] at hn;refine hn hg (fun j y hy=>(Ze4 (f:=fun j=>((((l.map Value.string).take i).toArray ++ Builtin.zeroCells (Value.string ⟨#[]⟩).cells (l.length+1-i) ++ Builtin.zeroCells (Value.string ⟨#[]⟩).cells (grownCap w (l.length+1) cap 9-(l.length+1)))[j]?).getD default) hi (fun j y hji hj=>?_) hy).2)
    show ((((l.map Value.string).take i).toArray ++ Builtin.zeroCells (Value.string ⟨#[]⟩).cells (l.length+1-i) ++ Builtin.zeroCells (Value.string ⟨#[]⟩).cells (grownCap w (l.length+1) cap 9-(l.length+1)))[j]?).getD default=_
    have hjl:j<((l.map Value.string).take i).length:=by rw [List.length_take,List.length_map];omega
    rw [Array.getElem?_append_left (by rw [Array.size_append,List.size_toArray];omega),Array.getElem?_append_left (by rw [List.size_toArray];exact hjl),List.getElem?_toArray,List.getElem?_take_of_lt hji,List.getElem?_map,hj];rfl
end Go.Proofs.YtfjpemdejoejbaaGreat
