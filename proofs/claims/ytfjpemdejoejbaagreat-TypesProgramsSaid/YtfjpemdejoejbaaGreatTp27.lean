/- Part 27 -/
import Derived.Test.YtfjpemdejoejbaaGreatTp26
import Derived.Maps.OwnSet
import Derived.DeepKeys4
set_option maxRecDepth 100000
set_option maxHeartbeats 4000000
namespace Go.Proofs.YtfjpemdejoejbaaGreat
open Go.Proofs.Tryz Go.RowKit Go.Shelf
open Go.Maps (Keyed)
open Go.WideMaps (KeyLaw)
abbrev Pr:=Int × Int
theorem Qcs(w:World)(o:Obj):Below w.heap.size w (w.alloc o):=(xC w.heap.size w).alloc (xA _) o
def prC(a:Pr):List Value:=[.int .i64 a.1,.int .i64 a.2]
def Qeu(l:List Pr):List Value:=l.flatMap prC
theorem Qfz(a b:List Pr):Qeu (a ++ b)=Qeu a ++ Qeu b:=by unfold Qeu;rw[List.flatMap_append]
theorem Qj3:{l:List Pr}->{j:Nat}->{y:Pr}->l[j]? = some y->(Qeu l)[j*2]? = some (.int .i64 y.1)/\(Qeu l)[j*2+1]? = some (.int .i64 y.2)
 | [],_,_,h=>by simp at h
 | u :: r,0,y,h=>by
  injection h with h;subst h;exact⟨rfl,rfl⟩
 | u :: r,j+1,y,h=>by
  have ih:=Qj3 (l:=r) (j:=j) (y:=y) h
  have hs:∀ k,(Qeu (u :: r))[(j+1)*2+k]? = (Qeu r)[j*2+k]?:=fun k=>by
   unfold Qeu;rw[List.flatMap_cons,show(j+1)*2+k=j*2+k+2 from by omega,xX (by simp[prC])];simp[prC]
  exact⟨(hs 0).trans ih.1,(hs 1).trans ih.2⟩
theorem Zcq:(prog.info? 60).map (fun i=>(i.zero,i.size,i.bytes))=some (some (.agg #[.int .i64 0,.int .i64 0]),2,16):=by kernel_rfl
def prO(a:Pr):Obj:=.cells #[.int .i64 a.1,.int .i64 a.2] 60
def QRow(w:World)(B:Nat)(v:Value)(l:List Pr):Prop:=w.ownsRow B 60 2 v l.length (Qeu l)
theorem QRow.nil(w:World)(B:Nat):QRow w B (.slice none 0 0) []:=World.ownsRow_nil _ _ _ _
theorem QRow.keep{w w':World}{B:Nat}{v:Value}{l:List Pr}(h:QRow w B v l)(hb:Below w.heap.size w w'):QRow w' B v l:=(Keeps.of_below (P:=fun _=>none) hb).row h fun _ _=>.inl rfl
theorem QRow.at{w:World}{B c:Nat}{A:yE}{l:List Pr}(h:QRow w B (.slice A l.length c) l){j:Nat}{y:Pr}(hy:l[j]? = some y):∃ g,A=some ⟨g,0,none⟩/\B<=g/\g<w.heap.size/\w.cell? ⟨g,j*2,none⟩=some (.int .i64 y.1)/\w.cell? ⟨g,j*2+1,none⟩=some (.int .i64 y.2):=by
 have hj:=(xP.1 hy).1;obtain⟨g,cap,e,hg,hlt⟩:=World.ownsRow.form h (by omega);injection e with e _ _;subst e;have hc:=World.ownsRow.cells h (g:=g) rfl;obtain⟨q0,q1⟩:=Qj3 hy;have e0:=hc _ _ q0;have e1:=hc _ _ q1;rw[Addr.add_lit]at e0 e1;simp only[Nat.zero_add]at e0 e1;exact⟨g,rfl,hg,hlt,e0,e1⟩
theorem Zg4:prog.underlying 60=some (.struct (prog.fieldsOf 60)):=by kernel_rfl
theorem Zg5:prog.stoodInHeld 60=false:=by kernel_rfl
theorem Zg6:prog.eqGuardType prog.depth 60=false:=by kernel_rfl
theorem Zl2(x y:Value)(w:World):(part 3 #[x,y] 0).run prog w = .ok x w:=by
 simp[part,isAgg,run_underlying underlying3]
theorem Zl3(x y:Value)(w:World):(part 3 #[x,y] 1).run prog w = .ok y w:=by
 simp[part,isAgg,run_underlying underlying3]
theorem Zg7(a b c d:Int)(w:World):(Op.equalIn 10000 60 (.agg #[.int .i64 a,.int .i64 b]) (.agg #[.int .i64 c,.int .i64 d])).run prog w = .ok (a==c && b==d) w:=by
 rw[run_equalIn_agg w 9999 60 _ _ Zg4 Zg5];simp only[Program.fieldsOf,underlying60,Op.eqFields,Sem.run_bind,Sem.run_ite,Sem.run_pure];have n1:("module"≠"_")=True:=by simp
 have n2:("def"≠"_")=True:=by simp
 simp only[n1,n2,if_true,Zl2,Zl3,Result.andThen_ok,run_equalIn_int _ 9998 3 _ _ _ _ underlying3];cases h1:(a==c) <;> cases h2:(b==d) <;> simp
theorem Zl4(a b c d:Int)(w:World):(binOp .eql 60 (.agg #[.int .i64 a,.int .i64 b]) (.agg #[.int .i64 c,.int .i64 d])).run prog w = .ok (.bool (a==c && b==d)) w:=by
 rw[run_eql_struct,Zg7];rfl
def Zcr(l:List Pr)(a:Pr)(k:Nat):Prop:=∀ (j:Nat) (y:Pr),j<k->l[j]? = some y->y≠a
theorem Qo9{l:List Pr}{a y:Pr}{k:Nat}(h:Zcr l a k)(hy:l[k]? = some y)(hne:y≠a):Zcr l a (k+1):=fun j z hj hz=>by
 by_cases e:j=k
 ·subst e;rw[hy]at hz;injection hz with hz;rw[<-hz];exact hne
 ·exact h j z (by omega) hz
theorem Qsi{l:List Pr}{a:Pr}(h:Zcr l a l.length):a ∉ l:=fun hm=>by
 obtain⟨j,hj,e⟩:=List.getElem_of_mem hm;exact h j _ hj (xF hj) e
theorem Zcs{a b c d:Int}(h:(a,b)≠(c,d)):(c==a && d==b)=false:=by
 cases h1:(c==a)
 ·rfl
 ·cases h2:(d==b)
  ·rfl
  ·exact absurd (by rw[eq_of_beq h1,eq_of_beq h2]) h
theorem Zg8(B c:Nat)(A:yE)(l:List Pr)(x y:Int)(w:World)(h:QRow w B (.slice A l.length c) l)(hl:l.length<=1000000) :
  Calls prog 64 #[.slice A l.length c,.agg #[.int .i64 x,.int .i64 y]] w fun e w'=>∃ i:Int,e = .returned (.int .i64 i)/\(0<=i ↔ (x,y)∈l)/\Below w.heap.size w w':=by
 have HBA:=hQ (Qcs w (prO (x,y)));have HX:=xH w (prO (x,y));have HR:=hQ (h.keep HBA.out);clear h;go_enter func64,ntmps64;go_wp2
 go_loopw [8] (fun i wr=>∃ (k n:Nat),i = .int .i64 k/\k<=l.length/\Hid (Zcr l (x,y) k)/\wr=(w.alloc (prO (x,y))).drewN n) (fun i _=>l.length-(intOf i).toNat)
 case atStart=>exact⟨0,0,rfl,xZ _,hQ fun j z hj=>absurd hj (by omega),rfl⟩
 case round =>
  obtain⟨k,n,rfl,hk,hn,rfl⟩:=hrel;have HN:=hn;clear hn;have b0:(w.alloc (prO (x,y))).cell? ⟨w.heap.size,0,none⟩=some (.int .i64 x):=Qab HX 0 _ rfl;have b1:(w.alloc (prO (x,y))).cell? ⟨w.heap.size,1,none⟩=some (.int .i64 y):=Qab HX 1 _ rfl
  by_cases hlt:k<l.length
  ·obtain⟨z,hz⟩:∃ z,l[k]? = some z:=⟨_,xF hlt⟩;obtain⟨g,rfl,_,gl,c0,c1⟩:=HR.out.at hz;have HZ:=hQ hz;obtain⟨z1,z2⟩:=z;simp only at c0 c1;have hk0:(0:Int)<=(k:Int):=by omega
   have hk1:(k:Int)<(l.length:Int):=by omega
   have hk2:(k:Int)+1<=1000001:=by omega
   have hG:=fun(w:World) (p q:Operand)=>run_eqGuard_agg w .eql 60 p q #[.int .i64 x,.int .i64 y] #[.int .i64 z1,.int .i64 z2] Zg6
   have hE:=fun(w:World)=>Zl4 x y z1 z2 w
   clear hz HX
   by_cases he:(z1,z2)=(x,y)
   ·have HM:=hQ (show(x,y)∈l from he ▸ yA HZ.out);have hq:(x==z1 && y==z2)=true:=by injection he with e1 e2;subst e1 e2;simp
    clear he;go_wp2_with fail
    go_quiet (fail)
    go_wp2;go_ret;exact⟨k,rfl,⟨fun _=>HM.out,fun _=>by omega⟩,below_drewN (below_drewN HBA.out _) _⟩
   ·have HS:=hQ (Qo9 HN.out HZ.out he);have hq:=Zcs he;clear he;go_wp2_with fail
    go_quiet (fail)
    go_wp2;go_roundw
    case rel=>exact⟨k+1,_,by go_num,by omega,HS,rfl⟩
    case measure=>simp[intOf];omega
  ·obtain rfl:k=l.length:=by omega
   have HM:=hQ (Qsi HN.out);clear HX;go_wp2;go_ret;exact⟨-1,rfl,⟨fun h=>absurd h (by decide),fun h=>absurd h HM.out⟩,below_drewN HBA.out _⟩
theorem Qfv(B c:Nat)(A:yE)(l:List Pr)(x y:Int)(w:World)(h:QRow w B (.slice A l.length c) l)(hl:l.length<=1000000) :
  Calls prog 37 #[.slice A l.length c,.agg #[.int .i64 x,.int .i64 y]] w fun e w'=>e = .returned (.bool (decide ((x,y)∈l)))/\Below w.heap.size w w':=by
 have HBA:=hQ (Qcs w (prO (x,y)));have HC:=hQ (Zg8 B c A l x y (w.alloc (prO (x,y))) (h.keep HBA.out) hl);have HX:=xH w (prO (x,y));have b0:(w.alloc (prO (x,y))).cell? ⟨w.heap.size,0,none⟩=some (.int .i64 x):=Qab HX 0 _ rfl;have b1:(w.alloc (prO (x,y))).cell? ⟨w.heap.size,1,none⟩=some (.int .i64 y):=Qab HX 1 _ rfl;clear h HX;go_enter func37,ntmps37;go_wp2_with (go_at_call 64;refine HC.out.mono ?_;rintro e w1⟨i,rfl,hi,hb⟩;have HI:=hQ hi;have HB1:=hQ (yC HBA.out hb);clear hi hb)
 go_ret;exact⟨Qaj (decide_eq_decide.2 HI.out),HB1.out⟩
def prR:Value->Option (DataW Unit × List MemPlace)
 | .agg cs=>match cs.toList with
  | [.int .i64 a,.int .i64 b]=>some (.agg [.lit (.int .i64 a),.lit (.int .i64 b)],[])
  | _=>none
 | _=>none
def prD(a b:Int):DataW Unit:=.agg [.lit (.int .i64 a),.lit (.int .i64 b)]
theorem Zid(a b:Int):prR (.agg #[.int .i64 a,.int .i64 b])=some (prD a b,[]):=rfl
theorem Zct{v:Value}{a b:Int}{ps:List MemPlace}(h:prR v=some (prD a b,ps)):v = .agg #[.int .i64 a,.int .i64 b]:=by
 unfold prR at h
 split at h
 ·rename_i cs
  split at h
  ·rename_i x y hc;injection h with h;injection h with h _;unfold prD at h;simp at h
   obtain⟨rfl,rfl⟩:=h;obtain⟨l⟩:=cs;simp at hc
   rw[hc]
  ·cases h
 ·cases h
def Zfa(a b:Int):Lit:=.string (keyBytes [.int .i64 a,.int .i64 b])
theorem Zkf:laidOutB prog=true:=by kernel_rfl
theorem Zie:(60:TypeId)<prog.types.size:=of_decide_eq_true (by kernel_rfl)
theorem Zkg:(match prog.underlying 60 with | some (.array _ _) | some (.struct _)=>true | _=>false)=true:=by kernel_rfl
theorem prLaw:Keyed prog 60:=Keyed.of_law (deep_law_laid Zkf (m:=2) (by omega) Zie (by kernel_rfl) Zkg)
theorem Zkh(w:World):(zeroValue 60).run prog w = .ok (.agg #[.int .i64 0,.int .i64 0]) w:=by kernel_rfl
abbrev W64(a:Int):Prop:=(Lit.int .i64 a).wf=true
theorem Qkz{a b:Int}(wa:W64 a)(wb:W64 b):keyOf prog 60 (.agg #[.int .i64 a,.int .i64 b])=some (Zfa a b):=by
 have hc:prog.cellsOf 60=2:=by kernel_rfl
 have hi:prog.cellsOf 3=1:=by kernel_rfl
 have hkt:prog.keyType 60=true:=by kernel_rfl
 obtain⟨m,hm⟩:∃ m,prog.types.size=m+1:=Nat.exists_eq_succ_of_ne_zero (Nat.ne_of_gt (Nat.lt_of_le_of_lt (xZ _) Zie));unfold keyOf;simp only[underlying60];rw[xO (by simp[hkt,Value.formed,underlying60,hc]),hm];unfold Program.keyLits;simp only[underlying60,Value.cells];rw[xO ⟨by rw[hc];rfl,by simp⟩];simp[hi,Program.keyLits,underlying3,wa,wb,Zfa]
theorem Zg9{a b c d:Int}(wa:W64 a)(wb:W64 b)(wc:W64 c)(wd:W64 d)(h:Zfa a b=Zfa c d):a=c/\b=d:=by
 have:=prLaw.inj (Qkz wa wb) (h ▸ Qkz wc wd)
 simp at this
 exact this
theorem Qv6{a b:Int}(wa:W64 a)(wb:W64 b):WideAt.IsKeyLit (Zfa a b):=prLaw.key (Qkz wa wb)
def AMap(w:World)(b n:Nat)(f:Pr->Option Pr):Prop:=∃ D:DataW Unit,w.ownsMap prog 60 prR b n D/\∀ i j:Int,W64 i->W64 j->Maps.has D (Zfa i j)=(f (i,j)).isSome/\∀ r:Pr,f (i,j)=some r->D.atKey (Zfa i j) (prD 0 0)=prD r.1 r.2
def Qv7(f:Pr->Option Pr)(k r:Pr):Pr->Option Pr:=fun x=>if x=k then some r else f x
theorem AMap.made(w:World):AMap (w.alloc (.map #[] 0)) w.heap.size 0 fun _=>none:=⟨.map [],World.ownsMap_made _ _ _ _,fun _ _ _ _=>⟨rfl,fun r h=>by cases h⟩⟩
theorem AMap.mono{w:World}{b n m:Nat}{f:Pr->Option Pr}(h:AMap w b n f)(hn:n<=m):AMap w b m f:=by
 obtain⟨D,h1,h2⟩:=h;exact⟨D,h1.mono hn,h2⟩
theorem AMap.lt{w:World}{b n:Nat}{f:Pr->Option Pr}(h:AMap w b n f):b<w.heap.size:=by
 obtain⟨D,h1,_⟩:=h;exact h1.lt
theorem AMap.keep{w w':World}{b n:Nat}{f:Pr->Option Pr}(h:AMap w b n f)(hb:w'.heap[b]? = w.heap[b]?):AMap w' b n f:=by
 obtain⟨D,⟨es,ck,q1,q2⟩,h2⟩:=h;exact⟨D,⟨es,ck,hb.trans q1,q2⟩,h2⟩
theorem AMap.below{w w':World}{b n:Nat}{f:Pr->Option Pr}(h:AMap w b n f)(hb:Below w.heap.size w w'):AMap w' b n f:=h.keep (hb.block b h.lt)
theorem Quo{w:World}{o:Oper}{a:Act}{K:Act->World->Prop}{Q:Exit->Act->World->Prop}(m x v:Operand)(hop:o.op=Op.mapUpdate 61 m x v)(b n:Nat)(f:Pr->Option Pr)(hm:a.eval m = .map (some b))(h:AMap w b n f)(hn:n<maxLen)
  (i j c d:Int) (hx:a.eval x = .agg #[.int .i64 i,.int .i64 j]) (hv:a.eval v = .agg #[.int .i64 c,.int .i64 d]) (wi:W64 i) (wj:W64 j)
  (hK:∀ w',AMap w' b (n+1) (Qv7 f (i,j) (c,d))->w.grownBy w' (some b)->K (a.put o.dst undef) w'):o.wp prog a w K Q:=by
 obtain⟨D,hown,hf⟩:=h;obtain⟨w',hrun,r1,r2⟩:=hown.update prLaw underlying61 hn (Qkz wi wj) (Zid c d);unfold Oper.wp;simp[execOp,hop,hm,hx,hv,hrun,Result.andThen]
 refine hK w' ⟨_,r1,fun p q wp wq=>?_⟩ r2
 by_cases e:(p,q)=(i,j)
 ·injection e with e1 e2;subst e1 e2;refine⟨by rw[Maps.has_put_same hown.isMap (Qv6 wi wj)];unfold Qv7;rw[xO rfl];rfl,fun r hr=>?_⟩;unfold Qv7 at hr;rw[xO rfl]at hr;injection hr with hr;subst hr;exact Maps.atKey_put_same hown.isMap (Qv6 wi wj) _ _
 ·have hne:Zfa p q≠Zfa i j:=fun h=>e (by obtain⟨e1,e2⟩:=Zg9 wp wq wi wj h;rw[e1,e2])
  have hu:Qv7 f (i,j) (c,d) (p,q)=f (p,q):=by unfold Qv7;rw[xN e]
  rw[hu,Maps.has_put_other hne,Maps.atKey_put_other hne];exact hf p q wp wq
theorem Qny{w:World}{ops:Array Oper}{rest:List Oper}{o:Oper}{a:Act}{Q:Exit->Act->World->Prop}(hg:o.guard=none)(m x v:Operand)(hop:o.op=Op.mapUpdate 61 m x v)(b n:Nat)(f:Pr->Option Pr)(hm:a.eval m = .map (some b))(h:AMap w b n f)(hn:n<maxLen)
  (i j c d:Int) (hx:a.eval x = .agg #[.int .i64 i,.int .i64 j]) (hv:a.eval v = .agg #[.int .i64 c,.int .i64 d]) (wi:W64 i) (wj:W64 j)
  (hK:∀ w',AMap w' b (n+1) (Qv7 f (i,j) (c,d))->w.grownBy w' (some b)->wpList prog ops Q rest (a.put o.dst undef) w'):wpList prog ops Q (o :: rest) a w :=
 wpList_plain hg fun _ hKK=>Quo m x v hop b n f hm h hn i j c d hx hv wi wj fun w' q1 q2=>hKK _ _ (hK w' q1 q2)
def Qls(f:Pr->Option Pr)(a:Pr):Pr:=(f a).getD (0,0)
theorem Qgg{w:World}{ops:Array Oper}{rest:List Oper}{o:Oper}{a:Act}{Q:Exit->Act->World->Prop}(hg:o.guard=none)(m x:Operand)(hop:o.op=Op.lookup 61 m x true)(b n:Nat)(f:Pr->Option Pr)(hm:a.eval m = .map (some b))(h:AMap w b n f)
  (i j:Int) (hx:a.eval x = .agg #[.int .i64 i,.int .i64 j]) (wi:W64 i) (wj:W64 j)
  (hK:wpList prog ops Q rest (a.put o.dst (.tuple #[.agg #[.int .i64 (Qls f (i,j)).1,.int .i64 (Qls f (i,j)).2],.bool (f (i,j)).isSome])) w):wpList prog ops Q (o :: rest) a w:=by
 obtain⟨D,hown,hf⟩:=h;obtain⟨f1,f2⟩:=hf i j wi wj;refine wpList_lookup_own_ok w hg m x _ hop 60 60 prLaw underlying61 prR (Zkh w) (prD 0 0) [] (Zid 0 0) b n D hm hown _ (Zfa i j) hx (Qkz wi wj) fun v ps hv=>?_
 rw[f1]
 have e:v = .agg #[.int .i64 (Qls f (i,j)).1,.int .i64 (Qls f (i,j)).2]:=by
  cases hr:f (i,j) with
  | none =>
   rw[hr]at f1;rw[Maps.atKey_of_not_has (by rw[f1];rfl)]at hv;rw[Zct hv];unfold Qls;rw[hr];rfl
  | some r =>
   rw[f2 r hr]at hv;rw[Zct hv];unfold Qls;rw[hr];rfl
 rw[e];exact hK
end Go.Proofs.YtfjpemdejoejbaaGreat
namespace Go.Proofs.YtfjpemdejoejbaaGreat
open Go.Proofs.Tryz Go.RowKit
def Qij(ps:List Tr):List Tr->Nat->List Tgm
 | [],_=>[]
 | t :: r,i=>Qwc ps i t [] ++ Qij ps r (i+1)
theorem Qpb(ps:List Tr)(t:Tr):(l:List Tr)->(i:Nat)->Qij ps (l ++ [t]) i=Qij ps l i ++ Qwc ps (i+l.length) t []
 | [],i=>by simp[Qij]
 | a :: r,i=>by
  have h:=Qpb ps t r (i+1);rw[xV,Qij,h,Qij,xT,show i+1+r.length=i+(a :: r).length from by simp;omega]
theorem Qyu{ps l:List Tr}{k:Nat}{t:Tr}(h:l[k]? = some t):Qij ps (l.take (k+1)) 0=Qij ps (l.take k) 0 ++ Qwc ps k t []:=by
 have hk:k<l.length:=(xP.1 h).1;rw[List.take_add_one,h,Option.toList_some,Qpb,List.length_take,Nat.min_eq_left (Nat.le_of_lt hk),Nat.zero_add]
theorem Zhe(ps:List Tr)(m:Nat)(t:Tr)(p:List Int):(Qwc ps m t p).length<=Qai t:=by unfold Qwc;rw[List.length_map];exact Qv9 ps m t p
theorem Qn1(ps:List Tr):(l:List Tr)->(i:Nat)->(Qij ps l i).length<=Qal l
 | [],_=>by rw[Qij,Qal];simp
 | t :: r,i=>by
  rw[Qij,xB,Qal];have h1:=Zhe ps i t [];have h2:=Qn1 ps r (i+1);omega
def Qjk(ps:List Tr):List Tgm:=if Qc1 ps=true then Qij ps ps 0 else []
theorem Zc2(ps:List Tr):(Qjk ps).length<=Qal ps:=by
 unfold Qjk
 split
 ·exact Qn1 ps ps 0
 ·simp
end Go.Proofs.YtfjpemdejoejbaaGreat
namespace Go.Proofs.YtfjpemdejoejbaaGreat
open Go.Proofs.Tryz Go.RowKit Go.Shelf
theorem Qqw(f:Tr->Tr)(hf:∀ t,(f t).text=t.text):(l:List Tr)->(x:yD)->Qqj (l.map f) x=Qqj l x
 | [],_=>rfl
 | t :: r,x=>by rw[List.map_cons,Qqj,Qqj,hf,Qqw f hf r x]
theorem Zc3(t:Tr):(Qif t).text=t.text:=rfl
theorem Zc4(t:Tr):(Qq7 t).text=t.text:=rfl
theorem Qiz(t:Tr):(Qq7 t).kids=t.kids.map Qif:=rfl
theorem Qpc(ps:List Tr)(i:Nat)(x:yD):Qfa (Qig ps) i x=Qfa ps i x:=by
 unfold Qfa;rw[Qqr];cases ps[i]? with
 | none=>rfl
 | some t=>rw[Option.map_some,Option.getD_some,Option.getD_some,Qiz,Qqw Qif Zc3,List.length_map]
theorem Qso(ps:List Tr)(m:Nat)(s:yD):Qbb (Qig ps) m s=Qbb ps m s:=by
 unfold Qbb;rw[Qpc,Qpc];unfold Qig;rw[Qqw Qq7 Zc4,List.length_map]
def Qqx(k:Tr):Prop:=(k.kind=2\/k.kind=3)/\Qa2 k=true/\Qai k<=1000
theorem Qwf{ps:List Tr}(hz:∀ t∈ps,Qai t<=1000)(hg:Qc1 ps=true){m d:Nat}{t k:Tr}(ht:ps[m]? = some t)(hk:t.kids[d]? = some k):Qqx k:=by
 obtain⟨q1,q2⟩:=Qgo hg ht;have hzt:=hz t (yA ht);rw[<-Qce _ t (xA _) hzt]at q2;obtain⟨r1,r2⟩:=(Qf5 q2).2.2 d k hk;refine⟨?_,r2,by have:=Qbi hk;omega⟩;rw[q1]at r1;have e:Qg0 1 t.kids.length d k.kind=(k.kind==2 || k.kind==3):=rfl;rw[e]at r1
 simpa using r1
def Qd4(k:Tr):Tr:=Qbd ((k.kids[0]?).getD noTr)
theorem Qqy{k:Tr}(h:Qqx k)(h3:k.kind=3):∃ a,k.kids = [a]/\Qd4 k=Qbd a/\((Qbd a).kind=5\/(Qbd a).kind=6\/(Qbd a).kind=7\/(Qbd a).kind=9)/\(Qbd a).kids = []/\((Qbd a).kind≠9->(Qbd a).text=⟨#[]⟩)/\Qa2 (Qbd a)=true/\Qa2 a=true/\(5<=a.kind/\a.kind<=9):=by
 obtain⟨a,h1,h2,h4⟩:=Qnu h.2.1 h3;obtain⟨c1,c2,c3,c4⟩:=Qhu _ a (xA _) h4 h2;exact⟨a,h1,by unfold Qd4;rw[h1];rfl,c1,c2,c3,c4,h4,h2⟩
def Zkm(ps:List Tr)(m:Nat)(k:Tr)(p:List Int):List Tgt:=if k.kind=3/\(Qd4 k).kind=9 then [(p ++ [0],(Qbb ps m (Qd4 k).text).1,(Qbb ps m (Qd4 k).text).2.1,!(Qbb ps m (Qd4 k).text).2.2)] else []
theorem Qn2(q:List Tr)(m:Nat)(t:Tr)(p:List Int)(h:t.kids = []):Zfb q m t p=Zcu q m t p:=by rw[Qn0,h,Qnz,List.append_nil]
theorem Qn3{q:List Tr}{m:Nat}{t:Tr}{p:List Int}(h:¬ (t.kind=16\/t.kind=9)):Zcu q m t p = []:=by unfold Zcu;rw[xN h]
theorem Zc5(ps:List Tr)(m:Nat)(k:Tr)(p:List Int)(h:Qqx k):Zfb (Qig ps) m (Qif k) p=Zkm ps m k p:=by
 have e0:(Qif k).kind=k.kind:=rfl;rw[Qn0,Qn3 (by rw[e0];have:=h.1;omega),xU];unfold Zkm
 by_cases h3:k.kind=3
 ·obtain⟨a,h1,h2,c1,c2,_⟩:=Qqy h h3;have e1:(Qif k).kids = [Qd4 k]:=by unfold Qif Qd4;rw[xO h3];rfl
  rw[e1,Qnz,Qnz,List.append_nil,Qn2 _ _ _ _ (by rw[h2];exact c2)];unfold Zcu
  by_cases h9:(Qd4 k).kind=9
  ·rw[xO (.inr h9),xO ⟨h3,h9⟩,Qso];rfl
  ·rw[xN (by rw[h2]at h9 |-;omega),xN (fun h=>h9 h.2)]
 ·have e1:(Qif k).kids = [Qem 5,Qem 15]:=by unfold Qif;rw[xN h3];rfl
  rw[e1,Qnz,Qnz,Qnz,Qn2 _ _ _ _ rfl,Qn2 _ _ _ _ rfl,Qn3 (by decide),Qn3 (by decide),xN (fun h=>h3 h.1)];rfl
theorem Qi0(ps:List Tr)(m:Nat)(z:Tgt):(l:List Tr)->(n:Nat)->(∀ k∈l,Qqx k)->(z∈Qnz (Qig ps) m (l.map Qif) n [] ↔ ∃ (d:Nat) (k:Tr),l[d]? = some k/\z∈Zkm ps m k [((n+d:Nat):Int)])
 | [],n,_=>by rw[List.map_nil,Qnz];simp
 | a :: r,n,h=>by
  rw[List.map_cons,Qnz,List.mem_append,xU,Zc5 ps m a _ (h a (by simp)),Qi0 ps m z r (n+1) fun k hk=>h k (by simp[hk])]
  constructor
  ·rintro(h1|⟨d,k,h1,h2⟩)
   ·exact⟨0,a,rfl,h1⟩
   ·exact⟨d+1,k,by simpa using h1,by rw[show n+(d+1)=n+1+d from by omega];exact h2⟩
  ·rintro⟨d,k,h1,h2⟩
   match d,h1,h2 with
   | 0,h1,h2 =>
    injection h1 with h1;subst h1;exact .inl h2
   | d+1,h1,h2=>exact .inr ⟨d,k,by simpa using h1,by rw[show n+1+d=n+(d+1) from by omega];exact h2⟩
theorem Qk3(q:List Tr)(z:Tgm):(l:List Tr)->(i:Nat)->(z∈Qij q l i ↔ ∃ (m:Nat) (t:Tr),l[m]? = some t/\z∈Qwc q (i+m) t [])
 | [],i=>by rw[Qij];simp
 | a :: r,i=>by
  rw[Qij,List.mem_append,Qk3 q z r (i+1)]
  constructor
  ·rintro(h1|⟨m,t,h1,h2⟩)
   ·exact⟨0,a,rfl,h1⟩
   ·exact⟨m+1,t,by simpa using h1,by rw[show i+(m+1)=i+1+m from by omega];exact h2⟩
  ·rintro⟨m,t,h1,h2⟩
   match m,h1,h2 with
   | 0,h1,h2 =>
    injection h1 with h1;subst h1;exact .inl h2
   | m+1,h1,h2=>exact .inr ⟨m,t,by simpa using h1,by rw[show i+1+m=i+(m+1) from by omega];exact h2⟩
theorem Qwg{ps:List Tr}(hz:∀ t∈ps,Qai t<=1000)(hg:Qc1 ps=true)(hq:Qc1 (Qig ps)=true)(z:Tgm):z∈Qjk (Qig ps) ↔ ∃ (m d:Nat) (t k:Tr),ps[m]? = some t/\t.kids[d]? = some k/\z.1=(m:Int)/\z.2∈Zkm ps m k [(d:Int)]:=by
 unfold Qjk;rw[xO hq,Qk3]
 constructor
 ·rintro⟨m,t',h1,h2⟩;rw[Qqr]at h1;obtain⟨t,ht,rfl⟩:=Option.map_eq_some_iff.1 h1;rw[Nat.zero_add]at h2;unfold Qwc at h2;obtain⟨x,hx,rfl⟩:=List.mem_map.1 h2;have e0:(Qq7 t).kind=t.kind:=rfl;rw[Qn0,Qn3 (by rw[e0,(Qgo hg ht).1];decide),xU,Qiz,Qi0 ps m x t.kids 0 (fun k hk=>by obtain⟨d,hd,he⟩:=List.getElem_of_mem hk;exact Qwf hz hg ht (d:=d) (by rw[xF hd,he]))]at hx;obtain⟨d,k,q1,q2⟩:=hx;rw[Nat.zero_add]at q2;exact⟨m,d,t,k,ht,q1,rfl,q2⟩
 ·rintro⟨m,d,t,k,ht,hk,h1,h2⟩;refine⟨m,Qq7 t,by rw[Qqr,ht];rfl,?_⟩;rw[Nat.zero_add];unfold Qwc;refine List.mem_map.2 ⟨z.2,?_,by rw[<-h1]⟩;have e0:(Qq7 t).kind=t.kind:=rfl;rw[Qn0,Qn3 (by rw[e0,(Qgo hg ht).1];decide),xU,Qiz,Qi0 ps m z.2 t.kids 0 (fun k hk=>by obtain⟨d,hd,he⟩:=List.getElem_of_mem hk;exact Qwf hz hg ht (d:=d) (by rw[xF hd,he]))];exact⟨d,k,hk,by rw[Nat.zero_add];exact h2⟩
def Zfc(z:Tgm):Pr:=(z.1,z.2.1.headD 0)
def Qjc(f:Pr->Option Pr)(zs:List Tgm):Pr->Option Pr:=zs.foldl (fun f z=>if z.2.2.2.2=true then f else Qv7 f (Zfc z) (z.2.2.1,z.2.2.2.1)) f
def Qlv(zs:List Tgm):Pr->Option Pr:=Qjc (fun _=>none) zs
theorem Qpd{zs:List Tgm}{j:Nat}{z:Tgm}(h:zs[j]? = some z):Qlv (zs.take (j+1))=if z.2.2.2.2=true then Qlv (zs.take j) else Qv7 (Qlv (zs.take j)) (Zfc z) (z.2.2.1,z.2.2.2.1):=by
 unfold Qlv Qjc;rw[List.take_add_one,h,Option.toList_some,List.foldl_append];rfl
theorem Qsp(a:Pr):(zs:List Tgm)->(f:Pr->Option Pr)->f a=none->(∀ z∈zs,z.2.2.2.2=false->Zfc z≠a)->Qjc f zs a=none
 | [],f,hf,_=>hf
 | z :: r,f,hf,h=>by
  show Qjc (if z.2.2.2.2=true then f else Qv7 f (Zfc z) (z.2.2.1,z.2.2.2.1)) r a=none
  refine Qsp a r _ ?_ fun y hy=>h y (by simp[hy])
  split
  ·exact hf
  ·rename_i hz;unfold Qv7;rw[xN (fun e=>h z (by simp) (by simpa using hz) e.symm)];exact hf
theorem Qsq(a v:Pr):(zs:List Tgm)->(f:Pr->Option Pr)->(∀ z∈zs,z.2.2.2.2=false->Zfc z=a->(z.2.2.1,z.2.2.2.1)=v)->(f a=some v\/∃ z∈zs,z.2.2.2.2=false/\Zfc z=a)->Qjc f zs a=some v
 | [],f,_,h=>by
  rcases h with h|⟨z,hz,_⟩
  ·exact h
  ·simp at hz
 | z :: r,f,hu,h=>by
  show Qjc (if z.2.2.2.2=true then f else Qv7 f (Zfc z) (z.2.2.1,z.2.2.2.1)) r a=some v
  refine Qsq a v r _ (fun y hy=>hu y (by simp[hy])) ?_
  by_cases hz:z.2.2.2.2=true
  ·rw[xO hz]
   rcases h with h|⟨y,hy,h1,h2⟩
   ·exact .inl h
   ·rcases List.mem_cons.1 hy with rfl | hy
    ·rw[hz]at h1;cases h1
    ·exact .inr ⟨y,hy,h1,h2⟩
  ·rw[xN hz];have hz':z.2.2.2.2=false:=by simpa using hz
   by_cases hk:Zfc z=a
   ·refine .inl ?_;unfold Qv7;rw[xO hk.symm,hu z (by simp) hz' hk]
   ·rcases h with h|⟨y,hy,h1,h2⟩
    ·refine .inl ?_;unfold Qv7;rw[xN (fun e=>hk e.symm)];exact h
    ·rcases List.mem_cons.1 hy with rfl | hy
     ·exact absurd h2 hk
     ·exact .inr ⟨y,hy,h1,h2⟩
def Qec(ps:List Tr)(a:Pr):Option Pr :=
 if 0<=a.1/\0<=a.2/\(Qjj ps a.1.toNat a.2.toNat).kind=3/\(Qd4 (Qjj ps a.1.toNat a.2.toNat)).kind=9/\(Qbb ps a.1.toNat (Qd4 (Qjj ps a.1.toNat a.2.toNat)).text).2.2=true
 then some ((Qbb ps a.1.toNat (Qd4 (Qjj ps a.1.toNat a.2.toNat)).text).1,(Qbb ps a.1.toNat (Qd4 (Qjj ps a.1.toNat a.2.toNat)).text).2.1) else none
theorem Qk4{ps:List Tr}{m d:Nat}{t k:Tr}(ht:ps[m]? = some t)(hk:t.kids[d]? = some k):Qjj ps m d=k:=by unfold Qjj;rw[ht,Option.getD_some,hk,Option.getD_some]
theorem Zc6{ps:List Tr}{m d:Nat}(h:(Qjj ps m d).kind=3):∃ t k,ps[m]? = some t/\t.kids[d]? = some k/\Qjj ps m d=k:=by
 unfold Qjj at h |-;cases ht:ps[m]? with
 | none=>rw[ht]at h;exact absurd h (by simp[noTr,Tr.kids,Tr.kind])
 | some t =>
  rw[ht,Option.getD_some]at h;rw[Option.getD_some];cases hk:t.kids[d]? with
  | none=>rw[hk]at h;exact absurd h (by simp[noTr,Tr.kind])
  | some k=>exact⟨t,k,rfl,hk,rfl⟩
theorem Qwh{ps:List Tr}(hz:∀ t∈ps,Qai t<=1000)(hg:Qc1 ps=true)(hq:Qc1 (Qig ps)=true):Qlv (Qjk (Qig ps))=Qec ps:=by
 funext a
 have hm:=Qwg hz hg hq
 have hz2:∀ z∈Qjk (Qig ps),∃ (m d:Nat) (t k:Tr),ps[m]? = some t/\t.kids[d]? = some k/\k.kind=3/\(Qd4 k).kind=9/\Zfc z=((m:Int),(d:Int))/\z.2.2=((Qbb ps m (Qd4 k).text).1,(Qbb ps m (Qd4 k).text).2.1,!(Qbb ps m (Qd4 k).text).2.2):=fun z h=>by
  obtain⟨m,d,t,k,ht,hk,h1,h2⟩:=(hm z).1 h;unfold Zkm at h2
  split at h2
  ·rename_i hh;rw[List.mem_singleton]at h2;refine⟨m,d,t,k,ht,hk,hh.1,hh.2,?_,by rw[h2]⟩;unfold Zfc;rw[h1,h2];rfl
  ·simp at h2
 unfold Qec
 split
 ·rename_i hc;obtain⟨c1,c2,c3,c4,c5⟩:=hc;obtain⟨t,k,ht,hk,hd⟩:=Zc6 c3;rw[hd]at c3 c4 c5 |-
  have ea:a=(((a.1.toNat:Nat):Int),((a.2.toNat:Nat):Int)):=by
   obtain⟨x,y⟩:=a;simp only at c1 c2 |-;rw[Int.toNat_of_nonneg c1,Int.toNat_of_nonneg c2]
  refine Qsq a _ _ _ (fun z hzz hf hke=>?_) (.inr ?_)
  ·obtain⟨m',d',t',k',ht',hk',_,_,q1,q2⟩:=hz2 z hzz;rw[q1]at hke;rw[ea]at hke;injection hke with e1 e2;have e1:m'=a.1.toNat:=by omega
   have e2:d'=a.2.toNat:=by omega
   subst e1 e2;rw[ht]at ht';injection ht' with ht';subst ht';rw[hk]at hk';injection hk' with hk';subst hk';rw[q2]
  ·refine⟨(((a.1.toNat:Nat):Int),[((a.2.toNat:Nat):Int)] ++ [0],(Qbb ps a.1.toNat (Qd4 k).text).1,(Qbb ps a.1.toNat (Qd4 k).text).2.1,!(Qbb ps a.1.toNat (Qd4 k).text).2.2),(hm _).2 ⟨a.1.toNat,a.2.toNat,t,k,ht,hk,rfl,?_⟩,?_,?_⟩
   ·unfold Zkm;rw[xO ⟨c3,c4⟩];exact List.mem_singleton.2 rfl
   ·show(!(Qbb ps a.1.toNat (Qd4 k).text).2.2)=false
    rw[c5];rfl
   ·rw[ea];rfl
 ·rename_i hc;refine Qsp a _ _ rfl fun z hzz hf hke=>hc ?_
  obtain⟨m,d,t,k,ht,hk,q3,q9,q1,q2⟩:=hz2 z hzz;rw[q1]at hke;subst hke;simp only[Int.toNat_natCast];rw[Qk4 ht hk];refine⟨by omega,by omega,q3,q9,?_⟩;rw[q2]at hf
  simpa using hf
theorem Zc7{ps:List Tr}{m d:Nat}(h3:(Qjj ps m d).kind=3)(h9:(Qd4 (Qjj ps m d)).kind=9):((Qls (Qec ps) ((m:Int),(d:Int))).1,(Qls (Qec ps) ((m:Int),(d:Int))).2,(Qec ps ((m:Int),(d:Int))).isSome)=Qbb ps m (Qd4 (Qjj ps m d)).text:=by
 unfold Qls Qec;simp only[Int.toNat_natCast];cases hf:(Qbb ps m (Qd4 (Qjj ps m d)).text).2.2 with
 | true =>
  rw[xO ⟨by omega,by omega,h3,h9,rfl⟩,Option.getD_some,Option.isSome_some];rw[<-hf]
 | false =>
  rw[xN (fun h=>by cases h.2.2.2.2),Option.getD_none,Option.isSome_none,Zcl hf]
end Go.Proofs.YtfjpemdejoejbaaGreat
namespace Go.Proofs.YtfjpemdejoejbaaGreat
open Go.Proofs.Tryz Go.RowKit
theorem Qwi:(i:Nat)->(l:List UInt8)->(Qc4 i l).kind=6\/(Qc4 i l).kind=0
 | _,[]=>.inr rfl
 | i,c :: r=>by
  rw[Qc4]
  split
  ·exact .inl rfl
  ·split
   ·exact .inr rfl
   ·split
    ·exact Qwi (i+1) r
    ·exact .inr rfl
theorem Qpf{l:List UInt8}(h1:1<=Qap l)(h4:Qap l<=4):(Qdp l).kind=Qap l/\(Qdp l).n=l.length:=by
 by_cases h0:l = []
 ·unfold Qap at h1;rw[xO h0]at h1;omega
 ·by_cases hb:(Qbl l).e≠0\/(Qbl l).n≠l.length
  ·unfold Qap at h1;rw[xN h0,xO hb]at h1;omega
  ·have hk:Qap l=(Qbl l).kind:=by unfold Qap;rw[xN h0,xN hb]
   have hn:(Qbl l).n=l.length:=by omega
   rw[hk]at h1 h4 |-
   have hw:Qbl l=Qdp l:=by
    unfold Qbl at h1 h4 |-
    by_cases a1:Qas (at' l 0)=false
    ·rw[xO a1]at h1;exact absurd h1 (by decide)
    ·rw[xN a1]at h1 h4 |-
     by_cases a2:Qax (at' l 0)=true
     ·rw[xO a2]
     ·exfalso
      rw[xN a2]at h1 h4
      by_cases a3:Qb8 (at' l 0)=true
      ·rw[xO a3]at h1 h4;unfold Qjm at h1 h4
       split at h1
       ·exact absurd h1 (by decide)
       ·rename_i b1;rw[xN b1]at h4
        split at h1
        ·exact absurd h1 (by decide)
        ·rename_i b2;rw[xN b2]at h4;exact absurd h4 (by show ¬ 5<=4;decide)
      ·rw[xN a3]at h1 h4
       by_cases a4:at' l 0=34
       ·rw[xO a4]at h1 h4;have:=Qwi 1 (l.drop 1)
        omega
       ·rw[xN a4]at h1 h4;unfold Qee at h1 h4
        split at h1
        ·exact absurd h1 (by decide)
        ·rename_i b1;rw[xN b1]at h4;exact absurd h4 (by show ¬ 8<=4;decide)
   rw[<-hw];exact⟨rfl,hn⟩
theorem Zkn{c:UInt8}(h:c.toNat=46):c=46:=UInt8.toNat_inj.1 h
theorem Zdd{c:UInt8}(h:Qhh c.toNat=true):c≠46:=fun e=>by
 subst e;exact absurd h (by decide)
theorem Zde:(l:List UInt8)->at' l (Qac l)=46->Qq6 l=Qac l
 | [],h=>by exact absurd h (by decide)
 | c :: r,h=>by
  unfold Qac Qd2 at h |-
  by_cases hw:Qhh c.toNat=true
  ·rw[xO hw]at h |-;rw[Qq6,xN (Zdd hw),Zde r h];rfl
  ·rw[xN hw]at h |-;rw[Qq6,xO (Zkn (show c.toNat=46 from h))]
theorem Qwj:(l:List UInt8)->Qac l=l.length->Qq6 l=l.length
 | [],_=>rfl
 | c :: r,h=>by
  unfold Qac Qd2 at h
  by_cases hw:Qhh c.toNat=true
  ·rw[xO hw]at h;rw[Qq6,xN (Zdd hw),Qwj r (by unfold Qac;simpa using h),xD]
  ·rw[xN hw]at h;simp at h
theorem Zdf{l:List UInt8}(h1:1<=Qap l)(h4:Qap l<=4)(hd:Qq6 l<l.length):(Qap l=4/\Qbx (at' l (Qq6 l+1))=true)\/(Qap l=3/\Qbx (at' l (Qq6 l+1))=false):=by
 obtain⟨hk,hn⟩:=Qpf h1 h4;rw[<-hk]at h1 h4 |-;unfold Qdp at h1 h4 hn |-
 by_cases a1:Qc9 l=true
 ·rw[xO a1]at h1 h4 hn |-;have hg:Qq6 l=Qac l:=Zde l (by unfold Qc9 at a1;simp at a1;exact a1.1.2);rw[hg];unfold Qda at h1 h4 hn |-
  split at h1
  ·exact absurd h1 (by decide)
  ·rename_i b1;rw[xN b1]
   split at h1
   ·exact absurd h1 (by decide)
   ·rename_i b2;rw[xN b2]
    by_cases b3:Qbx (at' l (Qac l+1))=true
    ·rw[xO b3];exact .inl ⟨rfl,b3⟩
    ·rw[xN b3];exact .inr ⟨rfl,by simpa using b3⟩
 ·exfalso
  rw[xN a1]at h1 h4 hn;unfold Qdx at h1 h4 hn
  split at h1
  ·exact absurd h1 (by decide)
  ·rename_i b1;rw[xN b1]at hn
   have hw:Qac l=l.length:=by
    split at hn
    ·exact hn
    ·split at hn
     ·exact hn
     ·exact hn
   rw[Qwj l hw]at hd;omega
theorem Qus{l:List UInt8}(h:Qap l=1\/Qap l=2):Qbx (at' l 0)=decide (Qap l=2):=by
 obtain⟨hk,_⟩:=Qpf (l:=l) (by omega) (by omega);rw[<-hk]at h |-;unfold Qdp at h |-
 by_cases a1:Qc9 l=true
 ·exfalso
  rw[xO a1]at h;unfold Qda at h
  split at h
  ·exact absurd h (by decide)
  ·split at h
   ·exact absurd h (by decide)
   ·split at h
    ·exact absurd h (by show ¬ (4=1\/4=2);decide)
    ·exact absurd h (by show ¬ (3=1\/3=2);decide)
 ·rw[xN a1]at h |-;unfold Qdx at h |-
  split at h
  ·exact absurd h (by decide)
  ·rename_i b1;rw[xN b1]
   split at h
   ·exact absurd h (by show ¬ (7=1\/7=2);decide)
   ·rename_i b2;rw[xN b2]
    by_cases b3:Qbx (at' l 0)=true
    ·rw[xO b3,b3];rfl
    ·rw[xN b3,show Qbx (at' l 0)=false from by simpa using b3];rfl
theorem Zdg{x:yD}(h:Qba (Qae 16) x=true):Qap (bl x)=1\/Qap (bl x)=3:=by
 have e:Qba (Qae 16) x=Qbv 4 (Qap (bl x)) x:=rfl;rw[e]at h;have e2:Qbv 4 (Qap (bl x)) x=((Qap (bl x):Int)==1 || (Qap (bl x):Int)==3):=rfl;rw[e2]at h;simp at h
 omega
theorem Qyw{x:yD}(h:Qba (Qae 9) x=true):Qap (bl x)=2\/Qap (bl x)=4:=by
 have e:Qba (Qae 9) x=Qbv 3 (Qap (bl x)) x:=rfl;rw[e]at h;have e2:Qbv 3 (Qap (bl x)) x=((Qap (bl x):Int)==2 || (Qap (bl x):Int)==4):=rfl;rw[e2]at h;simp at h
 omega
theorem Zdh{x:yD}(h:Qba (Qae 2) x=true):Qap (bl x)=1:=by
 have e:Qba (Qae 2) x=Qbv 2 (Qap (bl x)) x:=rfl;rw[e]at h;have e2:Qbv 2 (Qap (bl x)) x=((Qap (bl x):Int)==1):=rfl;rw[e2]at h;simp at h
 omega
theorem Qyx{x:yD}(h:Qba (Qae 3) x=true):Qap (bl x)=2:=by
 have e:Qba (Qae 3) x=Qbv 1 (Qap (bl x)) x:=rfl;rw[e]at h;have e2:Qbv 1 (Qap (bl x)) x=((Qap (bl x):Int)==2):=rfl;rw[e2]at h;simp at h
 omega
theorem Qut(l:List UInt8)(a:Nat):at' (l.drop a) 0=at' l a:=by
 unfold at';rw[List.getD_eq_getElem?_getD,List.getD_eq_getElem?_getD,List.getElem?_drop,Nat.add_zero]
theorem Zko(s:yD)(a:Nat):bl (s.extract a s.size)=(bl s).drop a:=by
 unfold bl;rw[Qhj,Qe1,Nat.zero_add]
end Go.Proofs.YtfjpemdejoejbaaGreat
