/- Part 37 -/
import Derived.Test.YtfjpemdejoejbaaGreatTt35
import Derived.Maps.OwnSet
import Derived.DeepKeys4
set_option maxRecDepth 100000
set_option maxHeartbeats 4000000
namespace Go.Proofs.YtfjpemdejoejbaaGreat
open Go.RowKit Go.Shelf
open Go.Maps (Keyed)
open Go.WideMaps (KeyLaw)
abbrev Pr:=Int × Int
theorem Qbq (w:World) (o:Obj):Below w.heap.size w (w.alloc o):=(xC w.heap.size w).alloc (xA _) o
def prC (a:Pr):List Value:=[.int .i64 a.1,.int .i64 a.2]
def Qds (l:List Pr):List Value:=l.flatMap prC
theorem Qez (a b:List Pr):Qds (a ++ b)=Qds a ++ Qds b:=by unfold Qds;rw [List.flatMap_append]
theorem Qh0:{l:List Pr}→{j:Nat}→{y:Pr}→l[j]? = some y→(Qds l)[j*2]? = some (.int .i64 y.1)∧(Qds l)[j*2+1]? = some (.int .i64 y.2)
 | [],_,_,h=>by simp at h
 | u :: r,0,y,h=>by
  injection h with h;subst h;exact ⟨rfl,rfl⟩
 | u :: r,j+1,y,h=>by
  have ih:=Qh0 (l:=r) (j:=j) (y:=y) h
  have hs:∀ k,(Qds (u :: r))[(j+1)*2+k]? = (Qds r)[j*2+k]?:=fun k=>by
   unfold Qds;rw [List.flatMap_cons,show (j+1)*2+k=j*2+k+2 from by omega,xX (by simp [prC])];simp [prC]
  exact ⟨(hs 0).trans ih.1,(hs 1).trans ih.2⟩
theorem Qw9:(Tryz.prog.info? 60).map (fun i=>(i.zero,i.size,i.bytes))=some (some (.agg #[.int .i64 0,.int .i64 0]),2,16):=by kernel_rfl
def prO (a:Pr):Obj:=.cells #[.int .i64 a.1,.int .i64 a.2] 60
def QRow (w:World) (B:Nat) (v:Value) (l:List Pr):Prop:=w.ownsRow B 60 2 v l.length (Qds l)
theorem QRow.nil (w:World) (B:Nat):QRow w B (.slice none 0 0) []:=World.ownsRow_nil _ _ _ _
theorem QRow.keep {w w':World} {B:Nat} {v:Value} {l:List Pr} (h:QRow w B v l) (hb:Below w.heap.size w w'):QRow w' B v l:=(Keeps.of_below (P:=fun _=>none) hb).row h fun _ _=>.inl rfl
theorem QRow.at {w:World} {B c:Nat} {A:Option Addr} {l:List Pr} (h:QRow w B (.slice A l.length c) l) {j:Nat} {y:Pr} (hy:l[j]? = some y):∃ g,A=some ⟨g,0,none⟩∧B≤g∧g<w.heap.size∧w.cell? ⟨g,j*2,none⟩=some (.int .i64 y.1)∧w.cell? ⟨g,j*2+1,none⟩=some (.int .i64 y.2):=by
 have hj:=(xP.1 hy).1;obtain ⟨g,cap,e,hg,hlt⟩:=World.ownsRow.form h (by omega);injection e with e _ _;subst e;have hc:=World.ownsRow.cells h (g:=g) rfl;obtain ⟨q0,q1⟩:=Qh0 hy;have e0:=hc _ _ q0;have e1:=hc _ _ q1;rw [Addr.add_lit] at e0 e1;simp only [Nat.zero_add] at e0 e1;exact ⟨g,rfl,hg,hlt,e0,e1⟩
theorem Zap:Tryz.prog.underlying 60=some (.struct (Tryz.prog.fieldsOf 60)):=by kernel_rfl
theorem Zaq:Tryz.prog.stoodInHeld 60=false:=by kernel_rfl
theorem Zar:Tryz.prog.eqGuardType Tryz.prog.depth 60=false:=by kernel_rfl
theorem Zdg (x y:Value) (w:World):(part 3 #[x,y] 0).run Tryz.prog w = .ok x w:=by
 simp [part,isAgg,run_underlying Tryz.underlying3]
theorem Zdh (x y:Value) (w:World):(part 3 #[x,y] 1).run Tryz.prog w = .ok y w:=by
 simp [part,isAgg,run_underlying Tryz.underlying3]
theorem Zas (a b c d:Int) (w:World):(Op.equalIn 10000 60 (.agg #[.int .i64 a,.int .i64 b]) (.agg #[.int .i64 c,.int .i64 d])).run Tryz.prog w = .ok (a==c && b==d) w:=by
 rw [run_equalIn_agg w 9999 60 _ _ Zap Zaq];simp only [Program.fieldsOf,Tryz.underlying60,Op.eqFields,Sem.run_bind,Sem.run_ite,Sem.run_pure];have n1:("module"≠"_")=True:=by simp
 have n2:("def"≠"_")=True:=by simp
 simp only [n1,n2,if_true,Zdg,Zdh,Result.andThen_ok,run_equalIn_int _ 9998 3 _ _ _ _ Tryz.underlying3];cases h1:(a==c) <;> cases h2:(b==d) <;> simp
theorem Zev (a b c d:Int) (w:World):(binOp .eql 60 (.agg #[.int .i64 a,.int .i64 b]) (.agg #[.int .i64 c,.int .i64 d])).run Tryz.prog w = .ok (.bool (a==c && b==d)) w:=by
 rw [run_eql_struct,Zas];rfl
def Qxa (l:List Pr) (a:Pr) (k:Nat):Prop:=∀ (j:Nat) (y:Pr),j<k→l[j]? = some y→y≠a
theorem Qmg {l:List Pr} {a y:Pr} {k:Nat} (h:Qxa l a k) (hy:l[k]? = some y) (hne:y≠a):Qxa l a (k+1):=fun j z hj hz=>by
 by_cases e:j=k
 ·subst e;rw [hy] at hz;injection hz with hz;rw [←hz];exact hne
 ·exact h j z (by omega) hz
theorem Qpc {l:List Pr} {a:Pr} (h:Qxa l a l.length):a ∉ l:=fun hm=>by
 obtain ⟨j,hj,e⟩:=List.getElem_of_mem hm;exact h j _ hj (xF hj) e
theorem Qxb {a b c d:Int} (h:(a,b)≠(c,d)):(c==a && d==b)=false:=by
 cases h1:(c==a)
 ·rfl
 ·cases h2:(d==b)
  ·rfl
  ·exact absurd (by rw [eq_of_beq h1,eq_of_beq h2]) h
theorem Zat (B c:Nat) (A:Option Addr) (l:List Pr) (x y:Int) (w:World) (h:QRow w B (.slice A l.length c) l) (hl:l.length≤1000000) :
  Calls Tryz.prog 64 #[.slice A l.length c,.agg #[.int .i64 x,.int .i64 y]] w fun e w'=>∃ i:Int,e = .returned (.int .i64 i)∧(0≤i ↔ (x,y)∈l)∧Below w.heap.size w w':=by
 have HBA:=hQ (Qbq w (prO (x,y)));have HX:=xH w (prO (x,y));have HR:=hQ (h.keep HBA.out);clear h
 go_enter Tryz.func64,Tryz.ntmps64
 go_wp2
 go_loopw [8] (fun i wr=>∃ (k n:Nat),i = .int .i64 k∧k≤l.length∧Hid (Qxa l (x,y) k)∧wr=(w.alloc (prO (x,y))).drewN n) (fun i _=>l.length-(intOf i).toNat)
 case atStart=>exact ⟨0,0,rfl,xZ _,hQ fun j z hj=>absurd hj (by omega),rfl⟩
 case round =>
  obtain ⟨k,n,rfl,hk,hn,rfl⟩:=hrel;have HN:=hn;clear hn;have b0:(w.alloc (prO (x,y))).cell? ⟨w.heap.size,0,none⟩=some (.int .i64 x):=Qaa HX 0 _ rfl;have b1:(w.alloc (prO (x,y))).cell? ⟨w.heap.size,1,none⟩=some (.int .i64 y):=Qaa HX 1 _ rfl
  by_cases hlt:k<l.length
  ·obtain ⟨z,hz⟩:∃ z,l[k]? = some z:=⟨_,xF hlt⟩;obtain ⟨g,rfl,_,gl,c0,c1⟩:=HR.out.at hz;have HZ:=hQ hz;obtain ⟨z1,z2⟩:=z;simp only at c0 c1;have hk0:(0:Int)≤(k:Int):=by omega
   have hk1:(k:Int)<(l.length:Int):=by omega
   have hk2:(k:Int)+1≤1000001:=by omega
   have hG:=fun (w:World) (p q:Operand)=>run_eqGuard_agg w .eql 60 p q #[.int .i64 x,.int .i64 y] #[.int .i64 z1,.int .i64 z2] Zar
   have hE:=fun (w:World)=>Zev x y z1 z2 w
   clear hz HX
   by_cases he:(z1,z2)=(x,y)
   ·have HM:=hQ (show (x,y)∈l from he ▸ yA HZ.out);have hq:(x==z1 && y==z2)=true:=by injection he with e1 e2;subst e1 e2;simp
    clear he;go_wp2_with fail
    go_quiet (fail)
    go_wp2
    go_ret
    exact ⟨k,rfl,⟨fun _=>HM.out,fun _=>by omega⟩,below_drewN (below_drewN HBA.out _) _⟩
   ·have HS:=hQ (Qmg HN.out HZ.out he);have hq:=Qxb he;clear he;go_wp2_with fail
    go_quiet (fail)
    go_wp2
    go_roundw
    case rel=>exact ⟨k+1,_,by go_num,by omega,HS,rfl⟩
    case measure=>simp [intOf];omega
  ·obtain rfl:k=l.length:=by omega
   have HM:=hQ (Qpc HN.out);clear HX
   go_wp2
   go_ret
   exact ⟨-1,rfl,⟨fun h=>absurd h (by decide),fun h=>absurd h HM.out⟩,below_drewN HBA.out _⟩
theorem Qev (B c:Nat) (A:Option Addr) (l:List Pr) (x y:Int) (w:World) (h:QRow w B (.slice A l.length c) l) (hl:l.length≤1000000) :
  Calls Tryz.prog 37 #[.slice A l.length c,.agg #[.int .i64 x,.int .i64 y]] w fun e w'=>e = .returned (.bool (decide ((x,y)∈l)))∧Below w.heap.size w w':=by
 have HBA:=hQ (Qbq w (prO (x,y)));have HC:=hQ (Zat B c A l x y (w.alloc (prO (x,y))) (h.keep HBA.out) hl);have HX:=xH w (prO (x,y));have b0:(w.alloc (prO (x,y))).cell? ⟨w.heap.size,0,none⟩=some (.int .i64 x):=Qaa HX 0 _ rfl;have b1:(w.alloc (prO (x,y))).cell? ⟨w.heap.size,1,none⟩=some (.int .i64 y):=Qaa HX 1 _ rfl;clear h HX
 go_enter Tryz.func37,Tryz.ntmps37
 go_wp2_with (go_at_call 64;refine HC.out.mono ?_;rintro e w1 ⟨i,rfl,hi,hb⟩;have HI:=hQ hi;have HB1:=hQ (HBA.out.trans (hb.mono HBA.out.size));clear hi hb)
 go_ret
 exact ⟨Qam (decide_eq_decide.2 HI.out),HB1.out⟩
def prR:Value→Option (DataW Unit × List MemPlace)
 | .agg cs=>match cs.toList with
  | [.int .i64 a,.int .i64 b]=>some (.agg [.lit (.int .i64 a),.lit (.int .i64 b)],[])
  | _=>none
 | _=>none
def prD (a b:Int):DataW Unit:=.agg [.lit (.int .i64 a),.lit (.int .i64 b)]
theorem Zbu (a b:Int):prR (.agg #[.int .i64 a,.int .i64 b])=some (prD a b,[]):=rfl
theorem Qxc {v:Value} {a b:Int} {ps:List MemPlace} (h:prR v=some (prD a b,ps)):v = .agg #[.int .i64 a,.int .i64 b]:=by
 unfold prR at h
 split at h
 ·rename_i cs
  split at h
  ·rename_i x y hc
   injection h with h;injection h with h _;unfold prD at h;simp at h
   obtain ⟨rfl,rfl⟩:=h;obtain ⟨l⟩:=cs;simp at hc
   rw [hc]
  ·cases h
 ·cases h
def Qy6 (a b:Int):Lit:=.string (keyBytes [.int .i64 a,.int .i64 b])
theorem Zdi:laidOutB Tryz.prog=true:=by kernel_rfl
theorem Zbv:(60:TypeId)<Tryz.prog.types.size:=of_decide_eq_true (by kernel_rfl)
theorem Zdj:(match Tryz.prog.underlying 60 with | some (.array _ _) | some (.struct _)=>true | _=>false)=true:=by kernel_rfl
theorem prLaw:Keyed Tryz.prog 60:=Keyed.of_law (deep_law_laid Zdi (m:=2) (by omega) Zbv (by kernel_rfl) Zdj)
theorem Zdk (w:World):(zeroValue 60).run Tryz.prog w = .ok (.agg #[.int .i64 0,.int .i64 0]) w:=by kernel_rfl
abbrev W64 (a:Int):Prop:=(Lit.int .i64 a).wf=true
theorem Qiu {a b:Int} (wa:W64 a) (wb:W64 b):keyOf Tryz.prog 60 (.agg #[.int .i64 a,.int .i64 b])=some (Qy6 a b):=by
 have hc:Tryz.prog.cellsOf 60=2:=by kernel_rfl
 have hi:Tryz.prog.cellsOf 3=1:=by kernel_rfl
 have hkt:Tryz.prog.keyType 60=true:=by kernel_rfl
 obtain ⟨m,hm⟩:∃ m,Tryz.prog.types.size=m+1:=Nat.exists_eq_succ_of_ne_zero (Nat.ne_of_gt (Nat.lt_of_le_of_lt (xZ _) Zbv));unfold keyOf;simp only [Tryz.underlying60];rw [xO (by simp [hkt,Value.formed,Tryz.underlying60,hc]),hm];unfold Program.keyLits;simp only [Tryz.underlying60,Value.cells];rw [xO ⟨by rw [hc];rfl,by simp⟩];simp [hi,Program.keyLits,Tryz.underlying3,wa,wb,Qy6]
theorem Zau {a b c d:Int} (wa:W64 a) (wb:W64 b) (wc:W64 c) (wd:W64 d) (h:Qy6 a b=Qy6 c d):a=c∧b=d:=by
 have:=prLaw.inj (Qiu wa wb) (h ▸ Qiu wc wd)
 simp at this
 exact this
theorem Qsj {a b:Int} (wa:W64 a) (wb:W64 b):WideAt.IsKeyLit (Qy6 a b):=prLaw.key (Qiu wa wb)
def AMap (w:World) (b n:Nat) (f:Pr→Option Pr):Prop:=∃ D:DataW Unit,w.ownsMap Tryz.prog 60 prR b n D∧∀ i j:Int,W64 i→W64 j→Maps.has D (Qy6 i j)=(f (i,j)).isSome∧∀ r:Pr,f (i,j)=some r→D.atKey (Qy6 i j) (prD 0 0)=prD r.1 r.2
def Qsk (f:Pr→Option Pr) (k r:Pr):Pr→Option Pr:=fun x=>if x=k then some r else f x
theorem AMap.made (w:World):AMap (w.alloc (.map #[] 0)) w.heap.size 0 fun _=>none:=⟨.map [],World.ownsMap_made _ _ _ _,fun _ _ _ _=>⟨rfl,fun r h=>by cases h⟩⟩
theorem AMap.mono {w:World} {b n m:Nat} {f:Pr→Option Pr} (h:AMap w b n f) (hn:n≤m):AMap w b m f:=by
 obtain ⟨D,h1,h2⟩:=h;exact ⟨D,h1.mono hn,h2⟩
theorem AMap.lt {w:World} {b n:Nat} {f:Pr→Option Pr} (h:AMap w b n f):b<w.heap.size:=by
 obtain ⟨D,h1,_⟩:=h;exact h1.lt
theorem AMap.keep {w w':World} {b n:Nat} {f:Pr→Option Pr} (h:AMap w b n f) (hb:w'.heap[b]? = w.heap[b]?):AMap w' b n f:=by
 obtain ⟨D,⟨es,ck,q1,q2⟩,h2⟩:=h;exact ⟨D,⟨es,ck,hb.trans q1,q2⟩,h2⟩
theorem AMap.below {w w':World} {b n:Nat} {f:Pr→Option Pr} (h:AMap w b n f) (hb:Below w.heap.size w w'):AMap w' b n f:=h.keep (hb.block b h.lt)
theorem Qrb {w:World} {o:Oper} {a:Act} {K:Act→World→Prop} {Q:Exit→Act→World→Prop} (m x v:Operand) (hop:o.op=Op.mapUpdate 61 m x v) (b n:Nat) (f:Pr→Option Pr) (hm:a.eval m = .map (some b)) (h:AMap w b n f) (hn:n<maxLen)
  (i j c d:Int) (hx:a.eval x = .agg #[.int .i64 i,.int .i64 j]) (hv:a.eval v = .agg #[.int .i64 c,.int .i64 d]) (wi:W64 i) (wj:W64 j)
  (hK:∀ w',AMap w' b (n+1) (Qsk f (i,j) (c,d))→w.grownBy w' (some b)→K (a.put o.dst undef) w'):o.wp Tryz.prog a w K Q:=by
 obtain ⟨D,hown,hf⟩:=h;obtain ⟨w',hrun,r1,r2⟩:=hown.update prLaw Tryz.underlying61 hn (Qiu wi wj) (Zbu c d);unfold Oper.wp;simp [execOp,hop,hm,hx,hv,hrun,Result.andThen]
 refine hK w' ⟨_,r1,fun p q wp wq=>?_⟩ r2
 by_cases e:(p,q)=(i,j)
 ·injection e with e1 e2;subst e1 e2;refine ⟨by rw [Maps.has_put_same hown.isMap (Qsj wi wj)];unfold Qsk;rw [xO rfl];rfl,fun r hr=>?_⟩;unfold Qsk at hr;rw [xO rfl] at hr;injection hr with hr;subst hr;exact Maps.atKey_put_same hown.isMap (Qsj wi wj) _ _
 ·have hne:Qy6 p q≠Qy6 i j:=fun h=>e (by obtain ⟨e1,e2⟩:=Zau wp wq wi wj h;rw [e1,e2])
  have hu:Qsk f (i,j) (c,d) (p,q)=f (p,q):=by unfold Qsk;rw [xN e]
  rw [hu,Maps.has_put_other hne,Maps.atKey_put_other hne];exact hf p q wp wq
theorem Qlb {w:World} {ops:Array Oper} {rest:List Oper} {o:Oper} {a:Act} {Q:Exit→Act→World→Prop} (hg:o.guard=none) (m x v:Operand) (hop:o.op=Op.mapUpdate 61 m x v) (b n:Nat) (f:Pr→Option Pr) (hm:a.eval m = .map (some b)) (h:AMap w b n f) (hn:n<maxLen)
  (i j c d:Int) (hx:a.eval x = .agg #[.int .i64 i,.int .i64 j]) (hv:a.eval v = .agg #[.int .i64 c,.int .i64 d]) (wi:W64 i) (wj:W64 j)
  (hK:∀ w',AMap w' b (n+1) (Qsk f (i,j) (c,d))→w.grownBy w' (some b)→wpList Tryz.prog ops Q rest (a.put o.dst undef) w'):wpList Tryz.prog ops Q (o :: rest) a w :=
 wpList_plain hg fun _ hKK=>Qrb m x v hop b n f hm h hn i j c d hx hv wi wj fun w' q1 q2=>hKK _ _ (hK w' q1 q2)
def Qji (f:Pr→Option Pr) (a:Pr):Pr:=(f a).getD (0,0)
theorem Qe6 {w:World} {ops:Array Oper} {rest:List Oper} {o:Oper} {a:Act} {Q:Exit→Act→World→Prop} (hg:o.guard=none) (m x:Operand) (hop:o.op=Op.lookup 61 m x true) (b n:Nat) (f:Pr→Option Pr) (hm:a.eval m = .map (some b)) (h:AMap w b n f)
  (i j:Int) (hx:a.eval x = .agg #[.int .i64 i,.int .i64 j]) (wi:W64 i) (wj:W64 j)
  (hK:wpList Tryz.prog ops Q rest (a.put o.dst (.tuple #[.agg #[.int .i64 (Qji f (i,j)).1,.int .i64 (Qji f (i,j)).2],.bool (f (i,j)).isSome])) w):wpList Tryz.prog ops Q (o :: rest) a w:=by
 obtain ⟨D,hown,hf⟩:=h;obtain ⟨f1,f2⟩:=hf i j wi wj;refine wpList_lookup_own_ok w hg m x _ hop 60 60 prLaw Tryz.underlying61 prR (Zdk w) (prD 0 0) [] (Zbu 0 0) b n D hm hown _ (Qy6 i j) hx (Qiu wi wj) fun v ps hv=>?_
 rw [f1]
 have e:v = .agg #[.int .i64 (Qji f (i,j)).1,.int .i64 (Qji f (i,j)).2]:=by
  cases hr:f (i,j) with
  | none =>
   rw [hr] at f1;rw [Maps.atKey_of_not_has (by rw [f1];rfl)] at hv;rw [Qxc hv];unfold Qji;rw [hr];rfl
  | some r =>
   rw [f2 r hr] at hv;rw [Qxc hv];unfold Qji;rw [hr];rfl
 rw [e];exact hK
end Go.Proofs.YtfjpemdejoejbaaGreat
