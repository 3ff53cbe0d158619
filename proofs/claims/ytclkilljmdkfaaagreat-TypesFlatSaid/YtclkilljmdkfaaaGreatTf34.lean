/- Part 34 -/
import Derived.Test.YtclkilljmdkfaaaGreatTf32
import Derived.Test.YtclkilljmdkfaaaGreatTf33
import Derived.Maps.OwnSet
import Derived.DeepKeys4
set_option maxRecDepth 100000
set_option maxHeartbeats 4000000
namespace Go.Proofs.YtclkilljmdkfaaaGreat
open Go.RowKit Go.Shelf
open Go.Maps (Keyed)
open Go.WideMaps (KeyLaw)
abbrev Pr:=Int × Int
theorem Qc3 (w:World) (o:Obj):Below w.heap.size w (w.alloc o):=(xC w.heap.size w).alloc (xA _) o
def prC (a:Pr):List Value:=[.int .i64 a.1,.int .i64 a.2]
def Qf7 (l:List Pr):List Value:=l.flatMap prC
theorem Qjj (a b:List Pr):Qf7 (a ++ b)=Qf7 a ++ Qf7 b:=by unfold Qf7;rw [List.flatMap_append]
theorem Qnf:{l:List Pr}→{j:Nat}→{y:Pr}→l[j]? = some y→(Qf7 l)[j*2]? = some (.int .i64 y.1)∧(Qf7 l)[j*2+1]? = some (.int .i64 y.2)
 | [],_,_,h=>by simp at h
 | u :: r,0,y,h=>by
  injection h with h
  subst h
  exact ⟨rfl,rfl⟩
 | u :: r,j+1,y,h=>by
  have ih:=Qnf (l:=r) (j:=j) (y:=y) h
  have hs:∀ k,(Qf7 (u :: r))[(j+1)*2+k]? = (Qf7 r)[j*2+k]?:=fun k=>by
   unfold Qf7
   rw [List.flatMap_cons,show (j+1)*2+k=j*2+k+2 from by omega,xX (by simp [prC])]
   simp [prC]
  exact ⟨(hs 0).trans ih.1,(hs 1).trans ih.2⟩
theorem Zb4:(Tryz.prog.info? 71).map (fun i=>(i.zero,i.size,i.bytes))=some (some (.agg #[.int .i64 0,.int .i64 0]),2,16):=by kernel_rfl
def prO (a:Pr):Obj:=.cells #[.int .i64 a.1,.int .i64 a.2] 71
def QRow (w:World) (B:Nat) (v:Value) (l:List Pr):Prop:=w.ownsRow B 71 2 v l.length (Qf7 l)
theorem QRow.nil (w:World) (B:Nat):QRow w B (.slice none 0 0) []:=World.ownsRow_nil _ _ _ _
theorem QRow.keep {w w':World} {B:Nat} {v:Value} {l:List Pr} (h:QRow w B v l) (hb:Below w.heap.size w w'):QRow w' B v l:=(Keeps.of_below (P:=fun _=>none) hb).row h fun _ _=>.inl rfl
theorem QRow.at {w:World} {B c:Nat} {A:Option Addr} {l:List Pr} (h:QRow w B (.slice A l.length c) l) {j:Nat} {y:Pr} (hy:l[j]? = some y):∃ g,A=some ⟨g,0,none⟩∧B≤g∧g<w.heap.size∧w.cell? ⟨g,j*2,none⟩=some (.int .i64 y.1)∧w.cell? ⟨g,j*2+1,none⟩=some (.int .i64 y.2):=by
 have hj:=(xP.1 hy).1
 obtain ⟨g,cap,e,hg,hlt⟩:=World.ownsRow.form h (by omega)
 injection e with e _ _
 subst e
 have hc:=World.ownsRow.cells h (g:=g) rfl
 obtain ⟨q0,q1⟩:=Qnf hy
 have e0:=hc _ _ q0
 have e1:=hc _ _ q1
 rw [Addr.add_lit] at e0 e1
 simp only [Nat.zero_add] at e0 e1
 exact ⟨g,rfl,hg,hlt,e0,e1⟩
theorem Zf3:Tryz.prog.underlying 71=some (.struct (Tryz.prog.fieldsOf 71)):=by kernel_rfl
theorem Zf4:Tryz.prog.stoodInHeld 71=false:=by kernel_rfl
theorem Zf5:Tryz.prog.eqGuardType Tryz.prog.depth 71=false:=by kernel_rfl
theorem Zku (x y:Value) (w:World):(part 3 #[x,y] 0).run Tryz.prog w = .ok x w:=by
 simp [part,isAgg,run_underlying Tryz.underlying3]
theorem Zkv (x y:Value) (w:World):(part 3 #[x,y] 1).run Tryz.prog w = .ok y w:=by
 simp [part,isAgg,run_underlying Tryz.underlying3]
theorem Zf6 (a b c d:Int) (w:World):(Op.equalIn 10000 71 (.agg #[.int .i64 a,.int .i64 b]) (.agg #[.int .i64 c,.int .i64 d])).run Tryz.prog w = .ok (a==c && b==d) w:=by
 rw [run_equalIn_agg w 9999 71 _ _ Zf3 Zf4]
 simp only [Program.fieldsOf,Tryz.underlying71,Op.eqFields,Sem.run_bind,Sem.run_ite,Sem.run_pure]
 have n1:("module"≠"_")=True:=by simp
 have n2:("def"≠"_")=True:=by simp
 simp only [n1,n2,if_true,Zku,Zkv,Result.andThen_ok,run_equalIn_int _ 9998 3 _ _ _ _ Tryz.underlying3]
 cases h1:(a==c) <;> cases h2:(b==d) <;> simp
theorem Zkw (a b c d:Int) (w:World):(binOp .eql 71 (.agg #[.int .i64 a,.int .i64 b]) (.agg #[.int .i64 c,.int .i64 d])).run Tryz.prog w = .ok (.bool (a==c && b==d)) w:=by
 rw [run_eql_struct,Zf6]
 rfl
def Zf7 (l:List Pr) (a:Pr) (k:Nat):Prop:=∀ (j:Nat) (y:Pr),j<k→l[j]? = some y→y≠a
theorem Qx3 {l:List Pr} {a y:Pr} {k:Nat} (h:Zf7 l a k) (hy:l[k]? = some y) (hne:y≠a):Zf7 l a (k+1):=fun j z hj hz=>by
 by_cases e:j=k
 ·subst e
  rw [hy] at hz
  injection hz with hz
  rw [←hz]
  exact hne
 ·exact h j z (by omega) hz
theorem Zb5 {l:List Pr} {a:Pr} (h:Zf7 l a l.length):a ∉ l:=fun hm=>by
 obtain ⟨j,hj,e⟩:=List.getElem_of_mem hm
 exact h j _ hj (xF hj) e
theorem Zkx {a b c d:Int} (h:(a,b)≠(c,d)):(c==a && d==b)=false:=by
 cases h1:(c==a)
 ·rfl
 ·cases h2:(d==b)
  ·rfl
  ·exact absurd (by rw [eq_of_beq h1,eq_of_beq h2]) h
theorem Zf8 (B c:Nat) (A:Option Addr) (l:List Pr) (x y:Int) (w:World) (h:QRow w B (.slice A l.length c) l) (hl:l.length≤1000000) :
  Calls Tryz.prog 93 #[.slice A l.length c,.agg #[.int .i64 x,.int .i64 y]] w fun e w'=>∃ i:Int,e = .returned (.int .i64 i)∧(0≤i ↔ (x,y)∈l)∧Below w.heap.size w w':=by
 have HBA:=hQ (Qc3 w (prO (x,y)))
 have HX:=xH w (prO (x,y))
 have HR:=hQ (h.keep HBA.out)
 clear h
 go_enter Tryz.func93,Tryz.ntmps93
 go_wp2
 go_loopw [8] (fun i wr=>∃ (k n:Nat),i = .int .i64 k∧k≤l.length∧Hid (Zf7 l (x,y) k)∧wr=(w.alloc (prO (x,y))).drewN n) (fun i _=>l.length-(intOf i).toNat)
 case atStart=>exact ⟨0,0,rfl,xZ _,hQ fun j z hj=>absurd hj (by omega),rfl⟩
 case round =>
  obtain ⟨k,n,rfl,hk,hn,rfl⟩:=hrel
  have HN:=hn
  clear hn
  have b0:(w.alloc (prO (x,y))).cell? ⟨w.heap.size,0,none⟩=some (.int .i64 x):=Qab HX 0 _ rfl
  have b1:(w.alloc (prO (x,y))).cell? ⟨w.heap.size,1,none⟩=some (.int .i64 y):=Qab HX 1 _ rfl
  by_cases hlt:k<l.length
  ·obtain ⟨z,hz⟩:∃ z,l[k]? = some z:=⟨_,xF hlt⟩
   obtain ⟨g,rfl,_,gl,c0,c1⟩:=HR.out.at hz
   have HZ:=hQ hz
   obtain ⟨z1,z2⟩:=z
   simp only at c0 c1
   have hk0:(0:Int)≤(k:Int):=by omega
   have hk1:(k:Int)<(l.length:Int):=by omega
   have hk2:(k:Int)+1≤1000001:=by omega
   have hG:=fun (w:World) (p q:Operand)=>run_eqGuard_agg w .eql 71 p q #[.int .i64 x,.int .i64 y] #[.int .i64 z1,.int .i64 z2] Zf5
   have hE:=fun (w:World)=>Zkw x y z1 z2 w
   clear hz HX
   by_cases he:(z1,z2)=(x,y)
   ·have HM:=hQ (show (x,y)∈l from he ▸ yA HZ.out)
    have hq:(x==z1 && y==z2)=true:=by injection he with e1 e2;subst e1 e2;simp
    clear he
    go_wp2_with fail
    go_quiet (fail)
    go_wp2
    go_ret
    exact ⟨k,rfl,⟨fun _=>HM.out,fun _=>by omega⟩,below_drewN (below_drewN HBA.out _) _⟩
   ·have HS:=hQ (Qx3 HN.out HZ.out he)
    have hq:=Zkx he
    clear he
    go_wp2_with fail
    go_quiet (fail)
    go_wp2
    go_roundw
    case rel=>exact ⟨k+1,_,by go_num,by omega,HS,rfl⟩
    case measure=>simp [intOf];omega
  ·obtain rfl:k=l.length:=by omega
   have HM:=hQ (Zb5 HN.out)
   clear HX
   go_wp2
   go_ret
   exact ⟨-1,rfl,⟨fun h=>absurd h (by decide),fun h=>absurd h HM.out⟩,below_drewN HBA.out _⟩
theorem Qfo (B c:Nat) (A:Option Addr) (l:List Pr) (x y:Int) (w:World) (h:QRow w B (.slice A l.length c) l) (hl:l.length≤1000000) :
  Calls Tryz.prog 55 #[.slice A l.length c,.agg #[.int .i64 x,.int .i64 y]] w fun e w'=>e = .returned (.bool (decide ((x,y)∈l)))∧Below w.heap.size w w':=by
 have HBA:=hQ (Qc3 w (prO (x,y)))
 have HC:=hQ (Zf8 B c A l x y (w.alloc (prO (x,y))) (h.keep HBA.out) hl)
 have HX:=xH w (prO (x,y))
 have b0:(w.alloc (prO (x,y))).cell? ⟨w.heap.size,0,none⟩=some (.int .i64 x):=Qab HX 0 _ rfl
 have b1:(w.alloc (prO (x,y))).cell? ⟨w.heap.size,1,none⟩=some (.int .i64 y):=Qab HX 1 _ rfl
 clear h HX
 go_enter Tryz.func55,Tryz.ntmps55
 go_wp2_with (go_at_call 93;refine HC.out.mono ?_;rintro e w1 ⟨i,rfl,hi,hb⟩;have HI:=hQ hi;have HB1:=hQ (HBA.out.trans (hb.mono HBA.out.size));clear hi hb)
 go_ret
 exact ⟨Qai (decide_eq_decide.2 HI.out),HB1.out⟩
def prR:Value→Option (DataW Unit × List MemPlace)
 | .agg cs=>match cs.toList with
  | [.int .i64 a,.int .i64 b]=>some (.agg [.lit (.int .i64 a),.lit (.int .i64 b)],[])
  | _=>none
 | _=>none
def prD (a b:Int):DataW Unit:=.agg [.lit (.int .i64 a),.lit (.int .i64 b)]
theorem Zhd (a b:Int):prR (.agg #[.int .i64 a,.int .i64 b])=some (prD a b,[]):=rfl
theorem Zb6 {v:Value} {a b:Int} {ps:List MemPlace} (h:prR v=some (prD a b,ps)):v = .agg #[.int .i64 a,.int .i64 b]:=by
 unfold prR at h
 split at h
 ·rename_i cs
  split at h
  ·rename_i x y hc
   injection h with h
   injection h with h _
   unfold prD at h
   simp at h
   obtain ⟨rfl,rfl⟩:=h
   obtain ⟨l⟩:=cs
   simp at hc
   rw [hc]
  ·cases h
 ·cases h
def Zd5 (a b:Int):Lit:=.string (keyBytes [.int .i64 a,.int .i64 b])
theorem Zje:laidOutB Tryz.prog=true:=by kernel_rfl
theorem Zhe:(71:TypeId)<Tryz.prog.types.size:=of_decide_eq_true (by kernel_rfl)
theorem Zjf:(match Tryz.prog.underlying 71 with | some (.array _ _) | some (.struct _)=>true | _=>false)=true:=by kernel_rfl
theorem prLaw:Keyed Tryz.prog 71:=Keyed.of_law (deep_law_laid Zje (m:=2) (by omega) Zhe (by kernel_rfl) Zjf)
theorem Zjg (w:World):(zeroValue 71).run Tryz.prog w = .ok (.agg #[.int .i64 0,.int .i64 0]) w:=by kernel_rfl
abbrev W64 (a:Int):Prop:=(Lit.int .i64 a).wf=true
theorem Qko {a b:Int} (wa:W64 a) (wb:W64 b):keyOf Tryz.prog 71 (.agg #[.int .i64 a,.int .i64 b])=some (Zd5 a b):=by
 have hc:Tryz.prog.cellsOf 71=2:=by kernel_rfl
 have hi:Tryz.prog.cellsOf 3=1:=by kernel_rfl
 have hkt:Tryz.prog.keyType 71=true:=by kernel_rfl
 obtain ⟨m,hm⟩:∃ m,Tryz.prog.types.size=m+1:=Nat.exists_eq_succ_of_ne_zero (Nat.ne_of_gt (Nat.lt_of_le_of_lt (xZ _) Zhe))
 unfold keyOf
 simp only [Tryz.underlying71]
 rw [xO (by simp [hkt,Value.formed,Tryz.underlying71,hc]),hm]
 unfold Program.keyLits
 simp only [Tryz.underlying71,Value.cells]
 rw [xO ⟨by rw [hc];rfl,by simp⟩]
 simp [hi,Program.keyLits,Tryz.underlying3,wa,wb,Zd5]
theorem Zf9 {a b c d:Int} (wa:W64 a) (wb:W64 b) (wc:W64 c) (wd:W64 d) (h:Zd5 a b=Zd5 c d):a=c∧b=d:=by
 have:=prLaw.inj (Qko wa wb) (h ▸ Qko wc wd)
 simp at this
 exact this
theorem Qvj {a b:Int} (wa:W64 a) (wb:W64 b):WideAt.IsKeyLit (Zd5 a b):=prLaw.key (Qko wa wb)
def AMap (w:World) (b n:Nat) (f:Pr→Option Pr):Prop:=∃ D:DataW Unit,w.ownsMap Tryz.prog 71 prR b n D∧∀ i j:Int,W64 i→W64 j→Maps.has D (Zd5 i j)=(f (i,j)).isSome∧∀ r:Pr,f (i,j)=some r→D.atKey (Zd5 i j) (prD 0 0)=prD r.1 r.2
def Qvk (f:Pr→Option Pr) (k r:Pr):Pr→Option Pr:=fun x=>if x=k then some r else f x
theorem AMap.made (w:World):AMap (w.alloc (.map #[] 0)) w.heap.size 0 fun _=>none:=⟨.map [],World.ownsMap_made _ _ _ _,fun _ _ _ _=>⟨rfl,fun r h=>by cases h⟩⟩
theorem AMap.mono {w:World} {b n m:Nat} {f:Pr→Option Pr} (h:AMap w b n f) (hn:n≤m):AMap w b m f:=by
 obtain ⟨D,h1,h2⟩:=h
 exact ⟨D,h1.mono hn,h2⟩
theorem AMap.lt {w:World} {b n:Nat} {f:Pr→Option Pr} (h:AMap w b n f):b<w.heap.size:=by
 obtain ⟨D,h1,_⟩:=h
 exact h1.lt
theorem AMap.keep {w w':World} {b n:Nat} {f:Pr→Option Pr} (h:AMap w b n f) (hb:w'.heap[b]? = w.heap[b]?):AMap w' b n f:=by
 obtain ⟨D,⟨es,ck,q1,q2⟩,h2⟩:=h
 exact ⟨D,⟨es,ck,hb.trans q1,q2⟩,h2⟩
theorem AMap.below {w w':World} {b n:Nat} {f:Pr→Option Pr} (h:AMap w b n f) (hb:Below w.heap.size w w'):AMap w' b n f:=h.keep (hb.block b h.lt)
theorem Qt9 {w:World} {o:Oper} {a:Act} {K:Act→World→Prop} {Q:Exit→Act→World→Prop} (m x v:Operand) (hop:o.op=Op.mapUpdate 72 m x v) (b n:Nat) (f:Pr→Option Pr) (hm:a.eval m = .map (some b)) (h:AMap w b n f) (hn:n<maxLen)
  (i j c d:Int) (hx:a.eval x = .agg #[.int .i64 i,.int .i64 j]) (hv:a.eval v = .agg #[.int .i64 c,.int .i64 d]) (wi:W64 i) (wj:W64 j)
  (hK:∀ w',AMap w' b (n+1) (Qvk f (i,j) (c,d))→w.grownBy w' (some b)→K (a.put o.dst undef) w'):o.wp Tryz.prog a w K Q:=by
 obtain ⟨D,hown,hf⟩:=h
 obtain ⟨w',hrun,r1,r2⟩:=hown.update prLaw Tryz.underlying72 hn (Qko wi wj) (Zhd c d)
 unfold Oper.wp
 simp [execOp,hop,hm,hx,hv,hrun,Result.andThen]
 refine hK w' ⟨_,r1,fun p q wp wq=>?_⟩ r2
 by_cases e:(p,q)=(i,j)
 ·injection e with e1 e2
  subst e1 e2
  refine ⟨by rw [Maps.has_put_same hown.isMap (Qvj wi wj)];unfold Qvk;rw [xO rfl];rfl,fun r hr=>?_⟩
  unfold Qvk at hr
  rw [xO rfl] at hr
  injection hr with hr
  subst hr
  exact Maps.atKey_put_same hown.isMap (Qvj wi wj) _ _
 ·have hne:Zd5 p q≠Zd5 i j:=fun h=>e (by obtain ⟨e1,e2⟩:=Zf9 wp wq wi wj h;rw [e1,e2])
  have hu:Qvk f (i,j) (c,d) (p,q)=f (p,q):=by unfold Qvk;rw [xN e]
  rw [hu,Maps.has_put_other hne,Maps.atKey_put_other hne]
  exact hf p q wp wq
theorem Qng {w:World} {ops:Array Oper} {rest:List Oper} {o:Oper} {a:Act} {Q:Exit→Act→World→Prop} (hg:o.guard=none) (m x v:Operand) (hop:o.op=Op.mapUpdate 72 m x v) (b n:Nat) (f:Pr→Option Pr) (hm:a.eval m = .map (some b)) (h:AMap w b n f) (hn:n<maxLen)
  (i j c d:Int) (hx:a.eval x = .agg #[.int .i64 i,.int .i64 j]) (hv:a.eval v = .agg #[.int .i64 c,.int .i64 d]) (wi:W64 i) (wj:W64 j)
  (hK:∀ w',AMap w' b (n+1) (Qvk f (i,j) (c,d))→w.grownBy w' (some b)→wpList Tryz.prog ops Q rest (a.put o.dst undef) w'):wpList Tryz.prog ops Q (o :: rest) a w :=
 wpList_plain hg fun _ hKK=>Qt9 m x v hop b n f hm h hn i j c d hx hv wi wj fun w' q1 q2=>hKK _ _ (hK w' q1 q2)
def Qlb (f:Pr→Option Pr) (a:Pr):Pr:=(f a).getD (0,0)
theorem Qf8 {w:World} {ops:Array Oper} {rest:List Oper} {o:Oper} {a:Act} {Q:Exit→Act→World→Prop} (hg:o.guard=none) (m x:Operand) (hop:o.op=Op.lookup 72 m x true) (b n:Nat) (f:Pr→Option Pr) (hm:a.eval m = .map (some b)) (h:AMap w b n f)
  (i j:Int) (hx:a.eval x = .agg #[.int .i64 i,.int .i64 j]) (wi:W64 i) (wj:W64 j)
  (hK:wpList Tryz.prog ops Q rest (a.put o.dst (.tuple #[.agg #[.int .i64 (Qlb f (i,j)).1,.int .i64 (Qlb f (i,j)).2],.bool (f (i,j)).isSome])) w):wpList Tryz.prog ops Q (o :: rest) a w:=by
 obtain ⟨D,hown,hf⟩:=h
 obtain ⟨f1,f2⟩:=hf i j wi wj
 refine wpList_lookup_own_ok w hg m x _ hop 71 71 prLaw Tryz.underlying72 prR (Zjg w) (prD 0 0) [] (Zhd 0 0) b n D hm hown _ (Zd5 i j) hx (Qko wi wj) fun v ps hv=>?_
 rw [f1]
 have e:v = .agg #[.int .i64 (Qlb f (i,j)).1,.int .i64 (Qlb f (i,j)).2]:=by
  cases hr:f (i,j) with
  | none =>
   rw [hr] at f1
   rw [Maps.atKey_of_not_has (by rw [f1];rfl)] at hv
   rw [Zb6 hv]
   unfold Qlb
   rw [hr]
   rfl
  | some r =>
   rw [f2 r hr] at hv
   rw [Zb6 hv]
   unfold Qlb
   rw [hr]
   rfl
 rw [e]
 exact hK
end Go.Proofs.YtclkilljmdkfaaaGreat
namespace Go.Proofs.YtclkilljmdkfaaaGreat
open Go.RowKit
def Qh8 (ps:List Tr):List Tr→Nat→List Tgm
 | [],_=>[]
 | t :: r,i=>Qvo ps i t [] ++ Qh8 ps r (i+1)
theorem Qos (ps:List Tr) (t:Tr):(l:List Tr)→(i:Nat)→Qh8 ps (l ++ [t]) i=Qh8 ps l i ++ Qvo ps (i+l.length) t []
 | [],i=>by simp [Qh8]
 | a :: r,i=>by
  have h:=Qos ps t r (i+1)
  rw [xV,Qh8,h,Qh8,xT,show i+1+r.length=i+(a :: r).length from by simp;omega]
theorem Qx7 {ps l:List Tr} {k:Nat} {t:Tr} (h:l[k]? = some t):Qh8 ps (l.take (k+1)) 0=Qh8 ps (l.take k) 0 ++ Qvo ps k t []:=by
 have hk:k<l.length:=(xP.1 h).1
 rw [List.take_add_one,h,Option.toList_some,Qos,List.length_take,Nat.min_eq_left (Nat.le_of_lt hk),Nat.zero_add]
theorem Zgc (ps:List Tr) (m:Nat) (t:Tr) (p:List Int):(Qvo ps m t p).length≤Qah t:=by unfold Qvo;rw [List.length_map];exact Qvm ps m t p
theorem Qnj (ps:List Tr):(l:List Tr)→(i:Nat)→(Qh8 ps l i).length≤Qam l
 | [],_=>by rw [Qh8,Qam];simp
 | t :: r,i=>by
  rw [Qh8,xB,Qam]
  have h1:=Zgc ps i t []
  have h2:=Qnj ps r (i+1)
  omega
def Qjb (ps:List Tr):List Tgm:=if Qc1 ps=true then Qh8 ps ps 0 else []
theorem Zcb (ps:List Tr):(Qjb ps).length≤Qam ps:=by
 unfold Qjb
 split
 ·exact Qnj ps ps 0
 ·simp
end Go.Proofs.YtclkilljmdkfaaaGreat
namespace Go.Proofs.YtclkilljmdkfaaaGreat
open Go.RowKit Go.Shelf
theorem Qqe (f:Tr→Tr) (hf:∀ t,(f t).text=t.text):(l:List Tr)→(x:ByteArray)→Qp2 (l.map f) x=Qp2 l x
 | [],_=>rfl
 | t :: r,x=>by rw [List.map_cons,Qp2,Qp2,hf,Qqe f hf r x]
theorem Zcc (t:Tr):(Qh4 t).text=t.text:=rfl
theorem Zcd (t:Tr):(Qqp t).text=t.text:=rfl
theorem Qip (t:Tr):(Qqp t).kids=t.kids.map Qh4:=rfl
theorem Qot (ps:List Tr) (i:Nat) (x:ByteArray):Qfh (Qh5 ps) i x=Qfh ps i x:=by
 unfold Qfh
 rw [Qqa]
 cases ps[i]? with
 | none=>rfl
 | some t=>rw [Option.map_some,Option.getD_some,Option.getD_some,Qip,Qqe Qh4 Zcc,List.length_map]
theorem Qr8 (ps:List Tr) (m:Nat) (s:ByteArray):Qby (Qh5 ps) m s=Qby ps m s:=by
 unfold Qby
 rw [Qot,Qot]
 unfold Qh5
 rw [Qqe Qqp Zcd,List.length_map]
def Qqf (k:Tr):Prop:=(k.kind=2∨k.kind=3)∧Qaz k=true∧Qah k≤1000
theorem Qvr {ps:List Tr} (hz:∀ t∈ps,Qah t≤1000) (hg:Qc1 ps=true) {m d:Nat} {t k:Tr} (ht:ps[m]? = some t) (hk:t.kids[d]? = some k):Qqf k:=by
 obtain ⟨q1,q2⟩:=Qgf hg ht
 have hzt:=hz t (yA ht)
 rw [←Qcw _ t (xA _) hzt] at q2
 obtain ⟨r1,r2⟩:=(Qgp q2).2.2 d k hk
 refine ⟨?_,r2,by have:=Qbb hk;omega⟩
 rw [q1] at r1
 have e:Qgq 1 t.kids.length d k.kind=(k.kind==2 || k.kind==3):=rfl
 rw [e] at r1
 simpa using r1
def Qei (k:Tr):Tr:=Qb2 ((k.kids[0]?).getD Qiw)
theorem Qqg {k:Tr} (h:Qqf k) (h3:k.kind=3):∃ a,k.kids = [a]∧Qei k=Qb2 a∧((Qb2 a).kind=5∨(Qb2 a).kind=6∨(Qb2 a).kind=7∨(Qb2 a).kind=9)∧(Qb2 a).kids = []∧((Qb2 a).kind≠9→(Qb2 a).text=⟨#[]⟩)∧Qaz (Qb2 a)=true∧Qaz a=true∧(5≤a.kind∧a.kind≤9):=by
 obtain ⟨a,h1,h2,h4⟩:=Qna h.2.1 h3
 obtain ⟨c1,c2,c3,c4⟩:=Qhl _ a (xA _) h4 h2
 exact ⟨a,h1,by unfold Qei;rw [h1];rfl,c1,c2,c3,c4,h4,h2⟩
def Zjl (ps:List Tr) (m:Nat) (k:Tr) (p:List Int):List Tgt:=if k.kind=3∧(Qei k).kind=9 then [(p ++ [0],(Qby ps m (Qei k).text).1,(Qby ps m (Qei k).text).2.1,!(Qby ps m (Qei k).text).2.2)] else []
theorem Qnk (q:List Tr) (m:Nat) (t:Tr) (p:List Int) (h:t.kids = []):Zd6 q m t p=Zb7 q m t p:=by rw [Qni,h,Qnh,List.append_nil]
theorem Qnl {q:List Tr} {m:Nat} {t:Tr} {p:List Int} (h:¬ (t.kind=16∨t.kind=9)):Zb7 q m t p = []:=by unfold Zb7;rw [xN h]
theorem Zce (ps:List Tr) (m:Nat) (k:Tr) (p:List Int) (h:Qqf k):Zd6 (Qh5 ps) m (Qh4 k) p=Zjl ps m k p:=by
 have e0:(Qh4 k).kind=k.kind:=rfl
 rw [Qni,Qnl (by rw [e0];have:=h.1;omega),xU]
 unfold Zjl
 by_cases h3:k.kind=3
 ·obtain ⟨a,h1,h2,c1,c2,_⟩:=Qqg h h3
  have e1:(Qh4 k).kids = [Qei k]:=by unfold Qh4 Qei;rw [xO h3];rfl
  rw [e1,Qnh,Qnh,List.append_nil,Qnk _ _ _ _ (by rw [h2];exact c2)]
  unfold Zb7
  by_cases h9:(Qei k).kind=9
  ·rw [xO (.inr h9),xO ⟨h3,h9⟩,Qr8]
   rfl
  ·rw [xN (by rw [h2] at h9 ⊢;omega),xN (fun h=>h9 h.2)]
 ·have e1:(Qh4 k).kids = [Qbu 5,Qbu 15]:=by unfold Qh4;rw [xN h3];rfl
  rw [e1,Qnh,Qnh,Qnh,Qnk _ _ _ _ rfl,Qnk _ _ _ _ rfl,Qnl (by decide),Qnl (by decide),xN (fun h=>h3 h.1)]
  rfl
theorem Qiq (ps:List Tr) (m:Nat) (z:Tgt):(l:List Tr)→(n:Nat)→(∀ k∈l,Qqf k)→(z∈Qnh (Qh5 ps) m (l.map Qh4) n [] ↔ ∃ (d:Nat) (k:Tr),l[d]? = some k∧z∈Zjl ps m k [((n+d:Nat):Int)])
 | [],n,_=>by rw [List.map_nil,Qnh];simp
 | a :: r,n,h=>by
  rw [List.map_cons,Qnh,List.mem_append,xU,Zce ps m a _ (h a (by simp)),Qiq ps m z r (n+1) fun k hk=>h k (by simp [hk])]
  constructor
  ·rintro (h1|⟨d,k,h1,h2⟩)
   ·exact ⟨0,a,rfl,h1⟩
   ·exact ⟨d+1,k,by simpa using h1,by rw [show n+(d+1)=n+1+d from by omega];exact h2⟩
  ·rintro ⟨d,k,h1,h2⟩
   match d,h1,h2 with
   | 0,h1,h2 =>
    injection h1 with h1
    subst h1
    exact .inl h2
   | d+1,h1,h2=>exact .inr ⟨d,k,by simpa using h1,by rw [show n+1+d=n+(d+1) from by omega];exact h2⟩
theorem Qks (q:List Tr) (z:Tgm):(l:List Tr)→(i:Nat)→(z∈Qh8 q l i ↔ ∃ (m:Nat) (t:Tr),l[m]? = some t∧z∈Qvo q (i+m) t [])
 | [],i=>by rw [Qh8];simp
 | a :: r,i=>by
  rw [Qh8,List.mem_append,Qks q z r (i+1)]
  constructor
  ·rintro (h1|⟨m,t,h1,h2⟩)
   ·exact ⟨0,a,rfl,h1⟩
   ·exact ⟨m+1,t,by simpa using h1,by rw [show i+(m+1)=i+1+m from by omega];exact h2⟩
  ·rintro ⟨m,t,h1,h2⟩
   match m,h1,h2 with
   | 0,h1,h2 =>
    injection h1 with h1
    subst h1
    exact .inl h2
   | m+1,h1,h2=>exact .inr ⟨m,t,by simpa using h1,by rw [show i+1+m=i+(m+1) from by omega];exact h2⟩
theorem Qvs {ps:List Tr} (hz:∀ t∈ps,Qah t≤1000) (hg:Qc1 ps=true) (hq:Qc1 (Qh5 ps)=true) (z:Tgm):z∈Qjb (Qh5 ps) ↔ ∃ (m d:Nat) (t k:Tr),ps[m]? = some t∧t.kids[d]? = some k∧z.1=(m:Int)∧z.2∈Zjl ps m k [(d:Int)]:=by
 unfold Qjb
 rw [xO hq,Qks]
 constructor
 ·rintro ⟨m,t',h1,h2⟩
  rw [Qqa] at h1
  obtain ⟨t,ht,rfl⟩:=Option.map_eq_some_iff.1 h1
  rw [Nat.zero_add] at h2
  unfold Qvo at h2
  obtain ⟨x,hx,rfl⟩:=List.mem_map.1 h2
  have e0:(Qqp t).kind=t.kind:=rfl
  rw [Qni,Qnl (by rw [e0,(Qgf hg ht).1];decide),xU,Qip,Qiq ps m x t.kids 0 (fun k hk=>by obtain ⟨d,hd,he⟩:=List.getElem_of_mem hk;exact Qvr hz hg ht (d:=d) (by rw [xF hd,he]))] at hx
  obtain ⟨d,k,q1,q2⟩:=hx
  rw [Nat.zero_add] at q2
  exact ⟨m,d,t,k,ht,q1,rfl,q2⟩
 ·rintro ⟨m,d,t,k,ht,hk,h1,h2⟩
  refine ⟨m,Qqp t,by rw [Qqa,ht];rfl,?_⟩
  rw [Nat.zero_add]
  unfold Qvo
  refine List.mem_map.2 ⟨z.2,?_,by rw [←h1]⟩
  have e0:(Qqp t).kind=t.kind:=rfl
  rw [Qni,Qnl (by rw [e0,(Qgf hg ht).1];decide),xU,Qip,Qiq ps m z.2 t.kids 0 (fun k hk=>by obtain ⟨d,hd,he⟩:=List.getElem_of_mem hk;exact Qvr hz hg ht (d:=d) (by rw [xF hd,he]))]
  exact ⟨d,k,hk,by rw [Nat.zero_add];exact h2⟩
def Zd7 (z:Tgm):Pr:=(z.1,z.2.1.headD 0)
def Qi3 (f:Pr→Option Pr) (zs:List Tgm):Pr→Option Pr:=zs.foldl (fun f z=>if z.2.2.2.2=true then f else Qvk f (Zd7 z) (z.2.2.1,z.2.2.2.1)) f
def Qle (zs:List Tgm):Pr→Option Pr:=Qi3 (fun _=>none) zs
theorem Qou {zs:List Tgm} {j:Nat} {z:Tgm} (h:zs[j]? = some z):Qle (zs.take (j+1))=if z.2.2.2.2=true then Qle (zs.take j) else Qvk (Qle (zs.take j)) (Zd7 z) (z.2.2.1,z.2.2.2.1):=by
 unfold Qle Qi3
 rw [List.take_add_one,h,Option.toList_some,List.foldl_append]
 rfl
theorem Qr9 (a:Pr):(zs:List Tgm)→(f:Pr→Option Pr)→f a=none→(∀ z∈zs,z.2.2.2.2=false→Zd7 z≠a)→Qi3 f zs a=none
 | [],f,hf,_=>hf
 | z :: r,f,hf,h=>by
  show Qi3 (if z.2.2.2.2=true then f else Qvk f (Zd7 z) (z.2.2.1,z.2.2.2.1)) r a=none
  refine Qr9 a r _ ?_ fun y hy=>h y (by simp [hy])
  split
  ·exact hf
  ·rename_i hz
   unfold Qvk
   rw [xN (fun e=>h z (by simp) (by simpa using hz) e.symm)]
   exact hf
theorem Qsa (a v:Pr):(zs:List Tgm)→(f:Pr→Option Pr)→(∀ z∈zs,z.2.2.2.2=false→Zd7 z=a→(z.2.2.1,z.2.2.2.1)=v)→(f a=some v∨∃ z∈zs,z.2.2.2.2=false∧Zd7 z=a)→Qi3 f zs a=some v
 | [],f,_,h=>by
  rcases h with h|⟨z,hz,_⟩
  ·exact h
  ·simp at hz
 | z :: r,f,hu,h=>by
  show Qi3 (if z.2.2.2.2=true then f else Qvk f (Zd7 z) (z.2.2.1,z.2.2.2.1)) r a=some v
  refine Qsa a v r _ (fun y hy=>hu y (by simp [hy])) ?_
  by_cases hz:z.2.2.2.2=true
  ·rw [xO hz]
   rcases h with h|⟨y,hy,h1,h2⟩
   ·exact .inl h
   ·rcases List.mem_cons.1 hy with rfl | hy
    ·rw [hz] at h1;cases h1
    ·exact .inr ⟨y,hy,h1,h2⟩
  ·rw [xN hz]
   have hz':z.2.2.2.2=false:=by simpa using hz
   by_cases hk:Zd7 z=a
   ·refine .inl ?_
    unfold Qvk
    rw [xO hk.symm,hu z (by simp) hz' hk]
   ·rcases h with h|⟨y,hy,h1,h2⟩
    ·refine .inl ?_
     unfold Qvk
     rw [xN (fun e=>hk e.symm)]
     exact h
    ·rcases List.mem_cons.1 hy with rfl | hy
     ·exact absurd h2 hk
     ·exact .inr ⟨y,hy,h1,h2⟩
def Qfy (ps:List Tr) (a:Pr):Option Pr :=
 if 0≤a.1∧0≤a.2∧(Qnb ps a.1.toNat a.2.toNat).kind=3∧(Qei (Qnb ps a.1.toNat a.2.toNat)).kind=9∧(Qby ps a.1.toNat (Qei (Qnb ps a.1.toNat a.2.toNat)).text).2.2=true
 then some ((Qby ps a.1.toNat (Qei (Qnb ps a.1.toNat a.2.toNat)).text).1,(Qby ps a.1.toNat (Qei (Qnb ps a.1.toNat a.2.toNat)).text).2.1) else none
theorem Qqh {ps:List Tr} {m d:Nat} {t k:Tr} (ht:ps[m]? = some t) (hk:t.kids[d]? = some k):Qnb ps m d=k:=by unfold Qnb;rw [ht,Option.getD_some,hk,Option.getD_some]
theorem Zcf {ps:List Tr} {m d:Nat} (h:(Qnb ps m d).kind=3):∃ t k,ps[m]? = some t∧t.kids[d]? = some k∧Qnb ps m d=k:=by
 unfold Qnb at h ⊢
 cases ht:ps[m]? with
 | none=>rw [ht] at h;exact absurd h (by simp [Qiw,Tr.kids,Tr.kind])
 | some t =>
  rw [ht,Option.getD_some] at h
  rw [Option.getD_some]
  cases hk:t.kids[d]? with
  | none=>rw [hk] at h;exact absurd h (by simp [Qiw,Tr.kind])
  | some k=>exact ⟨t,k,rfl,hk,rfl⟩
theorem Qvt {ps:List Tr} (hz:∀ t∈ps,Qah t≤1000) (hg:Qc1 ps=true) (hq:Qc1 (Qh5 ps)=true):Qle (Qjb (Qh5 ps))=Qfy ps:=by
 funext a
 have hm:=Qvs hz hg hq
 have hz2:∀ z∈Qjb (Qh5 ps),∃ (m d:Nat) (t k:Tr),ps[m]? = some t∧t.kids[d]? = some k∧k.kind=3∧(Qei k).kind=9∧Zd7 z=((m:Int),(d:Int))∧z.2.2=((Qby ps m (Qei k).text).1,(Qby ps m (Qei k).text).2.1,!(Qby ps m (Qei k).text).2.2):=fun z h=>by
  obtain ⟨m,d,t,k,ht,hk,h1,h2⟩:=(hm z).1 h
  unfold Zjl at h2
  split at h2
  ·rename_i hh
   rw [List.mem_singleton] at h2
   refine ⟨m,d,t,k,ht,hk,hh.1,hh.2,?_,by rw [h2]⟩
   unfold Zd7
   rw [h1,h2]
   rfl
  ·simp at h2
 unfold Qfy
 split
 ·rename_i hc
  obtain ⟨c1,c2,c3,c4,c5⟩:=hc
  obtain ⟨t,k,ht,hk,hd⟩:=Zcf c3
  rw [hd] at c3 c4 c5 ⊢
  have ea:a=(((a.1.toNat:Nat):Int),((a.2.toNat:Nat):Int)):=by
   obtain ⟨x,y⟩:=a
   simp only at c1 c2 ⊢
   rw [Int.toNat_of_nonneg c1,Int.toNat_of_nonneg c2]
  refine Qsa a _ _ _ (fun z hzz hf hke=>?_) (.inr ?_)
  ·obtain ⟨m',d',t',k',ht',hk',_,_,q1,q2⟩:=hz2 z hzz
   rw [q1] at hke
   rw [ea] at hke
   injection hke with e1 e2
   have e1:m'=a.1.toNat:=by omega
   have e2:d'=a.2.toNat:=by omega
   subst e1 e2
   rw [ht] at ht'
   injection ht' with ht'
   subst ht'
   rw [hk] at hk'
   injection hk' with hk'
   subst hk'
   rw [q2]
  ·refine ⟨(((a.1.toNat:Nat):Int),[((a.2.toNat:Nat):Int)] ++ [0],(Qby ps a.1.toNat (Qei k).text).1,(Qby ps a.1.toNat (Qei k).text).2.1,!(Qby ps a.1.toNat (Qei k).text).2.2),(hm _).2 ⟨a.1.toNat,a.2.toNat,t,k,ht,hk,rfl,?_⟩,?_,?_⟩
   ·unfold Zjl
    rw [xO ⟨c3,c4⟩]
    exact List.mem_singleton.2 rfl
   ·show (!(Qby ps a.1.toNat (Qei k).text).2.2)=false
    rw [c5];rfl
   ·rw [ea];rfl
 ·rename_i hc
  refine Qr9 a _ _ rfl fun z hzz hf hke=>hc ?_
  obtain ⟨m,d,t,k,ht,hk,q3,q9,q1,q2⟩:=hz2 z hzz
  rw [q1] at hke
  subst hke
  simp only [Int.toNat_natCast]
  rw [Qqh ht hk]
  refine ⟨by omega,by omega,q3,q9,?_⟩
  rw [q2] at hf
  simpa using hf
theorem Zcg {ps:List Tr} {m d:Nat} (h3:(Qnb ps m d).kind=3) (h9:(Qei (Qnb ps m d)).kind=9):((Qlb (Qfy ps) ((m:Int),(d:Int))).1,(Qlb (Qfy ps) ((m:Int),(d:Int))).2,(Qfy ps ((m:Int),(d:Int))).isSome)=Qby ps m (Qei (Qnb ps m d)).text:=by
 unfold Qlb Qfy
 simp only [Int.toNat_natCast]
 cases hf:(Qby ps m (Qei (Qnb ps m d)).text).2.2 with
 | true =>
  rw [xO ⟨by omega,by omega,h3,h9,rfl⟩,Option.getD_some,Option.isSome_some]
  rw [←hf]
 | false =>
  rw [xN (fun h=>by cases h.2.2.2.2),Option.getD_none,Option.isSome_none,Zby hf]
end Go.Proofs.YtclkilljmdkfaaaGreat
namespace Go.Proofs.YtclkilljmdkfaaaGreat
open Go.RowKit
theorem Qvu:(i:Nat)→(l:List UInt8)→(Qc4 i l).kind=6∨(Qc4 i l).kind=0
 | _,[]=>.inr rfl
 | i,c :: r=>by
  rw [Qc4]
  split
  ·exact .inl rfl
  ·split
   ·exact .inr rfl
   ·split
    ·exact Qvu (i+1) r
    ·exact .inr rfl
theorem Qow {l:List UInt8} (h1:1≤Qap l) (h4:Qap l≤4):(Qdo l).kind=Qap l∧(Qdo l).n=l.length:=by
 by_cases h0:l = []
 ·unfold Qap at h1
  rw [xO h0] at h1
  omega
 ·by_cases hb:(Qbe l).e≠0∨(Qbe l).n≠l.length
  ·unfold Qap at h1
   rw [xN h0,xO hb] at h1
   omega
  ·have hk:Qap l=(Qbe l).kind:=by unfold Qap;rw [xN h0,xN hb]
   have hn:(Qbe l).n=l.length:=by omega
   rw [hk] at h1 h4 ⊢
   have hw:Qbe l=Qdo l:=by
    unfold Qbe at h1 h4 ⊢
    by_cases a1:Qaq (at' l 0)=false
    ·rw [xO a1] at h1
     exact absurd h1 (by decide)
    ·rw [xN a1] at h1 h4 ⊢
     by_cases a2:Qaw (at' l 0)=true
     ·rw [xO a2]
     ·exfalso
      rw [xN a2] at h1 h4
      by_cases a3:Qb4 (at' l 0)=true
      ·rw [xO a3] at h1 h4
       unfold Qjc at h1 h4
       split at h1
       ·exact absurd h1 (by decide)
       ·rename_i b1
        rw [xN b1] at h4
        split at h1
        ·exact absurd h1 (by decide)
        ·rename_i b2
         rw [xN b2] at h4
         exact absurd h4 (by show ¬ 5≤4;decide)
      ·rw [xN a3] at h1 h4
       by_cases a4:at' l 0=34
       ·rw [xO a4] at h1 h4
        have:=Qvu 1 (l.drop 1)
        omega
       ·rw [xN a4] at h1 h4
        unfold Qea at h1 h4
        split at h1
        ·exact absurd h1 (by decide)
        ·rename_i b1
         rw [xN b1] at h4
         exact absurd h4 (by show ¬ 8≤4;decide)
   rw [←hw]
   exact ⟨rfl,hn⟩
theorem Zjm {c:UInt8} (h:c.toNat=46):c=46:=UInt8.toNat_inj.1 h
theorem Zcm {c:UInt8} (h:Qg6 c.toNat=true):c≠46:=fun e=>by
 subst e
 exact absurd h (by decide)
theorem Zcn:(l:List UInt8)→at' l (Qac l)=46→Qqo l=Qac l
 | [],h=>by exact absurd h (by decide)
 | c :: r,h=>by
  unfold Qac Qdz at h ⊢
  by_cases hw:Qg6 c.toNat=true
  ·rw [xO hw] at h ⊢
   rw [Qqo,xN (Zcm hw),Zcn r h]
   rfl
  ·rw [xN hw] at h ⊢
   rw [Qqo,xO (Zjm (show c.toNat=46 from h))]
theorem Qvv:(l:List UInt8)→Qac l=l.length→Qqo l=l.length
 | [],_=>rfl
 | c :: r,h=>by
  unfold Qac Qdz at h
  by_cases hw:Qg6 c.toNat=true
  ·rw [xO hw] at h
   rw [Qqo,xN (Zcm hw),Qvv r (by unfold Qac;simpa using h),xD]
  ·rw [xN hw] at h
   simp at h
theorem Zco {l:List UInt8} (h1:1≤Qap l) (h4:Qap l≤4) (hd:Qqo l<l.length):(Qap l=4∧Qbs (at' l (Qqo l+1))=true)∨(Qap l=3∧Qbs (at' l (Qqo l+1))=false):=by
 obtain ⟨hk,hn⟩:=Qow h1 h4
 rw [←hk] at h1 h4 ⊢
 unfold Qdo at h1 h4 hn ⊢
 by_cases a1:Qc8 l=true
 ·rw [xO a1] at h1 h4 hn ⊢
  have hg:Qqo l=Qac l:=Zcn l (by unfold Qc8 at a1;simp at a1;exact a1.1.2)
  rw [hg]
  unfold Qc9 at h1 h4 hn ⊢
  split at h1
  ·exact absurd h1 (by decide)
  ·rename_i b1
   rw [xN b1]
   split at h1
   ·exact absurd h1 (by decide)
   ·rename_i b2
    rw [xN b2]
    by_cases b3:Qbs (at' l (Qac l+1))=true
    ·rw [xO b3]
     exact .inl ⟨rfl,b3⟩
    ·rw [xN b3]
     exact .inr ⟨rfl,by simpa using b3⟩
 ·exfalso
  rw [xN a1] at h1 h4 hn
  unfold Qdv at h1 h4 hn
  split at h1
  ·exact absurd h1 (by decide)
  ·rename_i b1
   rw [xN b1] at hn
   have hw:Qac l=l.length:=by
    split at hn
    ·exact hn
    ·split at hn
     ·exact hn
     ·exact hn
   rw [Qvv l hw] at hd
   omega
theorem Qud {l:List UInt8} (h:Qap l=1∨Qap l=2):Qbs (at' l 0)=decide (Qap l=2):=by
 obtain ⟨hk,_⟩:=Qow (l:=l) (by omega) (by omega)
 rw [←hk] at h ⊢
 unfold Qdo at h ⊢
 by_cases a1:Qc8 l=true
 ·exfalso
  rw [xO a1] at h
  unfold Qc9 at h
  split at h
  ·exact absurd h (by decide)
  ·split at h
   ·exact absurd h (by decide)
   ·split at h
    ·exact absurd h (by show ¬ (4=1∨4=2);decide)
    ·exact absurd h (by show ¬ (3=1∨3=2);decide)
 ·rw [xN a1] at h ⊢
  unfold Qdv at h ⊢
  split at h
  ·exact absurd h (by decide)
  ·rename_i b1
   rw [xN b1]
   split at h
   ·exact absurd h (by show ¬ (7=1∨7=2);decide)
   ·rename_i b2
    rw [xN b2]
    by_cases b3:Qbs (at' l 0)=true
    ·rw [xO b3,b3]
     rfl
    ·rw [xN b3,show Qbs (at' l 0)=false from by simpa using b3]
     rfl
theorem Zcp {x:ByteArray} (h:Qa6 (Qae 16) x=true):Qap (bl x)=1∨Qap (bl x)=3:=by
 have e:Qa6 (Qae 16) x=Qbq 4 (Qap (bl x)) x:=rfl
 rw [e] at h
 have e2:Qbq 4 (Qap (bl x)) x=((Qap (bl x):Int)==1 || (Qap (bl x):Int)==3):=rfl
 rw [e2] at h
 simp at h
 omega
theorem Qx9 {x:ByteArray} (h:Qa6 (Qae 9) x=true):Qap (bl x)=2∨Qap (bl x)=4:=by
 have e:Qa6 (Qae 9) x=Qbq 3 (Qap (bl x)) x:=rfl
 rw [e] at h
 have e2:Qbq 3 (Qap (bl x)) x=((Qap (bl x):Int)==2 || (Qap (bl x):Int)==4):=rfl
 rw [e2] at h
 simp at h
 omega
theorem Zcq {x:ByteArray} (h:Qa6 (Qae 2) x=true):Qap (bl x)=1:=by
 have e:Qa6 (Qae 2) x=Qbq 2 (Qap (bl x)) x:=rfl
 rw [e] at h
 have e2:Qbq 2 (Qap (bl x)) x=((Qap (bl x):Int)==1):=rfl
 rw [e2] at h
 simp at h
 omega
theorem Qya {x:ByteArray} (h:Qa6 (Qae 3) x=true):Qap (bl x)=2:=by
 have e:Qa6 (Qae 3) x=Qbq 1 (Qap (bl x)) x:=rfl
 rw [e] at h
 have e2:Qbq 1 (Qap (bl x)) x=((Qap (bl x):Int)==2):=rfl
 rw [e2] at h
 simp at h
 omega
theorem Que (l:List UInt8) (a:Nat):at' (l.drop a) 0=at' l a:=by
 unfold at'
 rw [List.getD_eq_getElem?_getD,List.getD_eq_getElem?_getD,List.getElem?_drop,Nat.add_zero]
theorem Zjn (s:ByteArray) (a:Nat):bl (s.extract a s.size)=(bl s).drop a:=by
 unfold bl
 rw [Qg8,Qev,Nat.zero_add]
end Go.Proofs.YtclkilljmdkfaaaGreat
