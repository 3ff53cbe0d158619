/- Part 19 -/
import Derived.Test.YtfjpemdejoejbaaGreatSg18
import Derived.RangeFuncNested
import Derived.RangeFuncBound
import Derived.RangeFuncCalls
import Derived.RangeFuncLeaves
import Derived.RangeFuncBox
import Derived.Shelf.Abstract
import Derived.OwnWalkIn
import Derived.TacticsInMore
import Derived.LoopNIn
import Derived.LoopIn
set_option maxRecDepth 100000
set_option maxHeartbeats 4000000
namespace Go.Proofs.YtfjpemdejoejbaaGreat
open Go.RowKit
abbrev Bnd:=ByteArray × List Int
def Qej:List Tr→Nat→List Bnd
 | _,0=>[]
 | ks,n+1=>((((ks[n]?).getD Qlq).text,[(n:Int)])) :: Qej ks n
def Qek (ks:List Tr):List Bnd:=Qej ks (ks.length-2)
def Qct (k:Int) (x:ByteArray) (ks:List Tr) (p:List Int) (i:Int):List Bnd :=
 if k=20∧i=1 then [(x,p)] else if k=2∧i=(ks.length:Int)-1 then Qek ks else []
def Qdo (st:List Bnd) (x:ByteArray):Option (List Int):=((st.reverse.find? fun b=>decide (b.1=x))).map (·.2)
abbrev Vrb:=List Int × Option (List Int)
mutual
def Qi8:Tr→List Int→List Bnd→List Vrb
 | .mk k x _ ks,p,st=>if k=12 then [(p,Qdo st x)] else Qg3 k x ks ks 0 p st
def Qg3:Int→ByteArray→List Tr→List Tr→Nat→List Int→List Bnd→List Vrb
 | _,_,_,[],_,_,_=>[]
 | k,x,ks,a :: r,i,p,st=>Qi8 a (p ++ [(i:Int)]) (st ++ Qct k x ks p i) ++ Qg3 k x ks r (i+1) p st
end
def Qbt:Tr→List Int→List Int→List Bnd→List Bnd
 | _,_,[],st=>st
 | t,p,z :: r,st=>Qbt (Qep t z) (p ++ [z]) r (st ++ Qct t.kind t.text t.kids p z)
theorem Qo9 (t:Tr) (p:List Int) (st:List Bnd):Qi8 t p st=if t.kind=12 then [(p,Qdo st t.text)] else Qg3 t.kind t.text t.kids t.kids 0 p st:=by
 cases t with
 | mk k x ls ks=>rw [Qi8];rfl
theorem Qn2 (k:Int) (x:ByteArray) (ks:List Tr) (a:Tr) (p:List Int) (st:List Bnd):(l:List Tr)→(i:Nat)→Qg3 k x ks (l ++ [a]) i p st=Qg3 k x ks l i p st ++ Qi8 a (p ++ [((i+l.length:Nat):Int)]) (st ++ Qct k x ks p ((i+l.length:Nat):Int))
 | [],i=>by rw [xU,Qg3,Qg3,Qg3,List.append_nil,xU];rfl
 | b :: r,i=>by
  rw [xV,Qg3,Qg3,Qn2 k x ks a p st r (i+1),xT,xD,show i+1+r.length=i+(r.length+1) from by omega]
theorem Qjo (ks:List Tr):(n:Nat)→(Qej ks n).length=n
 | 0=>by rw [Qej];rfl
 | n+1=>by rw [Qej,xD,Qjo ks n]
theorem Qwj (k:Int) (x:ByteArray) (ks:List Tr) (p:List Int) (i:Int):(Qct k x ks p i).length≤ks.length+1:=by
 unfold Qct
 split
 ·simp
 ·split
  ·unfold Qek;rw [Qjo];omega
  ·simp
mutual
theorem Qqj:(t:Tr)→(p:List Int)→(st:List Bnd)→(Qi8 t p st).length≤Qak t
 | .mk k x _ ks,p,st=>by
  rw [Qi8,Qak];have:=Qmp k x ks ks 0 p st
  split
  ·simp
  ·omega
theorem Qmp:(k:Int)→(x:ByteArray)→(ks l:List Tr)→(i:Nat)→(p:List Int)→(st:List Bnd)→(Qg3 k x ks l i p st).length≤Qaq l
 | _,_,_,[],_,_,_=>by rw [Qg3];exact xZ _
 | k,x,ks,a :: r,i,p,st=>by
  have h1:=Qqj a (p ++ [(i:Int)]) (st ++ Qct k x ks p i);have h2:=Qmp k x ks r (i+1) p st;rw [Qg3,Qaq,xB];omega
end
end Go.Proofs.YtfjpemdejoejbaaGreat
namespace Go.Proofs.YtfjpemdejoejbaaGreat
open Go.RowKit Go.Shelf
attribute [local go_sem] Oper.semAt_some
theorem Qqk:(Tryz.prog.info? 3).map (fun i=>(i.zero,i.size,i.bytes))=some (some (.int .i64 0),1,8):=by kernel_rfl
def IRow (w:World) (B:Nat) (v:Value) (p:List Int):Prop:=w.ownsRow B 3 1 v p.length (p.map (Value.int .i64))
theorem IRow.keep {w w':World} {B:Nat} {v:Value} {p:List Int} (h:IRow w B v p) (hb:Below w.heap.size w w'):IRow w' B v p:=by
 refine ⟨h.1,?_⟩
 rcases h.2 with h0|⟨g,cap,cur,hv,hb',hh,hr⟩
 ·exact .inl h0
 ·exact .inr ⟨g,cap,cur,hv,hb',(hb.block g (Qaa hh)).trans hh,hr⟩
theorem IRow.ints {w:World} {B n c:Nat} {A:Option Addr} {p:List Int} (h:IRow w B (.slice A n c) p):n=p.length∧IntsAt w A p:=by
 rcases h.2 with ⟨hv,h0⟩|⟨g,cap,cur,hv,hb,hh,hnc,hm,hsz,htk⟩
 ·injection hv with e1 e2 e3;exact ⟨by omega,fun hne=>absurd (List.eq_nil_of_length_eq_zero h0) hne⟩
 ·injection hv with e1 e2 e3;refine ⟨e2,fun hne=>⟨g,0,e1,Qaa hh,fun i x hx=>?_⟩⟩;rw [Nat.zero_add,Lib.cell_of_heap hh];have hi:=(xP.1 hx).1;rw [←Array.getElem?_toList];have h1:(p.map (Value.int .i64))[i]? = some (.int .i64 x):=by rw [List.getElem?_map,hx];rfl
  rw [←htk,List.getElem?_take_of_lt (by omega)] at h1;exact h1
theorem Qni (w:World) (d:Nat) (b off l c:Nat):(Op.equalIn (d+1) 35 (.slice (some ⟨b,off,none⟩) l c) (.slice none 0 0)).run Tryz.prog w = .ok false w:=by
 simp [Op.equalIn,run_underlying Tryz.underlying35]
theorem Qql (w:World) (b off l c:Nat):(binOp .eql 35 (.slice (some ⟨b,off,none⟩) l c) (.slice none 0 0)).run Tryz.prog w = .ok (.bool false) w:=by
 have h:(Op.equal 35 (.slice (some ⟨b,off,none⟩) l c) (.slice none 0 0)).run Tryz.prog w = .ok false w:=Qni w 9999 b off l c;simp [binOp,h]
theorem Qkt (A:Option Addr) (c:Nat) (p:List Int) (w:World) (hA:IntsAt w A p) (h0:p≠[]) (hl:p.length≤1000000) :
  Calls Tryz.prog 77 #[.slice A p.length c] w fun e w'=>∃ v,e = .returned v∧IRow w' w.heap.size v p∧Below w.heap.size w w':=by
 obtain ⟨b,off,rfl,hb,hc⟩:=hA h0
 have hpos:0<p.length:=by cases p with
  | nil=>exact absurd rfl h0
  | cons a r=>simp
 obtain ⟨ii,hii,iz0,iz1,iz2⟩:=info_parts Qqk
 have HC:=hQ (show ∀ (j:Nat) (u:Value),(p.map (Value.int .i64))[j]? = some u→(w.alloc (.cells #[] 3)).cell? ((⟨b,off,none⟩:Addr).add j)=some u from fun j u hu=>by
  rw [List.getElem?_map,Option.map_eq_some_iff] at hu;obtain ⟨x,hx,rfl⟩:=hu;have h2:=hc j x hx;rw [Qza];exact (xJ (w:=w) (a:=⟨b,off+j,none⟩) (Below.heap_alloc _ _ b hb)).trans h2)
 have HO:=hQ (show (w.alloc (.cells #[] 3)).ownsRow w.heap.size 3 1 (.slice (some ⟨w.heap.size,0,none⟩) 0 0) 0 [] from ⟨rfl,.inr ⟨w.heap.size,0,#[],rfl,xA _,xH w _,xA _,xZ _,rfl,rfl⟩⟩);have HSZ:=hQ (show w.heap.size≤(w.alloc (.cells #[] 3)).heap.size from by rw [xI];omega);have HB:=hQ ((xC w.heap.size w).alloc (xA _) (.cells #[] 3));have HP:=hQ hpos;have hen:=fun w=>Qql w b off p.length c
 clear hc hb h0 hpos hA
 go_enter Tryz.func77,Tryz.ntmps77
 go_wp2_with (at_builtin;refine wpList_append_lies _ rfl _ _ 35 rfl w.heap.size 3 ii _ 1 8 Tryz.underlying35 hii iz0 iz1 iz2 rfl (by decide) (.slice (some ⟨w.heap.size,0,none⟩) 0 0) 0 [] rfl HO.out ⟨b,off,none⟩ p.length c (p.map (Value.int .i64)) rfl (by simp) HC.out (fun u hu=>by obtain ⟨x,_,rfl⟩:=List.mem_map.1 hu;rfl) HP.out (by unfold maxLen;omega) (by omega) HSZ.out _ rfl ?_;intro g2 c2 w3 hown hgr _ hlt;simp only [Nat.zero_add,xU] at hown ⊢;have HR3:=hQ (show IRow w3 w.heap.size (.slice (some ⟨g2,0,none⟩) p.length c2) p from hown);have HB3:=hQ (HB.out.grown hgr HSZ.out (fun k hk=>by injection hk with hk;subst hk;exact xA _));clear hown hgr hlt)
 go_ret
 exact ⟨_,rfl,HR3.out,HB3.out⟩
def StkC (w:World) (A:Option Addr) (bs:List (ByteArray × Value)):Prop:=bs≠[]→∃ b off,A=some ⟨b,off,none⟩∧b<w.heap.size∧∀ (j:Nat) (x:ByteArray × Value),bs[j]? = some x→w.cell? ⟨b,off+j*2,none⟩=some (.string x.1)∧w.cell? ⟨b,off+j*2+1,none⟩=some x.2
def Qdh (n k:Nat):List (Fin n):=(List.finRange n).reverse.take k
theorem Qle {n k:Nat} (h:k<n):Qdh n (k+1)=Qdh n k ++ [⟨n-1-k,by omega⟩]:=by
 unfold Qdh;rw [List.take_add_one]
 congr 1
 rw [List.getElem?_reverse (by simpa using h),xF (by simp;omega),List.getElem_finRange];simp
theorem Qso {n k:Nat} (h:k≤n):(Qdh n k).length=k:=by unfold Qdh;rw [List.length_take,List.length_reverse,List.length_finRange];omega
theorem Qlf (n:Nat):Qdh n 0 = []:=by unfold Qdh;rw [List.take_zero]
def Zhi (bs:List (ByteArray × Value)) (j:Fin bs.length):Array Value:=#[.int .i64 ((j.val:Nat):Int),.agg #[.string (bs[j.val]'j.isLt).1,(bs[j.val]'j.isLt).2]]
theorem Zc3 (F:Fence) (n:Nat) (hF:F.fn 146) (hro:F.round=none) (hn:1≤n) (l Bs n₀ b off cap:Nat) (bs:List (ByteArray × Value)) (hl:bs.length≤1000000) (hb:b<n₀) (hBn:Bs<n₀) (J Jx:List (Fin bs.length)→World→Prop)
  (hY:∀ pre x W,J pre W→pre.length<bs.length→YieldAt F (n-1) Tryz.prog l (Zhi bs x) W fun e W' =>
   (e = .returned (.bool true)∧J (pre ++ [x]) W'∧Below n₀ W W')∨(e = .returned (.bool false)∧Jx (pre ++ [x]) W'))
  (W:World) (hBs:W.cell? ⟨Bs,0,none⟩=some (.slice (some ⟨b,off,none⟩) bs.length cap)) (hc:∀ (j:Nat) (x:ByteArray × Value),bs[j]? = some x→W.cell? ⟨b,off+j*2,none⟩=some (.string x.1)∧W.cell? ⟨b,off+j*2+1,none⟩=some x.2) (h0:J [] W) :
  CallsIn F n Tryz.prog 146 #[.func (.yield l) #[] #[],.pointer (some ⟨Bs,0,none⟩)] W fun e W'=>(∃ v,e = .returned v) ∧
   ((∃ ys,ys=Qdh bs.length bs.length∧J ys W')∨(∃ pre,(∃ k,k≤bs.length∧pre=Qdh bs.length k)∧Jx pre W')):=by
 refine callsIn_of_wp Tryz.func146 rfl hF ?_ hro;simp only [Tryz.ntmps146,List.size_toArray,xD,xG,Nat.reduceAdd,Nat.reduceSub,Array.replicate_succ,Array.replicate_zero,List.push_toArray,List.append_toArray,xU,xV];have hlz:(bs.length:Int)≤1000000:=by omega
 gi_wp2
 gi_loopw [3] (fun i wr=>∃ k:Nat,k≤bs.length∧i = .int .i64 ((bs.length:Int)-1-(k:Int))∧J (Qdh bs.length k) wr∧Below n₀ W wr)
  (fun i _=>(intOf i+1).toNat)
 case atStart=>exact ⟨0,xZ _,by simp,by rw [Qlf];exact h0,xC _ _⟩
 case round =>
  obtain ⟨k,hk,rfl,hJs,hnx⟩:=hrel;have hBx:=(hnx.cell (p:=⟨Bs,0,none⟩) hBn).trans hBs
  by_cases hlt:k<bs.length
  ·obtain ⟨m,hm⟩:∃ m,m=bs.length-1-k:=⟨_,rfl⟩;have hmi:(bs.length:Int)-1-(k:Int)=(m:Int):=by omega
   have hml:m<bs.length:=by omega
   obtain ⟨fn,tmps,assign,body,hy,hR⟩:=hY _ ⟨m,hml⟩ wr hJs (by rw [Qso hk];exact hlt);have hx:bs[m]? = some (bs[m]'hml):=xF hml;have c0:=(hnx.cell (p:=⟨b,off+m*2,none⟩) hb).trans (hc m _ hx).1;have c1:=(hnx.cell (p:=⟨b,off+m*2+1,none⟩) hb).trans (hc m _ hx).2;have hm0:(0:Int)≤(m:Int):=by omega
   have hm1:(m:Int)<(bs.length:Int):=by omega
   have d0:decide ((0:Int)≤(m:Int))=true:=xS hm0;have HE:=hQ (show Qdh bs.length (k+1)=Qdh bs.length k ++ [⟨m,hml⟩] from by rw [Qle hlt];subst hm;rfl);have HM:=hQ hmi;unfold Zhi at hy
   dsimp only at hy
   rw [hmi];clear hmi hm hx
   gi_wp2
   refine hR.mono ?_
   rintro e W3 (⟨rfl,hJ3,hk3⟩|⟨rfl,hJx3⟩)
   ·gi_wp2
    go_roundw
    case rel=>exact ⟨k+1,by omega,by have:=HM.out;first | (simp;done) | (simp;omega),by rw [HE.out];exact hJ3,hnx.trans hk3⟩
    case measure=>have:=HM.out;first | (simp [intOf];done) | (simp [intOf];omega)
   ·gi_wp2
    refine bodyPost_ret (results_none rfl _ _ _) rfl ?_;exact ⟨⟨_,rfl⟩,.inr ⟨_,⟨k+1,by omega,HE.out.symm⟩,hJx3⟩⟩
  ·obtain rfl:k=bs.length:=by omega
   have hmi:(bs.length:Int)-1-(bs.length:Int) = -1:=by omega
   rw [hmi]
   gi_wp2
   go_end0
   exact ⟨⟨_,rfl⟩,.inl ⟨_,rfl,hJs⟩⟩
theorem Qwk (F:Fence) (n:Nat) (hF:F.fn 146) (hro:F.round=none) (hn:1≤n) (Bs n₀:Nat) (A:Option Addr) (cap:Nat) (bs:List (ByteArray × Value)) (hl:bs.length≤1000000) (w:World) (hBn:Bs<n₀) (hn₀:n₀≤w.heap.size)
  (hBs:w.cell? ⟨Bs,0,none⟩=some (.slice A bs.length cap)) (hS:bs≠[]→∃ b off,A=some ⟨b,off,none⟩∧b<n₀∧∀ (j:Nat) (x:ByteArray × Value),bs[j]? = some x→w.cell? ⟨b,off+j*2,none⟩=some (.string x.1)∧w.cell? ⟨b,off+j*2+1,none⟩=some x.2) (hne:bs≠[]) :
  SeqStopsK F n Tryz.prog 146 #[.pointer (some ⟨Bs,0,none⟩)] (Zhi bs) (Below n₀) (fun ys=>ys=Qdh bs.length bs.length)
   (fun pre=>∃ k,k≤bs.length∧pre=Qdh bs.length k) bs.length w:=fun l J Jx W hW _ _ hY h0=>by
 have hBs':=(hW.cell (p:=⟨Bs,0,none⟩) (xE hBn hn₀)).trans hBs;obtain ⟨b,off,rfl,hb,hc⟩:=hS hne;exact Zc3 F n hF hro hn l Bs n₀ b off cap bs hl hb hBn J Jx hY W hBs' (fun j x hx=>⟨(hW.cell (p:=⟨b,off+j*2,none⟩) (xE hb hn₀)).trans (hc j x hx).1,(hW.cell (p:=⟨b,off+j*2+1,none⟩) (xE hb hn₀)).trans (hc j x hx).2⟩) h0
theorem Zgb (F:Fence) (n:Nat) (hF:F.fn 106) (hro:F.round=none) (a:Option Addr) (len cap:Nat) (w:World) :
  CallsIn F n Tryz.prog 106 #[.slice a len cap] w fun e w'=>e = .returned (.func (.func 146) #[] #[.pointer (some ⟨w.heap.size,0,none⟩)])∧w'=w.alloc (.cells #[.slice a len cap] 112):=by
 refine callsIn_of_wp Tryz.func106 rfl hF ?_ hro;simp only [Tryz.ntmps106,List.size_toArray,xD,xG,Nat.reduceAdd,Nat.reduceSub,Array.replicate_succ,Array.replicate_zero,List.push_toArray,List.append_toArray,xU,xV]
 gi_wp2
 go_ret
 exact ⟨rfl,rfl⟩
def Zc4 (w:World) (A:Option Addr) (st:List Bnd):Prop:=∃ bs:List (ByteArray × Value),bs.length=st.length∧StkC w A bs∧∀ (j:Nat) (y:ByteArray × Value) (z:Bnd),bs[j]? = some y→st[j]? = some z→y.1=z.1∧∃ PA pc,y.2 = .slice PA z.2.length pc∧IntsAt w PA z.2∧z.2≠[]∧z.2.length≤1000000
theorem Qsp {st:List Bnd} {x:ByteArray} (h:∀ b∈st,b.1≠x):Qdo st x=none:=by
 unfold Qdo;rw [List.find?_eq_none.2 (fun b hb=>by simpa using h b (List.mem_reverse.1 hb))];rfl
theorem Qsq {x:ByteArray}:(st:List Bnd)→(m:Nat)→(b:Bnd)→st[m]? = some b→b.1=x→(∀ (j:Nat) (z:Bnd),m<j→st[j]? = some z→z.1≠x)→Qdo st x=some b.2:=by
 intro st m b hm hb hj;obtain ⟨hlt,he⟩:=xP.1 hm;have hst:st=st.take m ++ b :: st.drop (m+1):=by rw [←he,←List.drop_eq_getElem_cons hlt,List.take_append_drop]
 unfold Qdo
 rw [hst,List.reverse_append,List.reverse_cons,xT,List.find?_append,List.find?_eq_none.2 (fun z hz=>by
  rw [List.mem_reverse] at hz;obtain ⟨j,hj2⟩:=List.mem_iff_getElem?.1 hz;rw [List.getElem?_drop] at hj2
  simpa using hj (m+1+j) z (by omega) hj2)]
 simp [hb]
def Qsr (r:Option (List Int)) (w:World) (e:Ending) (w':World):Prop :=
 Below w.heap.size w w'∧match r with
  | none=>e = .returned (.tuple #[.slice none 0 0,.bool false])
  | some p=>∃ v,e = .returned (.tuple #[v,.bool true])∧IRow w' w.heap.size v p
theorem Qzb (F:Fence) (n:Nat) (hF:F.fn 146) (hro:F.round=none) (l Bs cap:Nat) (A:Option Addr) {β:Type} (J:List β→World→Prop) (W:World) (hBs:W.cell? ⟨Bs,0,none⟩=some (.slice A 0 cap)) (h0:J [] W) :
  CallsIn F n Tryz.prog 146 #[.func (.yield l) #[] #[],.pointer (some ⟨Bs,0,none⟩)] W fun e W'=>(∃ v,e = .returned v)∧J [] W':=by
 refine callsIn_of_wp Tryz.func146 rfl hF ?_ hro;simp only [Tryz.ntmps146,List.size_toArray,xD,xG,Nat.reduceAdd,Nat.reduceSub,Array.replicate_succ,Array.replicate_zero,List.push_toArray,List.append_toArray,xU,xV]
 gi_wp2
 gi_loopw [3] (fun i wr=>i = .int .i64 (-1)∧J [] wr) (fun _ _=>0)
 case atStart=>exact ⟨rfl,h0⟩
 case round =>
  obtain ⟨rfl,hJs⟩:=hrel
  gi_wp2
  go_end0
  exact ⟨⟨_,rfl⟩,hJs⟩
theorem Qnj (F:Fence) (n:Nat) (hF:F.fn 146) (hro:F.round=none) (Bs n₀:Nat) (A:Option Addr) (cap:Nat) (bs:List (ByteArray × Value)) (w:World) (hBw:Bs<w.heap.size)
  (hBs:w.cell? ⟨Bs,0,none⟩=some (.slice A bs.length cap)) (hne:bs = []) :
  SeqStopsK F n Tryz.prog 146 #[.pointer (some ⟨Bs,0,none⟩)] (Zhi bs) (Below n₀) (fun ys=>ys=Qdh bs.length bs.length)
   (fun pre=>∃ k,k≤bs.length∧pre=Qdh bs.length k) bs.length w:=fun l J Jx W hW _ _ hY h0=>by
 have hBs':=(hW.cell (p:=⟨Bs,0,none⟩) hBw).trans hBs;subst hne;exact (Qzb F n hF hro l Bs cap A J W hBs' h0).mono fun e W' ⟨he,hj⟩=>⟨he,.inl ⟨[],rfl,hj⟩⟩
theorem Que {β:Type} (B:Nat) (f:β→Value) (p:β→List Int):Own (fun s W=>IRow W B (f s) (p s)):=fun s X Y row hs hg hrow=>by
 refine ⟨hs.1,?_⟩
 rcases hs.2 with h0|⟨g,cap,cur,hv,hb',hh,hr⟩
 ·exact .inl h0
 ·exact .inr ⟨g,cap,cur,hv,hb',(hg.block g (Qaa hh) (fun e=>by obtain ⟨o,ho,hc⟩:=hrow g e.symm;rw [hh] at ho;injection ho with ho;subst ho;cases hc)).trans hh,hr⟩
theorem Qgv {B:Nat} {W W':World} (h:Below W.heap.size W W'):KeepsFrom B W W':=⟨h.size,fun k _ _ hk _=>(h.block k (Qaa hk)).trans hk⟩
theorem Qhw {W W':World} {B:Nat} {t:TypeId} {v:Value} (h:Boxed W B t v) (hb:Below W.heap.size W W'):Boxed W' B t v:=(hb.block B h.lt).trans h
theorem IRow.low {w:World} {B B':Nat} {v:Value} {p:List Int} (h:IRow w B v p) (hb:B'≤B):IRow w B' v p:=by
 refine ⟨h.1,?_⟩
 rcases h.2 with h0|⟨g,cap,cur,hv,hb',hr⟩
 ·exact .inl h0
 ·exact .inr ⟨g,cap,cur,hv,xQ hb hb',hr⟩
theorem IRow.slice {w:World} {B:Nat} {v:Value} {p:List Int} (h:IRow w B v p):∃ A n c,v = .slice A n c:=by
 rcases h.2 with h0|⟨g,cap,cur,hv,_⟩
 ·exact ⟨_,_,_,h0.1⟩
 ·exact ⟨_,_,_,hv⟩
theorem Qzc {x y:ByteArray} (h:(x.toList==y.toList)=true):x=y:=by
 have h2:x.toList=y.toList:=by simpa using h
 rw [ByteArray.toList_eq,ByteArray.toList_eq] at h2;cases x;cases y
 simp only [ByteArray.mk.injEq];exact Array.toList_inj.1 h2
theorem Qhx {W:World} {B:Nat} {t:TypeId} {v:Value} {a:Addr} (h:Boxed W B t v) (ha:B≠a.block) (u:Value):Boxed (W.setCell a u) B t v:=(heap_setCell_other W a B u ha).trans h
theorem Quf {w:World} {B:Nat} {v:Value} {p:List Int} {a:Addr} (h:IRow w B v p) (ha:a.block<B) (u:Value):IRow (w.setCell a u) B v p:=by
 refine ⟨h.1,?_⟩
 rcases h.2 with h0|⟨g,cap,cur,hv,hb',hh,hr⟩
 ·exact .inl h0
 ·exact .inr ⟨g,cap,cur,hv,hb',(heap_setCell_other w a g u (by omega)).trans hh,hr⟩
theorem Qmq {n k:Nat} (hk:k≤n) (j:Fin n) (h:n-k≤j.val):j∈Qdh n k:=by
 have:=j.isLt
 unfold Qdh;refine List.mem_iff_getElem?.2 ⟨n-1-j.val,?_⟩;rw [List.getElem?_take_of_lt (by omega),List.getElem?_reverse (by simp;omega),xF (by simp;omega),List.getElem_finRange]
 congr 1
 ext
 simp
 omega
theorem Qzd {n k:Nat} {ini:List (Fin n)} {m:Fin n} (hk:k≤n) (h:ini ++ [m] = Qdh n k) (j:Fin n) (hj:m.val<j.val):j∈ini:=by
 cases k with
 | zero=>rw [Qlf] at h;simp at h
 | succ k =>
  rw [Qle (by omega)] at h;obtain ⟨h1,h2⟩:=List.append_inj' h rfl;injection h2 with h2 _;subst h1;have hm:=congrArg Fin.val h2
  dsimp only at hm
  exact Qmq (by omega) j (by omega)
theorem Qpa {x y:ByteArray} (h:(x.toList==y.toList)=false):x≠y:=fun e=>by subst e;simp at h
theorem Qpb (A:Option Addr) (cap:Nat) (st:List Bnd) (x:ByteArray) (w:World) (hS:Zc4 w A st) (hl:st.length≤1000000) :
  Calls Tryz.prog 73 #[.slice A st.length cap,.string x] w (Qsr (Qdo st x) w):=by
 obtain ⟨bs,hbl,hC,hbs⟩:=hS;rw [←hbl];have HBS:=hQ hbs;have HBL:=hQ hbl;have HC:=hQ hC;have HLL:=hQ (show bs.length≤1000000 from by omega);clear hbs hC hl hbl;refine (callsIn_wide (n:=3)).1 ?_;refine callsIn_of_wp_marks Tryz.func73 rfl trivial ?_ rfl;simp only [Tryz.ntmps73,List.size_toArray,xD,xG,Nat.reduceAdd,Nat.reduceSub,Array.replicate_succ,Array.replicate_zero,List.push_toArray,List.append_toArray,xU,xV]
 gi_wp2_with (refine ⟨trivial,?_⟩;gi_at_call 106;refine (Zgb Fence.wide _ trivial rfl _ _ _ _).mono ?_;rintro e w' ⟨rfl,rfl⟩)
 have hB0:Below w.heap.size w ((((w.alloc (.cells #[.string x] 9)).alloc (.cells #[.slice none 0 0] 35)).alloc (.cells #[.bool false] 4)).alloc (.cells #[.slice A bs.length cap] 112)):=((((xC _ w).alloc (xA _) _).alloc (by simp) _).alloc (by simp;omega) _).alloc (by simp;omega) _;have b0:Boxed ((((w.alloc (.cells #[.string x] 9)).alloc (.cells #[.slice none 0 0] 35)).alloc (.cells #[.bool false] 4)).alloc (.cells #[.slice A bs.length cap] 112)) w.heap.size 9 (.string x):=(((Boxed.new w 9 (.string x)).alloc _).alloc _).alloc _
 have b1:Boxed ((((w.alloc (.cells #[.string x] 9)).alloc (.cells #[.slice none 0 0] 35)).alloc (.cells #[.bool false] 4)).alloc (.cells #[.slice A bs.length cap] 112)) (w.heap.size+1) 35 (.slice none 0 0):=by
  have h:=Boxed.new (w.alloc (.cells #[.string x] 9)) 35 (.slice none 0 0);rw [xI] at h;exact (h.alloc _).alloc _
 have b2:Boxed ((((w.alloc (.cells #[.string x] 9)).alloc (.cells #[.slice none 0 0] 35)).alloc (.cells #[.bool false] 4)).alloc (.cells #[.slice A bs.length cap] 112)) (w.heap.size+1+1) 4 (.bool false):=by
  have h:=Boxed.new ((w.alloc (.cells #[.string x] 9)).alloc (.cells #[.slice none 0 0] 35)) 4 (.bool false);rw [xI,xI] at h;exact h.alloc _
 have b3:Boxed ((((w.alloc (.cells #[.string x] 9)).alloc (.cells #[.slice none 0 0] 35)).alloc (.cells #[.bool false] 4)).alloc (.cells #[.slice A bs.length cap] 112)) (w.heap.size+1+1+1) 112 (.slice A bs.length cap):=by
  have h:=Boxed.new (((w.alloc (.cells #[.string x] 9)).alloc (.cells #[.slice none 0 0] 35)).alloc (.cells #[.bool false] 4)) 112 (.slice A bs.length cap);rw [xI,xI,xI] at h;exact h
 have hsz:((((w.alloc (.cells #[.string x] 9)).alloc (.cells #[.slice none 0 0] 35)).alloc (.cells #[.bool false] 4)).alloc (.cells #[.slice A bs.length cap] 112)).heap.size=w.heap.size+4:=by simp
 generalize hW:((((w.alloc (.cells #[.string x] 9)).alloc (.cells #[.slice none 0 0] 35)).alloc (.cells #[.bool false] 4)).alloc (.cells #[.slice A bs.length cap] 112))=W0 at hB0 b0 b1 b2 b3 hsz ⊢
 clear hW
 have hseq:SeqStopsK Fence.wide (3-1) Tryz.prog 146 #[.pointer (some ⟨w.heap.size+1+1+1,0,none⟩)] (Zhi bs) (Below (w.heap.size+4)) (fun ys=>ys=Qdh bs.length bs.length)
   (fun pre=>∃ k,k≤bs.length∧pre=Qdh bs.length k) bs.length W0:=by
  by_cases hne:bs = []
  ·exact Qnj Fence.wide _ trivial rfl _ _ A cap bs W0 b3.lt b3.cell hne
  ·refine Qwk Fence.wide _ trivial rfl (by omega) _ _ A cap bs HLL.out W0 (by omega) (by omega) b3.cell (fun h=>?_) hne;obtain ⟨b,off,hA,hlt,hc⟩:=HC.out h;exact ⟨b,off,hA,by omega,fun j y hy=>⟨(hB0.cell (p:=⟨b,off+j*2,none⟩) hlt).trans (hc j y hy).1,(hB0.cell (p:=⟨b,off+j*2+1,none⟩) hlt).trans (hc j y hy).2⟩⟩
 refine wpIn_rangeFunc_ownH rfl (by omega) (gf:=146) (lb:=#[.pointer (some ⟨w.heap.size+1+1+1,0,none⟩)]) rfl trivial (enters_of Tryz.func146 (by kernel_rfl) rfl)
  hseq belowK_t (belowK_b (by omega)) (xC _ _) (fun _=>rfl)
  (fun pre W=>((∀ j∈pre,(bs[j.val]'j.isLt).1≠x)∧W.cell? ⟨w.heap.size,0,none⟩=some (.string x)∧Boxed W (w.heap.size+1) 35 (.slice none 0 0)∧Boxed W (w.heap.size+1+1) 4 (.bool false)∧w.heap.size+4≤W.heap.size)∧Below w.heap.size w W)
  (fun c pre W=>(∃ (ini:List (Fin bs.length)) (m:Fin bs.length) (v:Value) (p:List Int),c = .ret∧pre=ini ++ [m]∧(∀ j∈ini,(bs[j.val]'j.isLt).1≠x)∧(bs[m.val]'m.isLt).1=x∧(∃ z,st[m.val]? = some z∧z.2=p)∧Boxed W (w.heap.size+1) 35 v∧Boxed W (w.heap.size+1+1) 4 (.bool true)∧IRow W w.heap.size v p)∧Below w.heap.size w W)
  (OwnFrom.and (Own.from (fun s X Y row hs hg hr=>⟨hs.1,cell_kept hs.2.1 hg hr,boxed_own _ _ (fun _:Unit=>_) () X Y row hs.2.2.1 hg hr,boxed_own _ _ (fun _:Unit=>_) () X Y row hs.2.2.2.1 hg hr,xQ hs.2.2.2.2 hg.size⟩) _) (ownFrom_below (xA _) (by omega)))
  (fun c=>OwnFrom.and (Own.from (fun s X Y row hs hg hr=>by
   obtain ⟨ini,m,v,p,q1,q2,q3,q4,q5,q6,q7,q8⟩:=hs;exact ⟨ini,m,v,p,q1,q2,q3,q4,q5,boxed_own _ _ (fun _:Unit=>_) () X Y row q6 hg hr,boxed_own _ _ (fun _:Unit=>_) () X Y row q7 hg hr,Que w.heap.size (fun _:Unit=>v) (fun _=>p) () X Y row q8 hg hr⟩) _) (ownFrom_below (xA _) (by omega)))
  ⟨⟨by simp,b0.cell,b1,b2,by omega⟩,hB0⟩
  (fun j a' W=>∃ Bx,w.heap.size+1+1+1<Bx∧W.heap[Bx]? = some (.cells #[.string (bs[j.val]'j.isLt).1,(bs[j.val]'j.isLt).2] 115 (0,0))∧a' = { tmps:=#[.slice A bs.length cap,.string x,undef,.pointer (some ⟨w.heap.size,0,none⟩),.pointer (some ⟨w.heap.size+1,0,none⟩),.pointer (some ⟨w.heap.size+1+1,0,none⟩),undef,.pointer (some ⟨Bx,0,none⟩),.slice A bs.length cap,.func (.func 146) #[] #[.pointer (some ⟨w.heap.size+1+1+1,0,none⟩)],.int .i64 ((j.val:Nat):Int),.agg #[.string (bs[j.val]'j.isLt).1,(bs[j.val]'j.isLt).2],undef,undef,undef,undef,undef,undef,undef],defers:=[] })
  (fun j a' s X Y row hs hg hr=>by
   obtain ⟨Bx,h1,h2,h3⟩:=hs;exact ⟨Bx,h1,(hg.block Bx (Qaa h2) (fun e=>by obtain ⟨_,o,ho,hc⟩:=hr Bx e.symm;rw [h2] at ho;injection ho with ho;subst ho;cases hc)).trans h2,h3⟩) ?assign ?body ?done ?stop
 case assign =>
  rintro l pre j W K ⟨⟨h1,h2,h3,h4,h5⟩,hB⟩ hK;obtain ⟨z,hz⟩:∃ z,st[j.val]? = some z:=⟨_,xF (by have:=HBL.out;have:=j.isLt;omega)⟩;obtain ⟨q1,PA,pc,hv,_,_,_⟩:=HBS.out j.val _ z (xF j.isLt) hz;clear q1
  dsimp only [Zhi]
  rw [hv] at hK ⊢;have hbw:=fun o=>(xC W.heap.size W).alloc (xA _) o
  gi_wp2
  exact hK _ _ (Qgv (hbw _)) ((hbw _).mono h5) ⟨⟨h1,(xJ (w:=W) (a:=⟨w.heap.size,0,none⟩) ((hbw _).block w.heap.size (by omega))).trans h2,Qhw h3 (hbw _),Qhw h4 (hbw _),by rw [xI];omega⟩,hB.trans ((hbw _).mono hB.size)⟩ ⟨W.heap.size,by omega,xH _ _,rfl⟩
 case body =>
  rintro l pre j a' W hl ⟨r,hr⟩ ⟨⟨h1,h2,h3,h4,h5⟩,hB⟩ ⟨Bx,hBx,bX,rfl⟩ hlt;obtain ⟨z,hz⟩:∃ z,st[j.val]? = some z:=⟨_,xF (by have:=HBL.out;have:=j.isLt;omega)⟩;obtain ⟨q1,PA,pc,hv,q3,q4,q5⟩:=HBS.out j.val _ z (xF j.isLt) hz;clear q1;rw [hv] at bX ⊢;have x0:=Qab bX 0 _ rfl;have x1:=Qab bX 1 _ rfl
  gi_wp2
  ·refine ⟨trivial,?_⟩;refine (CallsIn.inRound l (callsIn_wide.2 (Qkt PA pc z.2 W (q3.keep hB) q4 q5))).mono ?_;rintro e W1 ⟨v,rfl,hr1,hb1⟩;obtain ⟨A',n',c',rfl⟩:=hr1.slice;have h3':=Qhw h3 hb1;have h4':=Qhw h4 hb1;have f3:=h3'.cell;have g3:=h3'.frozen;have f4:=h4'.cell;have g4:=h4'.frozen;have HR1:=hQ hr1;have HX:=hQ (Qzc (show ((bs[j.val]'j.isLt).1.toList==x.toList)=true from by assumption));clear hr1 q3
   gi_wp2
   have e1:w.heap.size+1+1≠w.heap.size+1:=by omega
   exact ⟨((Qgv hb1).trans ((KeepsOthers.setCell _ _ _).from _)).trans ((KeepsOthers.setCell _ _ _).from _),⟨pre,j,_,z.2,rfl,rfl,h1,HX.out,⟨z,hz,rfl⟩,Qhx (h3'.set _) e1.symm _,Boxed.set _ (Qhx h4' e1 _),
    (Quf (Quf HR1.out (by dsimp;omega) _) (by dsimp;omega) _).low hB.size⟩,((hB.trans (hb1.mono hB.size)).setCell (p:=⟨w.heap.size+1,0,none⟩) (by dsimp;omega) _).setCell (p:=⟨w.heap.size+1+1,0,none⟩) (by dsimp;omega) _⟩
  ·rename_i hx
   exact ⟨KeepsFrom.refl _ _,xC _ _,⟨fun y hy=>(List.mem_append.1 hy).elim (h1 y) (fun e=>by simp at e;subst e;exact Qpa hx),h2,h3,h4,h5⟩,hB⟩
 case done =>
  rintro D ys W hD rfl ⟨⟨h1,h2,h3,h4,h5⟩,hB⟩ hK;have f3:=h3.cell;have g3:=h3.frozen;have f4:=h4.cell;have g4:=h4.frozen
  gi_wp2
  have e1:w.heap.size+1+1≠w.heap.size+1:=by omega
  have d1:=Qhx (h3.set (.slice none 0 0)) (a:=⟨w.heap.size+1+1,0,none⟩) e1.symm (.bool false);have d2:=Boxed.set (.bool false) (Qhx h4 (a:=⟨w.heap.size+1,0,none⟩) e1 (.slice none 0 0));have hK':=((KeepsOthers.setCell W ⟨w.heap.size+1,0,none⟩ (.slice none 0 0)).trans (KeepsOthers.setCell _ ⟨w.heap.size+1+1,0,none⟩ (.bool false))).same D _ hK rfl;refine ⟨by simp,.inl ⟨_,_,rfl,run_takeDeferred hK',?_⟩⟩;have hc1:=cell_kept d1.cell (grownBy_putObj' _ D (.deferred none)) (fun r e=>by cases e;exact ⟨_,hK',rfl⟩);have hc2:=cell_kept d2.cell (grownBy_putObj' _ D (.deferred none)) (fun r e=>by cases e;exact ⟨_,hK',rfl⟩)
  refine ⟨.tuple #[.slice none 0 0,.bool false],?_,(((hB.setCell (p:=⟨w.heap.size+1,0,none⟩) (by dsimp;omega) _).setCell (p:=⟨w.heap.size+1+1,0,none⟩) (by dsimp;omega) _).trans (belowK_b (w:=w) (xA _) _ D _ _ (by omega) hK' rfl rfl)),?_⟩
  ·simp [results,Tryz.f73,go_sem,hc1,hc2]
  ·rw [Qsp (fun b hb=>by
    obtain ⟨j,hj⟩:=List.mem_iff_getElem?.1 hb;have hl:=(xP.1 hj).1;have hjb:j<bs.length:=by have:=HBL.out;omega
    have:=(HBS.out j _ b (xF hjb) hj).1
    rw [←this];exact h1 ⟨j,hjb⟩ (Qmq (xA _) _ (by omega)))]
 case stop =>
  rintro D c pre W hD ⟨k,hk,hpk⟩ ⟨⟨ini,m,v,p,rfl,rfl,q2,q3,q4,q5,q6,q7⟩,hB⟩ hK
  gi_wp2
  refine ⟨by simp,.inl ⟨_,_,rfl,run_takeDeferred hK,?_⟩⟩;have hc1:=cell_kept q5.cell (grownBy_putObj' _ D (.deferred none)) (fun r e=>by cases e;exact ⟨_,hK,rfl⟩);have hc2:=cell_kept q6.cell (grownBy_putObj' _ D (.deferred none)) (fun r e=>by cases e;exact ⟨_,hK,rfl⟩);obtain ⟨z,hz,rfl⟩:=q4
  have hin:Qdo st x=some z.2:=Qsq st m.val z hz ((HBS.out m.val _ z (xF m.isLt) hz).1.symm.trans q3) (fun j y hj hy=>by
   have hl:=(xP.1 hy).1;have hjb:j<bs.length:=by have:=HBL.out;omega
   rw [←(HBS.out j _ y (xF hjb) hy).1];exact q2 ⟨j,hjb⟩ (Qzd hk hpk _ hj))
  refine ⟨.tuple #[v,.bool true],?_,hB.trans (belowK_b (w:=w) (xA _) W D _ _ (by omega) hK rfl rfl),?_⟩
  ·simp [results,Tryz.f73,go_sem,hc1,hc2]
  ·rw [hin];exact ⟨v,rfl,Que w.heap.size (fun _:Unit=>v) (fun _=>z.2) () W _ (some D) q7 (grownBy_putObj' _ D (.deferred none)) (fun r e=>by cases e;exact ⟨_,hK,rfl⟩)⟩
end Go.Proofs.YtfjpemdejoejbaaGreat
