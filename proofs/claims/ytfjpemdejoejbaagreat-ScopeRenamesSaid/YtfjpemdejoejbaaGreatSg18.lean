/- Part 18 -/
import Derived.Test.YtfjpemdejoejbaaGreatSg17
import Derived.ChangeSlices
import Derived.ProofKit
import Derived.Deep.Slices
set_option maxRecDepth 100000
set_option maxHeartbeats 4000000
namespace Go.Proofs.YtfjpemdejoejbaaGreat
open Go.RowKit Go.ChangeShapes Go.WideShapes
def IntsAt (w:World) (A:Option Addr) (zs:List Int):Prop:=zs≠[]→∃ b off,A=some ⟨b,off,none⟩∧b<w.heap.size∧∀ (i:Nat) (x:Int),zs[i]? = some x→w.cell? ⟨b,off+i,none⟩=some (.int .i64 x)
theorem IntsAt.keep {w w':World} {A:Option Addr} {zs:List Int} (h:IntsAt w A zs) (hb:Below w.heap.size w w'):IntsAt w' A zs:=fun hne=>by
 obtain ⟨b,off,hA,hlt,hc⟩:=h hne;exact ⟨b,off,hA,xE hlt hb.size,fun i x hx=>(xJ (w:=w) (a:=⟨b,off+i,none⟩) (hb.block b hlt)).trans (hc i x hx)⟩
theorem IntsAt.at {w:World} {A:Option Addr} {zs:List Int} (h:IntsAt w A zs) {i:Nat} (hi:i<zs.length):∃ b off,A=some ⟨b,off,none⟩∧b<w.heap.size∧∀ (i:Nat) (x:Int),zs[i]? = some x→w.cell? ⟨b,off+i,none⟩=some (.int .i64 x):=h (fun e=>by rw [e] at hi;simp at hi)
section
variable {H:Type} {enc:TypeId × Value→H} {w:World} {base:Nat} {spare:Nat→Bool} {held:Bool}
theorem Qwg:Tryz.prog.cellsOf 3=1:=by kernel_rfl
theorem Qwh {fuel:Nat} {cs:List Value} {x:DataW H × List MemPlace} (h:DataW.trod enc Tryz.prog w base spare held fuel 35 cs=some x) :
  ∃ (A:Option Addr) (c:Nat) (zs:List Int),cs = [.slice A zs.length c]∧IntsAt w A zs∧zs.length≤maxLen∧zs.length≤c∧∀ z∈zs,(Lit.int .i64 z).wf=true:=by
 rcases open_ints Tryz.underlying35 Tryz.underlying3 Qwg h with ⟨hcs,_⟩|⟨a,len,cap,zs,hcs,_,hl,hm,hz,_,hc,hwf⟩
 ·exact ⟨none,0,[],hcs,fun h=>absurd rfl h,xZ _,xZ _,fun z h=>by simp at h⟩
 ·have hlz:len≤zs.length:=by rw [hz];split <;> omega
  have hlen:(zs.take len).length=len:=by rw [List.length_take];omega
  refine ⟨some a,cap,zs.take len,by rw [hlen];exact hcs,fun hne=>?_,by rw [hlen];omega,by rw [hlen];exact hl,fun z hz=>hwf z (List.mem_of_mem_take hz)⟩
  have h0:0<len:=by
   rcases Nat.eq_zero_or_pos len with h | h
   ·subst h;exact absurd rfl hne
   ·exact h
  obtain ⟨b,off,spot⟩:=a
  have hspot:spot=none:=by
   have:=World.cell?_spot (hc 0 (by omega))
   simpa [Addr.add] using this
  subst hspot;have hadd:∀ n:Nat,((⟨b,off,none⟩:Addr).add n)=⟨b,off+n,none⟩:=fun n=>by unfold Addr.add;split <;> simp_all
  refine ⟨b,off,rfl,?_,fun i x hx=>?_⟩
  ·have:=hc 0 (by omega)
   rw [hadd] at this;exact xK w _ this
  ·have hi:=(xP.1 hx).1;rw [hlen] at hi;have:=hc i (by omega)
   rw [hadd] at this;rw [this];rw [List.getElem?_take_of_lt hi] at hx;rw [List.getD_eq_getElem?_getD,hx];rfl
end
end Go.Proofs.YtfjpemdejoejbaaGreat
namespace Go.Proofs.YtfjpemdejoejbaaGreat
open Go.RowKit
def Qjn (t:Tr) (i:Int):Bool:=decide (0≤i) && decide (i<(t.kids.length:Int))
def Qep (t:Tr) (i:Int):Tr:=(t.kids[i.toNat]?).getD Qlq
theorem Qd7 {t:Tr} {i:Int} (h:Qjn t i=true):0≤i∧i<(t.kids.length:Int)∧t.kids[i.toNat]? = some (Qep t i):=by
 unfold Qjn at h;simp only [Bool.and_eq_true,decide_eq_true_eq] at h;refine ⟨h.1,h.2,?_⟩;unfold Qep;rw [xF (by omega)];rfl
def Qaz:Tr→List Int→Option Tr
 | t,[]=>some t
 | t,i :: r=>if Qjn t i then Qaz (Qep t i) r else none
def Qnd:Nat→Tr→List Int→Int
 | n,_,[]=>n
 | n,t,i :: r=>if Qjn t i then Qnd (n+1+Qaq (t.kids.take i.toNat)) (Qep t i) r else -1
theorem Qgb (S:Nat→Prop) (t:Tr) (v:TV) (i:Int) (w:World) (h:TrAt S w t v) :
  Calls Tryz.prog 113 #[.agg #[.int .i64 v.kind,.string v.text,.slice v.la v.ll v.lc,.slice v.ka v.kl v.kc],.int .i64 i] w fun e w'=>e = .returned (.bool (Qjn t i))∧Below w.heap.size w w':=by
 have hkl:=h.kl.1;clear h;obtain ⟨vk,vx,vla,vll,vlc,vka,vkl,vkc⟩:=v;simp only at hkl;subst hkl;have HX:=hQ (xH w (trO ⟨vk,vx,vla,vll,vlc,vka,t.kids.length,vkc⟩));have HB0:=hQ ((xC w.heap.size w).alloc (xA _) (trO ⟨vk,vx,vla,vll,vlc,vka,t.kids.length,vkc⟩));have k3:(w.alloc (trO ⟨vk,vx,vla,vll,vlc,vka,t.kids.length,vkc⟩)).cell? ⟨w.heap.size,3,none⟩=some (.slice vka t.kids.length vkc):=Qab HX.out 3 _ rfl;have HR:=hQ (show Qjn t i=(decide (0≤i) && decide (i<(t.kids.length:Int))) from rfl)
 by_cases h0:0≤i
 ·have d0:=xS h0
  by_cases h1:i<(t.kids.length:Int)
  ·have d1:=xS h1;have HRR:=hQ (show Qjn t i=true from by rw [HR.out,d0,d1];rfl);clear HR
   go_enter Tryz.func113,Tryz.ntmps113
   go_wp2
   go_ret
   exact ⟨by rw [HRR.out];rfl,HB0.out⟩
  ·have d1:=xR h1;have HRR:=hQ (show Qjn t i=false from by rw [HR.out,d1,Bool.and_false]);clear HR
   go_enter Tryz.func113,Tryz.ntmps113
   go_wp2
   go_ret
   exact ⟨by rw [HRR.out];rfl,HB0.out⟩
 ·have d0:=xR h0;have HRR:=hQ (show Qjn t i=false from by rw [HR.out,d0,Bool.false_and]);clear HR
  go_enter Tryz.func113,Tryz.ntmps113
  go_wp2
  go_ret
  exact ⟨by rw [HRR.out];rfl,HB0.out⟩
def CellsAt (w:World) (b o:Nat) (y:TV):Prop:=w.cell? ⟨b,o,none⟩=some (.int .i64 y.kind)∧w.cell? ⟨b,o+1,none⟩=some (.string y.text)∧w.cell? ⟨b,o+2,none⟩=some (.slice y.la y.ll y.lc)∧w.cell? ⟨b,o+3,none⟩=some (.slice y.ka y.kl y.kc)
theorem CellsAt.keep {w w':World} {b o:Nat} {y:TV} (h:CellsAt w b o y) (hb:Below w.heap.size w w'):CellsAt w' b o y:=by
 have hlt:b<w.heap.size:=xK w _ h.1;have hk:∀ i,w'.cell? ⟨b,i,none⟩=w.cell? ⟨b,i,none⟩:=fun i=>xJ (w:=w) (a:=⟨b,i,none⟩) (hb.block b hlt)
 exact ⟨(hk _).trans h.1,(hk _).trans h.2.1,(hk _).trans h.2.2.1,(hk _).trans h.2.2.2⟩
def Zhw (S:Nat→Prop) (t0:Tr) (zs:List Int) (pb po:Nat) (w:World) (p i:Value) (wr:World):Prop :=
 ∃ (j b o:Nat) (y:TV) (cur:Tr),p = .pointer (some ⟨b,o,none⟩)∧i = .int .i64 j∧j≤zs.length∧Qaz t0 zs=Qaz cur (zs.drop j)∧CellsAt wr b o y∧TrAt S wr cur y∧(b=pb∧o=po∨S b)∧Below w.heap.size w wr
def Zc2 (S:Nat→Prop) (t:Tr) (zs:List Int) (pb po:Nat) (w:World) (e:Ending) (w':World):Prop :=
 Below w.heap.size w w'∧match Qaz t zs with
  | none=>e = .returned (.pointer none)
  | some u=>∃ b o y,e = .returned (.pointer (some ⟨b,o,none⟩))∧CellsAt w' b o y∧TrAt S w' u y∧(b=pb∧o=po∨S b)
theorem Qhd {α:Type} {l:List α} {j:Nat} {x:α} (h:l[j]? = some x):l.drop j=x :: l.drop (j+1):=by
 obtain ⟨hj,he⟩:=xP.1 h;rw [List.drop_eq_getElem_cons hj,he]
theorem Qua (S:Nat→Prop) (t:Tr) (y0:TV) (pb po:Nat) (A:Option Addr) (c:Nat) (zs:List Int) (w:World) (hc:CellsAt w pb po y0) (h:TrAt S w t y0) (hA:IntsAt w A zs) (hz:zs.length≤maxLen) :
  Calls Tryz.prog 79 #[.pointer (some ⟨pb,po,none⟩),.slice A zs.length c] w (Zc2 S t zs pb po w):=by
 have HC:=hQ hc;have HT:=hQ h;have HA:=hQ hA;have hmax:zs.length≤9223372036854775807:=by unfold maxLen at hz;omega
 clear hc h hA hz
 go_enter Tryz.func79,Tryz.ntmps79
 go_wp2
 go_loopw [0,9] (fun p i wr=>Zhw S t zs pb po w p i wr) (fun _ i _=>zs.length-(intOf i).toNat)
 case atStart=>exact ⟨0,pb,po,y0,t,rfl,rfl,xZ _,rfl,HC.out,HT.out,.inl ⟨rfl,rfl⟩,xC _ _⟩
 case round =>
  obtain ⟨j,b,o,y,cur,rfl,rfl,hj,hf,hcy,hty,hbo,hb⟩:=hrel;have HF:=hQ hf;have HTY:=hQ hty;have HCY:=hQ hcy;have HBO:=hQ hbo;have HBR:=hQ hb;clear hf hty hbo hb
  by_cases hlt:j<zs.length
  ·obtain ⟨z,hz⟩:∃ z,zs[j]? = some z:=⟨_,xF hlt⟩;obtain ⟨ab,ao,rfl,_,hac⟩:=(HA.out.keep HBR.out).at hlt;have a0:=hac j z hz;have HD:=hQ (Qhd hz);obtain ⟨c0,c1,c2,c3⟩:=hcy;have hbl:b<wr.heap.size:=xK wr _ c0;clear hac hz
   cases hkb:Qjn cur z
   ·have HR:=hQ (show Qaz t zs=none from by rw [HF.out,HD.out,Qaz,hkb];rfl);go_wp2_with (go_at_call 113;refine (Qgb S cur y z _ HTY.out).mono ?_;rw [hkb];rintro e w2 ⟨rfl,hb2⟩;have HB2:=hQ (HBR.out.trans (hb2.mono HBR.out.size));clear hb2)
    go_ret
    refine ⟨HB2.out,?_⟩;rw [HR.out];rfl
   ·obtain ⟨z0,z1,z2⟩:=Qd7 hkb;have HR:=hQ (show Qaz t zs=Qaz (Qep cur z) (zs.drop (j+1)) from by rw [HF.out,HD.out,Qaz,hkb];rfl);obtain ⟨m,rfl⟩:∃ m:Nat,z=(m:Int):=⟨z.toNat,by omega⟩;rw [Int.toNat_natCast] at z2;have hm:m<cur.kids.length:=by omega
    go_wp2_with (go_at_call 113;refine (Qgb S cur y m _ HTY.out).mono ?_;rw [hkb];rintro e w2 ⟨rfl,hb2⟩;have HB2:=hQ (HBR.out.trans (hb2.mono HBR.out.size));have HC2:=hQ (HCY.out.keep hb2);have HT2:=hQ (HTY.out.keep hb2);clear hb2 c0 c1 c2 c3 hbl a0;obtain ⟨c0,c1,c2,c3⟩:=HC2.out;have hbl:b<w2.heap.size:=xK w2 _ c0;have hkl:=HT2.out.kl.1;rw [hkl] at c3;obtain ⟨kb,ko,hka⟩:∃ b off,y.ka=some ⟨b,off,none⟩:=HT2.out.addr.resolve_left (by omega);rw [hka] at c3)
    go_roundw
    case measure=>simp [intOf];omega
    case rel =>
     obtain ⟨u,d0,d1,d2,d3,hu⟩:=HT2.out.at hka z2;obtain ⟨_,b',off',hA',hSb,_⟩:=HT2.out.kid z2;rw [hka] at hA';injection hA' with e;injection e with e1 e2 _;subst e1;exact ⟨j+1,kb,ko+m*4,u,Qep cur m,rfl,by go_num,by omega,HR.out,⟨d0,d1,d2,d3⟩,hu,.inr hSb,HB2.out⟩
  ·have HR:=hQ (show Qaz t zs=some cur from by rw [HF.out,List.drop_eq_nil_of_le (by omega)];rfl)
   go_wp2
   go_ret
   refine ⟨HBR.out,?_⟩;rw [HR.out];exact ⟨b,o,y,rfl,HCY.out,HTY.out,HBO.out⟩
end Go.Proofs.YtfjpemdejoejbaaGreat
namespace Go.Proofs.YtfjpemdejoejbaaGreat
open Go.RowKit Go.Shelf
def SumAt (cur:Tr) (q m:Nat) (W:World) (n i:Value) (wr:World):Prop:=∃ l:Nat,i = .int .i64 l∧l≤q∧n = .int .i64 ((m+1+Qaq (cur.kids.take l):Nat):Int)∧Below W.heap.size W wr
def NumAt (t0:Tr) (zs:List Int) (w:World) (n i:Value) (wr:World):Prop :=
 ∃ (j m:Nat) (x:TV) (cur:Tr),n = .int .i64 m∧i = .int .i64 j∧j≤zs.length∧Qnd 0 t0 zs=Qnd m cur (zs.drop j)∧wr.heap[w.heap.size]? = some (trO x)∧TrAt (fun k=>k<w.heap.size) wr cur x∧Below w.heap.size w wr∧m+Qak cur≤140737488355328
theorem Qo7 {t k:Tr} {j:Nat} (h:t.kids[j]? = some k):1+Qaq (t.kids.take j)+Qak k≤Qak t:=by
 have h1:=Qc0 h;have h2:=Qdw t.kids (j+1);rw [Qa7 t];omega
theorem Qmm (S:Nat→Prop) (t:Tr) (v:TV) (A:Option Addr) (c:Nat) (zs:List Int) (w:World) (h:TrAt S w t v) (hA:IntsAt w A zs) (hz:zs.length≤maxLen) (hs:Qak t≤140737488355328) :
  Calls Tryz.prog 107 #[.agg #[.int .i64 v.kind,.string v.text,.slice v.la v.ll v.lc,.slice v.ka v.kl v.kc],.slice A zs.length c] w fun e w'=>e = .returned (.int .i64 (Qnd 0 t zs))∧Below w.heap.size w w':=by
 have HB0:=hQ ((xC w.heap.size w).alloc (xA _) (trO v));have HT:=hQ (TrAt.low t v (h.keep HB0.out));have HTL:=hQ (show TrAt (fun k=>k<w.heap.size) (w.alloc (trO v)) t v from (TrAt.low t v h).keep HB0.out);have HX:=hQ (xH w (trO v));have HA:=hQ hA;have HS:=hQ hs;have hmax:zs.length≤9223372036854775807:=by unfold maxLen at hz;omega
 clear h hA hz hs
 go_enter Tryz.func107,Tryz.ntmps107
 go_wp2
 go_loopw [5,12] (fun n i wr=>NumAt t zs w n i wr) (fun _ i _=>zs.length-(intOf i).toNat)
 case atStart=>exact ⟨0,0,v,t,rfl,rfl,xZ _,rfl,HX.out,HTL.out,HB0.out,by have:=HS.out;omega⟩
 case round =>
  obtain ⟨j,m,x,cur,rfl,rfl,hj,hf,hx,hty,hb,hms⟩:=hrel;have HF:=hQ hf;have HTY:=hQ hty;have HXX:=hQ hx;have HBR:=hQ hb;have HMS:=hQ hms;have hkl:=hty.kl.1;obtain ⟨vk,vx,vla,vll,vlc,vka,vkl,vkc⟩:=x;simp only at hkl;subst hkl;clear hf hty hx hb hms;have k0:=Qab HXX.out 0 _ rfl;have k1:=Qab HXX.out 1 _ rfl;have k2:=Qab HXX.out 2 _ rfl;have k3:=Qab HXX.out 3 _ rfl;have hbl:=Qaa HXX.out
  by_cases hlt:j<zs.length
  ·obtain ⟨z,hz⟩:∃ z,zs[j]? = some z:=⟨_,xF hlt⟩;obtain ⟨ab,ao,rfl,_,hac⟩:=(HA.out.keep HBR.out).at hlt;have a0:=hac j z hz;have HD:=hQ (Qhd hz);clear hac hz
   cases hkb:Qjn cur z
   ·have HR:=hQ (show Qnd 0 t zs = -1 from by rw [HF.out,HD.out,Qnd,hkb];rfl);go_wp2_with (go_at_call 113;refine (Qgb _ cur _ z _ HTY.out).mono ?_;rw [hkb];rintro e w2 ⟨rfl,hb2⟩;have HB2:=hQ (HBR.out.trans (hb2.mono HBR.out.size));clear hb2)
    go_ret
    exact ⟨by rw [HR.out];rfl,HB2.out⟩
   ·obtain ⟨z0,z1,z2⟩:=Qd7 hkb;have HR:=hQ (show Qnd 0 t zs=Qnd (m+1+Qaq (cur.kids.take z.toNat)) (Qep cur z) (zs.drop (j+1)) from by rw [HF.out,HD.out,Qnd,hkb];rfl);obtain ⟨q,rfl⟩:∃ q:Nat,z=(q:Int):=⟨z.toNat,by omega⟩;rw [Int.toNat_natCast] at z2 HR;have hq:q<cur.kids.length:=by omega
    obtain ⟨kb,ko,hka⟩:∃ b off,vka=some ⟨b,off,none⟩:=HTY.out.addr.resolve_left (by omega);subst hka;have hcap:=HTY.out.caps.2;simp only at hcap;have hsk:=Qo7 z2;have hms:=HMS.out;have hqc:(q:Int)≤(vkc:Int):=by omega
    have hm1:(m:Int)+1≤140737488355328:=by omega
    have HSK:=hQ hsk;clear hsk hms;go_wp2_with (go_at_call 113;refine (Qgb _ cur _ q _ HTY.out).mono ?_;rw [hkb];rintro e w2 ⟨rfl,hb2⟩;have HB2:=hQ (HBR.out.trans (hb2.mono HBR.out.size));have HX2:=hQ ((hb2.block w.heap.size hbl).trans HXX.out);have HT2:=hQ (HTY.out.keep hb2);clear hb2 k0 k1 k2 k3 hbl a0;have k3:=Qab HX2.out 3 _ rfl)
    go_loopw [5,27] (fun n i wr=>SumAt cur q m w2 n i wr) (fun _ i _=>q-(intOf i).toNat)
    case atStart=>exact ⟨0,rfl,xZ _,by go_num,xC _ _⟩
    case round =>
     obtain ⟨l,rfl,hl,rfl,hb3⟩:=hrel;have HB3:=hQ hb3;have HX3:=hQ ((hb3.block w.heap.size (Qaa HX2.out)).trans HX2.out);have HT3:=hQ (HT2.out.keep hb3);clear hb3 k3
     by_cases hlq:l<q
     ·obtain ⟨k,hk⟩:∃ k,cur.kids[l]? = some k:=⟨_,xF (by omega)⟩;obtain ⟨u,c0,c1,c2,c3,hu⟩:=HT3.out.at rfl hk;have HU:=hQ hu;have HS1:=hQ (Qc0 hk);have hs0:=Qc0 hk
      have hle:Qaq (cur.kids.take (l+1))≤Qaq (cur.kids.take q):=by
       have:cur.kids.take (l+1)=(cur.kids.take q).take (l+1):=by rw [List.take_take,Nat.min_eq_left (by omega)]
       rw [this];exact Qdw _ _
      have hsk:=HSK.out;have hms:=HMS.out;have HSZ:=hQ (show Qak k≤140737488355328 by omega);have q1:((m:Nat):Int)+1+((Qaq (cur.kids.take l):Nat):Int)+(Qak k:Nat)≤140737488355328:=by omega
      have hj0:(0:Int)≤(l:Int):=by omega
      have hj1:(l:Int)<(q:Int):=by omega
      have HA1:=hQ ((xC wr.heap.size wr).alloc (xA _) (trO u));have hlm:(l:Int)+1≤140737488355328:=by have h1:=Qba cur.kids;have h2:=Qa7 cur;omega
      clear hk hu hs0 hle hsk hms;go_wp2_with (go_at_call 147;refine (Zc1 (SizeOf.sizeOf k) _ k u _ (xA _) (HU.out.keep HA1.out) HSZ.out).mono ?_;rintro e w4 ⟨rfl,hb4⟩;have HB4:=hQ (HB3.out.trans ((HA1.out.trans (hb4.mono HA1.out.size)).mono HB3.out.size));clear hb4)
      go_roundw
      case measure=>simp [intOf];omega
      case rel=>exact ⟨l+1,by go_num,by omega,by rw [HS1.out];go_num,HB4.out⟩
     ·have hlq':l=q:=by omega
      subst hlq';obtain ⟨u,c0,c1,c2,c3,hu⟩:=HT3.out.at rfl z2;have HU:=hQ hu;have k0:=Qab HX3.out 0 _ rfl;have k1:=Qab HX3.out 1 _ rfl;have k2:=Qab HX3.out 2 _ rfl;have k3:=Qab HX3.out 3 _ rfl;have rf:=xL HX3.out;have hbl:=Qaa HX3.out;have kbl:kb<wr.heap.size:=xK wr _ c3;have hl0:(0:Int)≤(l:Int):=by omega
      have hl1:(l:Int)<(cur.kids.length:Int):=by omega
      have HK:=hQ z2;clear hu z2 hkb hl hlq hq hqc z0 z1 hm1
      go_wp2
      go_roundw
      case measure=>simp [intOf];omega
      case rel =>
       have hbw:Below w.heap.size w wr:=HB2.out.trans (HB3.out.mono HB2.out.size);have hms:=HMS.out;have hsk:=HSK.out;exact ⟨j+1,m+1+Qaq (cur.kids.take l),u,Qep cur l,by go_num,by go_num,by omega,HR.out,Qfw u HX3.out,TrAt.move (fun _ h=>h) (fun k hk _=>(Qbk wr w.heap.size u).block k hk) _ _ HU.out,hbw.trans (Qbk wr w.heap.size u),by omega⟩
  ·have HR:=hQ (show Qnd 0 t zs=m from by rw [HF.out,List.drop_eq_nil_of_le (by omega)];rfl)
   go_wp2
   go_ret
   exact ⟨by rw [HR.out];rfl,HBR.out⟩
theorem mixed:Tryz.prog.follows Departure.mixedOrders=true:=by kernel_rfl
def KidsIn (S:Nat→Prop) (w:World) (A:Option Addr) (l:List Tr):Prop:=l≠[]→∃ b off,A=some ⟨b,off,none⟩∧S b∧TrsAt S w b off l
theorem TrAt.strsIn {S:Nat→Prop} {w:World} {t:Tr} {v:TV} (h:TrAt S w t v):StrsAt S w v.la t.leads:=by
 cases t with
 | mk k x ls ks =>
  unfold TrAt at h;exact h.2.2.2.2.1
section
variable {P:Program} {w:World} {ops:Array Oper} {rest:List Oper} {o:Oper} {a:Act} {Q:Exit→Act→World→Prop}
theorem Qka (hgd:o.guard=none) (s x:Operand) (t:TypeId)
  (ho:o.op = .call { callee:=.builtin .append,args:=#[s,x],argTypes:=#[t,t] }) (e:TypeId) (i:TypeInfo) (ht:P.underlying t=some (.slice e)) (hi:P.info? e=some i)
  (hs:a.eval s = .slice none 0 0) {A:Option Addr} {c:Nat} (hx:a.eval x = .slice A 0 c) (h:wpList P ops Q rest (a.put o.dst (.slice none 0 0)) w):wpList P ops Q (o :: rest) a w:=by
 refine wpList_plain hgd fun K hK=>?_
 have hr:(Builtin.append_ #[t,t] o.type #[.slice none 0 0,.slice A 0 c]).run P w = .ok (.slice none 0 0) w:=by
  cases A <;> simp [Builtin.append_,run_underlying ht,sizeOf,typeInfo,hi,Builtin.lenOf,Builtin.firstCells,loadCells,loadCellsFrom]
 unfold Oper.wp execOp;simp only [ho,resolve,invoke,builtin,Sem.run_bind,Sem.run_pure,Result.andThen_ok,List.map_toArray,List.map_cons,List.map_nil,hs,hx,hr];exact hK _ _ h
theorem Qhu (hgd:o.guard=none) (s x:Operand) (t:TypeId)
  (ho:o.op = .call { callee:=.builtin .append,args:=#[s,x],argTypes:=#[t,t] })
  (e:TypeId) (i:TypeInfo) (z:Value) (size bytes:Nat) (ht:P.underlying t=some (.slice e)) (hi:P.info? e=some i) (hz:i.zero=some z)
  (hsize:i.size=size) (hby:i.bytes=bytes) (hzs:z.cells.size=size) (hsz:0<size)
  (hs:a.eval s = .slice none 0 0) {A:Option Addr} {m c:Nat} {news:List Value} (hx:a.eval x = .slice A m c) (hl:news.length=m*size)
  (hnews:0<m→∃ b off,A=some ⟨b,off,none⟩∧∀ j u,news[j]? = some u→w.cell? ⟨b,off+j,none⟩=some u) (h1:∀ u∈news,u.oneCell'=true)
  (hbytes:m*bytes≤140737488355328) (h63:m≤maxLen)
  (h:∀ v' w',w'.ownsRow w.heap.size e size v' m news→w.grownBy w' none→wpList P ops Q rest (a.put o.dst v') w'):wpList P ops Q (o :: rest) a w:=by
 rcases Nat.eq_zero_or_pos m with hm | hm
 ·subst hm;have hn:news = []:=List.eq_nil_of_length_eq_zero (by rw [hl];omega);subst hn;exact Qka hgd s x t ho e i ht hi hs hx (h _ w (World.ownsRow_nil _ _ _ _) ⟨rfl,rfl,rfl,xA _,fun _ _ _=>rfl⟩)
 ·obtain ⟨b,off,hA,hc⟩:=hnews hm;subst hA;have hadd:∀ j,((⟨b,off,none⟩:Addr).add j)=⟨b,off+j,none⟩:=fun j=>by unfold Addr.add;split <;> simp_all
  refine wpList_append_lies w hgd s x t ho w.heap.size e i z size bytes ht hi hz hsize hby hzs hsz (.slice none 0 0) 0 [] hs (World.ownsRow_nil _ _ _ _) ⟨b,off,none⟩ m c news hx hl (fun j u hu=>by rw [hadd];exact hc j u hu) h1 hm (by omega) (by rw [Nat.zero_add];exact hbytes) (xA _) w.heap.size rfl ?_;intro g cap w' hown hg _ _;rw [Nat.zero_add,xU] at hown;exact h _ w' (by rw [Nat.zero_add];exact hown) hg
end
mutual
def Qmn:Tr→Bool
 | .mk _ _ ls ks=>decide (ls.length≤8796093022208) && decide (ks.length≤1900000000000) && Qy8 ks
def Qy8:List Tr→Bool
 | []=>true
 | t :: r=>Qmn t && Qy8 r
end
theorem Qub:(l:List Tr)→(j:Nat)→(k:Tr)→Qy8 l=true→l[j]? = some k→Qmn k=true
 | [],j,k,_,h=>by simp at h
 | a :: r,j,k,hs,h=>by
  unfold Qy8 at hs;rw [Bool.and_eq_true] at hs;cases j with
  | zero=>simp at h;subst h;exact hs.1
  | succ j=>exact Qub r j k hs.2 (by simpa using h)
theorem Qih {t:Tr} (h:Qmn t=true):t.leads.length≤8796093022208∧t.kids.length≤1900000000000∧∀ (j:Nat) (k:Tr),t.kids[j]? = some k→Qmn k=true:=by
 cases t with
 | mk kd tx ls ks =>
  unfold Qmn at h;simp only [Bool.and_eq_true,decide_eq_true_eq] at h;exact ⟨h.1.1,h.1.2,fun j k hk=>Qub ks j k h.2 hk⟩
theorem TrsAt.vals {S:Nat→Prop} {w:World} {b:Nat}:(l:List Tr)→(off:Nat)→TrsAt S w b off l→∃ us:List TV,us.length=l.length∧(∀ (i:Nat) (k:Tr) (u:TV),l[i]? = some k→us[i]? = some u→TrAt S w k u)∧∀ (j:Nat) (x:Value),(Qag us)[j]? = some x→w.cell? ⟨b,off+j,none⟩=some x
 | [],off,h=>⟨[],rfl,fun i k u h=>by simp at h,fun j x h=>by simp [Qag] at h⟩
 | t :: r,off,h=>by
  unfold TrsAt at h;obtain ⟨v,c0,c1,c2,c3,ht,hr⟩:=h;obtain ⟨us,h1,h2,h3⟩:=TrsAt.vals r (off+4) hr
  refine ⟨v :: us,by simp [h1],fun i k u hk hu=>?_,fun j x hx=>?_⟩
  ·cases i with
   | zero=>simp at hk hu;subst hk hu;exact ht
   | succ i=>exact h2 i k u (by simpa using hk) (by simpa using hu)
  ·have hs:Qag (v :: us)=v.cells ++ Qag us:=by unfold Qag;rw [List.flatMap_cons]
   rw [hs] at hx;have h4:v.cells.length=4:=rfl
   rcases Nat.lt_or_ge j 4 with hj | hj
   ·rw [yB (by omega)] at hx
    rcases (show j=0∨j=1∨j=2∨j=3 from by omega) with rfl | rfl | rfl | rfl
    ·simp [TV.cells] at hx;subst hx;exact c0
    ·simp [TV.cells] at hx;subst hx;exact c1
    ·simp [TV.cells] at hx;subst hx;exact c2
    ·simp [TV.cells] at hx;subst hx;exact c3
   ·rw [xX (by omega),h4] at hx;have:=h3 (j-4) x hx
    rw [show off+4+(j-4)=off+j from by omega] at this;exact this
theorem KidsIn.vals {S:Nat→Prop} {w:World} {t:Tr} {v:TV} (h:TrAt S w t v):∃ us:List TV,us.length=t.kids.length∧(∀ (i:Nat) (k:Tr) (u:TV),t.kids[i]? = some k→us[i]? = some u→TrAt S w k u)∧(0<t.kids.length→∃ b off,v.ka=some ⟨b,off,none⟩∧∀ (j:Nat) (x:Value),(Qag us)[j]? = some x→w.cell? ⟨b,off+j,none⟩=some x):=by
 cases t with
 | mk k x ls ks =>
  unfold TrAt at h
  by_cases hk:ks = []
  ·subst hk;exact ⟨[],rfl,(fun i k u h _=>by simp [Tr.kids] at h),(fun h=>absurd h (by simp [Tr.kids]))⟩
  ·obtain ⟨b,off,hA,_,ht⟩:=h.2.2.2.2.2.1 hk;obtain ⟨us,h1,h2,h3⟩:=TrsAt.vals ks off ht;exact ⟨us,h1,h2,fun _=>⟨b,off,hA,h3⟩⟩
theorem StrsAt.vals {S:Nat→Prop} {w:World} {A:Option Addr} {l:List ByteArray} (h:StrsAt S w A l):0<l.length→∃ b off,A=some ⟨b,off,none⟩∧∀ (j:Nat) (x:Value),(l.map Value.string)[j]? = some x→w.cell? ⟨b,off+j,none⟩=some x:=fun h0=>by
 obtain ⟨b,off,hA,_,hc⟩:=h (fun e=>by rw [e] at h0;simp at h0);refine ⟨b,off,hA,fun j x hx=>?_⟩;rw [List.getElem?_map] at hx;cases hl:l[j]? with
 | none=>rw [hl] at hx;cases hx
 | some y =>
  rw [hl] at hx;simp at hx
  subst hx;exact hc j y hl
theorem Qhv (l:List ByteArray):∀ u∈l.map Value.string,u.oneCell'=true:=by
 intro u hu;obtain ⟨x,_,rfl⟩:=List.mem_map.1 hu;rfl
theorem Qgm {w w':World} (h:w.grownBy w' none):Below w.heap.size w w':=⟨h.os,h.tape,h.output,h.size,fun k hk=>h.block k hk (by simp)⟩
def RowIs (cs:Array Value) (vs:List TV):Prop:=∀ i v,vs[i]? = some v→cs[i*4]? = some (.int .i64 v.kind)∧cs[i*4+1]? = some (.string v.text)∧cs[i*4+2]? = some (.slice v.la v.ll v.lc)∧cs[i*4+3]? = some (.slice v.ka v.kl v.kc)
def Zhx (cs:Array Value) (j:Nat) (y:TV):Array Value:=(((cs.setIfInBounds (j*4) (.int .i64 y.kind)).setIfInBounds (j*4+1) (.string y.text)).setIfInBounds (j*4+2) (.slice y.la y.ll y.lc)).setIfInBounds (j*4+3) (.slice y.ka y.kl y.kc)
theorem RowIs.set {cs:Array Value} {vs:List TV} (h:RowIs cs vs) {j:Nat} (hj:j<vs.length) (y:TV):RowIs (Zhx cs j y) (vs.set j y):=by
 obtain ⟨x,hx⟩:∃ x,vs[j]? = some x:=⟨_,xF hj⟩;obtain ⟨g0,g1,g2,g3⟩:=h j x hx;have l0:=(Array.getElem?_eq_some_iff.1 g0).1;have l1:=(Array.getElem?_eq_some_iff.1 g1).1;have l2:=(Array.getElem?_eq_some_iff.1 g2).1;have l3:=(Array.getElem?_eq_some_iff.1 g3).1;intro i v hv;unfold Zhx
 by_cases hij:i=j
 ·subst hij;rw [List.getElem?_set_self hj] at hv;injection hv with hv;subst hv;refine ⟨?_,?_,?_,?_⟩ <;> simp [Array.getElem?_setIfInBounds] <;> omega
 ·rw [List.getElem?_set_ne (fun e=>hij e.symm)] at hv;obtain ⟨f0,f1,f2,f3⟩:=h i v hv
  refine ⟨?_,?_,?_,?_⟩
  ·rw [xY (by omega),xY (by omega),xY (by omega),xY (by omega)];exact f0
  ·rw [xY (by omega),xY (by omega),xY (by omega),xY (by omega)];exact f1
  ·rw [xY (by omega),xY (by omega),xY (by omega),xY (by omega)];exact f2
  ·rw [xY (by omega),xY (by omega),xY (by omega),xY (by omega)];exact f3
structure Rest1 (g:Nat) (w w':World):Prop where
 os:w'.os=w.os
 tape:w'.tape=w.tape
 output:w'.output=w.output
 size:w.heap.size≤w'.heap.size
 block:∀ k,k<w.heap.size→k≠g→w'.heap[k]? = w.heap[k]?
theorem Rest1.refl (g:Nat) (w:World):Rest1 g w w:=⟨rfl,rfl,rfl,xA _,fun _ _ _=>rfl⟩
theorem Rest1.trans {g:Nat} {u v w:World} (h:Rest1 g u v) (k:Rest1 g v w):Rest1 g u w:=⟨k.os.trans h.os,k.tape.trans h.tape,k.output.trans h.output,xQ h.size k.size,fun i hi hx=>(k.block i (xE hi h.size) hx).trans (h.block i hi hx)⟩
theorem Rest1.below {g:Nat} {w w':World} (h:Below w.heap.size w w'):Rest1 g w w':=⟨h.os,h.tape,h.output,h.size,fun k hk _=>h.block k hk⟩
theorem Rest1.set (w:World) (g o:Nat) (u:Value):Rest1 g w (w.setCell ⟨g,o,none⟩ u):=⟨rfl,rfl,rfl,by simp [World.setCell],fun k _ hk=>Below.heap_setCell _ _ _ _ (fun e:k=g=>hk e)⟩
theorem Rest1.down {g B:Nat} {w w':World} (h:Rest1 g w w') (hg:B≤g) (hB:B≤w.heap.size):Below B w w':=⟨h.os,h.tape,h.output,h.size,fun k hk=>h.block k (xE hk hB) (by omega)⟩
def Zhh (w:World) (g j:Nat) (y:TV):World:=(((w.setCell ⟨g,j*4,none⟩ (.int .i64 y.kind)).setCell ⟨g,j*4+1,none⟩ (.string y.text)).setCell ⟨g,j*4+2,none⟩ (.slice y.la y.ll y.lc)).setCell ⟨g,j*4+3,none⟩ (.slice y.ka y.kl y.kc)
theorem Qqh {w:World} {g j:Nat} {cs:Array Value} {T:TypeId} (y:TV) (h:w.heap[g]? = some (.cells cs T (0,0))):(Zhh w g j y).heap[g]? = some (.cells (Zhx cs j y) T (0,0)):=Qay (Qay (Qay (Qay h rfl) rfl) rfl) rfl
theorem Qii (w:World) (g j:Nat) (y:TV):Rest1 g w (Zhh w g j y):=(((Rest1.set w g _ _).trans (Rest1.set _ g _ _)).trans (Rest1.set _ g _ _)).trans (Rest1.set _ g _ _)
def ClAt (t:Tr) (us:List TV) (g:Nat) (W:World) (i:Value) (wr:World):Prop :=
 ∃ (j:Nat) (vs:List TV) (cs:Array Value),i = .int .i64 j∧j≤t.kids.length∧vs.length=t.kids.length∧(∀ i,j≤i→vs[i]? = us[i]?)∧wr.heap[g]? = some (.cells cs 25 (0,0))∧RowIs cs vs ∧
  (∀ (i:Nat) (k:Tr) (u:TV),i<j→t.kids[i]? = some k→vs[i]? = some u→TrAt (fun b=>g<b∧b<wr.heap.size) wr k u)∧Rest1 g W wr
theorem TrAt.make {S:Nat→Prop} {w:World} {t:Tr} {v:TV} (h1:v.kind=t.kind) (h2:v.text=t.text) (h3:v.ll=t.leads.length) (h4:v.kl=t.kids.length) (h5:StrsAt S w v.la t.leads) (h6:KidsIn S w v.ka t.kids) (h7:v.ll≤v.lc∧v.kl≤v.kc):TrAt S w t v:=by
 cases t
 unfold TrAt;exact ⟨h1,h2,h3,h4,h5,h6,h7⟩
theorem Quc {w:World} {B c:Nat} {a:Option Addr} {l:List ByteArray} (h:w.ownsRow B 9 1 (.slice a l.length c) l.length (l.map Value.string)):StrsAt (fun k=>B≤k∧k<w.heap.size) w a l:=fun hne=>by
 have hl:0<l.length:=by
  rcases Nat.eq_zero_or_pos l.length with h | h
  ·exact absurd (List.eq_nil_of_length_eq_zero h) hne
  ·exact h
 rcases h.2 with ⟨_,h0⟩|⟨g,cap,cur,hv,hb,hh,hnc,hm,hsz,htk⟩
 ·omega
 ·injection hv with e1 e2 e3;refine ⟨g,0,e1,⟨hb,Qaa hh⟩,fun i x hx=>?_⟩;refine Qab hh _ _ ?_;have h1:(l.map Value.string)[i]? = some (.string x):=by rw [List.getElem?_map,hx];rfl
  rw [←htk] at h1
  have hlt:i<l.length*1:=by
   have:=(xP.1 h1).1
   rw [List.length_take] at this;omega
  rw [List.getElem?_take_of_lt hlt] at h1;rw [Nat.zero_add,←Array.getElem?_toList];exact h1
theorem Qao {w:World} {b o k:Nat} {u:Value} (h:k≠b):(w.setCell ⟨b,o,none⟩ u).heap[k]? = w.heap[k]?:=Below.heap_setCell _ _ _ _ (fun e:k=b=>h e)
theorem Qa1 {w:World} {b k:Nat} (u:TV) (h:k≠b):(Qeg w b u).heap[k]? = w.heap[k]?:=(((Qao h).trans (Qao h)).trans (Qao h)).trans (Qao h)
theorem Qb3 (w:World) (b:Nat) (u:TV):(Qeg w b u).heap.size=w.heap.size:=by simp [Qeg,World.setCell]
theorem Qqi (N:Nat):∀ (S:Nat→Prop) (t:Tr) (v:TV) (w:World),SizeOf.sizeOf t≤N→TrAt S w t v→Qmn t=true →
  Calls Tryz.prog 80 #[.agg #[.int .i64 v.kind,.string v.text,.slice v.la v.ll v.lc,.slice v.ka v.kl v.kc]] w fun e w'=>∃ u:TV,e = .returned (.agg #[.int .i64 u.kind,.string u.text,.slice u.la u.ll u.lc,.slice u.ka u.kl u.kc])∧TrAt (fun k=>w.heap.size≤k∧k<w'.heap.size) w' t u∧Below w.heap.size w w':=by
 induction N with
 | zero=>intro S t v w h;have:=Qgu t;omega
 | succ N ih =>
  intro S t v w hN h hz;have HIH:=hQ ih;obtain ⟨hf1,hf2,hf3⟩:=Qih hz;have HF1:=hQ hf1;have HF2:=hQ hf2;have HF3:=hQ hf3;have HN:=hQ hN;obtain ⟨e1,e2,e3,e4⟩:=h.kl;have hb0:=((xC w.heap.size w).alloc (xA _) (trO v)).alloc (by rw [xI];omega) (.cells #[.int .i64 0,.string ⟨#[]⟩,.slice none 0 0,.slice none 0 0] 25);have HB0:=hQ hb0;have HT:=hQ (TrAt.keep (TrAt.low t v h) hb0);obtain ⟨vk,vx,vla,vll,vlc,vka,vkl,vkc⟩:=v;simp only at e1 e2 e3 e4;subst e1 e2;have HE3:=hQ e3;have HE4:=hQ e4;have HX:=hQ (show ((w.alloc (trO ⟨vk,vx,vla,t.leads.length,vlc,vka,t.kids.length,vkc⟩)).alloc (.cells #[.int .i64 0,.string ⟨#[]⟩,.slice none 0 0,.slice none 0 0] 25)).heap[w.heap.size]? = some (trO ⟨vk,vx,vla,t.leads.length,vlc,vka,t.kids.length,vkc⟩) from (((xC (w.alloc (trO ⟨vk,vx,vla,t.leads.length,vlc,vka,t.kids.length,vkc⟩)).heap.size _).alloc (xA _) _).block w.heap.size (by simp)).trans (xH w _));have HR:=hQ (show ((w.alloc (trO ⟨vk,vx,vla,t.leads.length,vlc,vka,t.kids.length,vkc⟩)).alloc (.cells #[.int .i64 0,.string ⟨#[]⟩,.slice none 0 0,.slice none 0 0] 25)).heap[w.heap.size+1]? = some (.cells #[.int .i64 0,.string ⟨#[]⟩,.slice none 0 0,.slice none 0 0] 25 (0,0)) from by rw [←xI w (trO ⟨vk,vx,vla,t.leads.length,vlc,vka,t.kids.length,vkc⟩)];exact xH _ _);obtain ⟨is,his,hs0,hs1,hs2⟩:=info_parts Qcw;obtain ⟨it,hit,ht0,ht1,ht2⟩:=info_parts Qcd;have k2:=Qab HX.out 2 _ rfl;have k3:=Qab HX.out 3 _ rfl;have rf:=xL HX.out;have hbl:=Qaa HX.out;clear ih hf1 hf2 hf3 h hz hN hb0 e3 e4
  go_enter Tryz.func80,Tryz.ntmps80
  go_wp2_with (first
   | (at_builtin;refine Qhu rfl _ _ 23 rfl 9 is _ 1 16 Tryz.underlying23 his hs0 hs1 hs2 rfl (by decide) rfl (A:=vla) (m:=t.leads.length) (c:=vlc) (news:=t.leads.map Value.string) rfl (by simp) HT.out.strsIn.vals (Qhv _) (by have:=HF1.out;omega) (by have:=HF1.out;unfold maxLen;omega) ?_;intro LA w1 hown1 hg1;obtain ⟨la',lc',rfl⟩:=Qet hown1;have HO1:=hQ hown1;have HG1:=hQ (Qgm hg1);have hx1:=(HG1.out.block w.heap.size hbl).trans HX.out;have HB1:=hQ ((HB0.out.trans (HG1.out.mono (by simp;omega))).setCell (p:=⟨w.heap.size,2,none⟩) (xA _) (.slice la' t.leads.length lc'));have HX1:=hQ (Qay (i:=2) (y:=.slice la' t.leads.length lc') hx1 rfl);have HT1:=hQ (TrAt.move (w':=w1.setCell ⟨w.heap.size,2,none⟩ (.slice la' t.leads.length lc')) (fun _ h=>h) (fun k hk _=>(Below.setCell (p:=⟨w.heap.size,2,none⟩) (show Below w.heap.size _ w1 from HG1.out.mono (by simp;omega)) (xA _) (.slice la' t.leads.length lc')).block k hk) _ _ HT.out);obtain ⟨us,hul,hut,huc⟩:=KidsIn.vals HT1.out;have HUL:=hQ hul;have HUT:=hQ hut;have HUC:=hQ huc;clear hown1 hg1 k2 k3 rf hbl hul hut huc;have k0:=Qab hx1 0 _ rfl;have k1:=Qab hx1 1 _ rfl;have k2:=Qab hx1 2 _ rfl;have k3:=Qab hx1 3 _ rfl;have rf:=xL hx1;have hbl:=Qaa hx1;clear hx1)
   | (at_builtin;refine Qhu rfl _ _ 22 rfl 25 it _ 4 72 Tryz.underlying22 hit ht0 ht1 ht2 rfl (by decide) rfl (A:=vka) (m:=t.kids.length) (c:=vkc) (news:=Qag us) rfl (by rw [Qd0,HUL.out]) HUC.out (Qcv us) (by have:=HF2.out;omega) (by have:=HF2.out;unfold maxLen;omega) ?_;intro KA w2 hown2 hg2;obtain ⟨ka',kc',rfl⟩:=Qet hown2;have HO2:=hQ hown2;have HG2:=hQ (Qgm hg2);have hx2:=(HG2.out.block w.heap.size (Qaa HX1.out)).trans HX1.out;clear hown2 hg2 k0 k1 k2 k3 rf hbl;have k0:=Qab hx2 0 _ rfl;have k1:=Qab hx2 1 _ rfl;have k2:=Qab hx2 2 _ rfl;have k3:=Qab hx2 3 _ rfl;have rf:=xL hx2;have hbl:=Qaa hx2;have HX2:=hQ (Qay (i:=3) (y:=.slice ka' t.kids.length kc') hx2 rfl);clear hx2))
  have r1:=(HG1.out.block (w.heap.size+1) (Qaa HR.out)).trans HR.out;have r1':(w1.setCell ⟨w.heap.size,2,none⟩ (.slice la' t.leads.length lc')).heap[w.heap.size+1]? = _:=(Qao (by omega)).trans r1;have r2:=(HG2.out.block (w.heap.size+1) (Qaa r1')).trans r1';have r2':(w2.setCell ⟨w.heap.size,3,none⟩ (.slice ka' t.kids.length kc')).heap[w.heap.size+1]? = _:=(Qao (by omega)).trans r2;have HR2:=hQ r2';have HLS:=hQ (Quc HO1.out);have HC1:=hQ (Qfj HO1.out);have HC2:=hQ (Qfj HO2.out);have hs1:(w1.setCell ⟨w.heap.size,2,none⟩ (.slice la' t.leads.length lc')).heap.size=w1.heap.size:=by simp [World.setCell]
  have hs0':((w.alloc (trO ⟨vk,vx,vla,t.leads.length,vlc,vka,t.kids.length,vkc⟩)).alloc (.cells #[.int .i64 0,.string ⟨#[]⟩,.slice none 0 0,.slice none 0 0] 25)).heap.size=w.heap.size+2:=by simp
  -- the leads' block,in the last world
  have HLW2:=hQ (show ∀ b,w.heap.size+2≤b→b<w1.heap.size→b<(w2.setCell ⟨w.heap.size,3,none⟩ (.slice ka' t.kids.length kc')).heap.size∧(w2.setCell ⟨w.heap.size,3,none⟩ (.slice ka' t.kids.length kc')).heap[b]? = w1.heap[b]? from fun b hb hb1=>⟨by
   have:=HG2.out.size
   rw [hs1] at this;simp [World.setCell]
   omega,((Qao (by omega)).trans (HG2.out.block b (by rw [hs1];exact hb1))).trans (Qao (by omega))⟩)
  have HS0:=hQ hs0';have HS1:=hQ hs1;clear r1 r1' r2 r2' hs1 hs0'
  by_cases hn0:t.kids.length=0
  ·have HN0:=hQ hn0;have HD12:Below w.heap.size (w1.setCell ⟨w.heap.size,2,none⟩ (.slice la' t.leads.length lc')) (w2.setCell ⟨w.heap.size,3,none⟩ (.slice ka' t.kids.length kc')):=Below.setCell (p:=⟨w.heap.size,3,none⟩) (show Below w.heap.size _ w2 from HG2.out.mono (Nat.le_of_lt (Qaa HX1.out))) (xA _) _;have HDW:=hQ HD12;clear k0 k1 k2 k3 rf hbl HD12 hn0
   go_loopw [16] (fun i wr=>i = .int .i64 0∧w2.setCell ⟨w.heap.size,3,none⟩ (.slice ka' t.kids.length kc')=wr) (fun _ _=>0)
   case atStart=>exact ⟨rfl,rfl⟩
   case round =>
    obtain ⟨rfl,rfl⟩:=hrel;have hn1:¬ 0<t.kids.length:=by have:=HN0.out;omega
    have k0:=Qab HX2.out 0 _ rfl;have k1:=Qab HX2.out 1 _ rfl;have k2:=Qab HX2.out 2 _ rfl;have k3:=Qab HX2.out 3 _ rfl;have tbl:=Qaa HX2.out;have r0:=Qab HR2.out 0 _ rfl;have r1:=Qab HR2.out 1 _ rfl;have r2:=Qab HR2.out 2 _ rfl;have r3:=Qab HR2.out 3 _ rfl;have rbl:=Qaa HR2.out;have rrf:=xL HR2.out
    generalize hW:w2.setCell ⟨w.heap.size,3,none⟩ (.slice ka' t.kids.length kc')=WR at HX2 HR2 HLW2 HDW k0 k1 k2 k3 tbl r0 r1 r2 r3 rbl rrf ⊢
    clear hW
    go_wp2
    refine bodyPost_ret (v:=.agg #[.int .i64 vk,.string vx,.slice la' t.leads.length lc',.slice ka' t.kids.length kc']) (by simp [results,Tryz.results80,go_sem, *]) rfl ?_
    refine ⟨⟨vk,vx,la',t.leads.length,lc',ka',t.kids.length,kc'⟩,rfl,?_,?_⟩
    ·have hsz:(Qeg WR (w.heap.size+1) ⟨vk,vx,la',t.leads.length,lc',ka',t.kids.length,kc'⟩).heap.size=WR.heap.size:=Qb3 _ _ _
     have hlw:∀ b,w.heap.size+2≤b→b<w1.heap.size→b<WR.heap.size∧(Qeg WR (w.heap.size+1) ⟨vk,vx,la',t.leads.length,lc',ka',t.kids.length,kc'⟩).heap[b]? = w1.heap[b]?:=fun b hb hb1=>by
      obtain ⟨h1,h2⟩:=HLW2.out b hb hb1;exact ⟨h1,(Qa1 ⟨vk,vx,la',t.leads.length,lc',ka',t.kids.length,kc'⟩ (by omega)).trans h2⟩
     have hlo:∀ b,((w.alloc (trO ⟨vk,vx,vla,t.leads.length,vlc,vka,t.kids.length,vkc⟩)).alloc (.cells #[.int .i64 0,.string ⟨#[]⟩,.slice none 0 0,.slice none 0 0] 25)).heap.size≤b→w.heap.size+2≤b:=fun b hb=>by rw [HS0.out] at hb;exact hb
     show TrAt _ (Qeg WR (w.heap.size+1) ⟨vk,vx,la',t.leads.length,lc',ka',t.kids.length,kc'⟩) t _
     exact TrAt.make HE3.out HE4.out rfl rfl (HLS.out.move (fun b hb=>⟨by have:=hlo b hb.1;omega,xE (hlw b (hlo b hb.1) hb.2).1 (Nat.le_of_eq hsz.symm)⟩) (fun b hb _=>(hlw b (hlo b hb.1) hb.2).2)) (fun h=>absurd (List.eq_nil_of_length_eq_zero HN0.out) h) ⟨HC1.out,HC2.out⟩
    ·exact (HB1.out.trans HDW.out).trans ((Qbk WR (w.heap.size+1) ⟨vk,vx,la',t.leads.length,lc',ka',t.kids.length,kc'⟩).mono (Nat.le_succ _))
  ·obtain ⟨g,hg1,hg2,cur,hg3,hg4⟩:∃ g,ka'=some ⟨g,0,none⟩∧(w1.setCell ⟨w.heap.size,2,none⟩ (.slice la' t.leads.length lc')).heap.size≤g∧∃ cur,w2.heap[g]? = some (.cells cur 25 (0,0))∧RowIs cur us:=by
    rcases HO2.out.2 with ⟨_,h0⟩|⟨g,cap,cur,hv,hb,hh,hnc,hm,hsz,htk⟩
    ·exact absurd h0 hn0
    ·injection hv with e1 e2 e3;refine ⟨g,e1,hb,cur,hh,fun i v hv=>?_⟩;obtain ⟨q0,q1,q2,q3⟩:=Qef us i v hv
     have hget:∀ (o:Nat) (x:Value),(Qag us)[o]? = some x→cur[o]? = some x:=fun o x hx=>by
      rw [←htk] at hx
      have hlt:o<t.kids.length*4:=by
       have:=(xP.1 hx).1
       rw [List.length_take] at this;omega
      rw [List.getElem?_take_of_lt hlt] at hx;rw [←Array.getElem?_toList];exact hx
     exact ⟨hget _ _ q0,hget _ _ q1,hget _ _ q2,hget _ _ q3⟩
   subst hg1;have HG3:=hQ hg3;have HG4:=hQ hg4
   have hgt:w.heap.size+1<g:=by
    have h1:=HG1.out.size;have h2:(w1.setCell ⟨w.heap.size,2,none⟩ (.slice la' t.leads.length lc')).heap.size=w1.heap.size:=by simp [World.setCell]
    rw [h2] at hg2;simp at h1
    omega
   have HGT:=hQ hgt;have HGE:=hQ (show w1.heap.size≤g from by rw [HS1.out] at hg2;exact hg2);have hg2l:=Qaa hg3;have HD12:Below w.heap.size (w1.setCell ⟨w.heap.size,2,none⟩ (.slice la' t.leads.length lc')) (w2.setCell ⟨w.heap.size,3,none⟩ (.slice (some ⟨g,0,none⟩) t.kids.length kc')):=Below.setCell (p:=⟨w.heap.size,3,none⟩) (show Below w.heap.size _ w2 from HG2.out.mono (Nat.le_of_lt (Qaa HX1.out))) (xA _) _;have HW2:=hQ (show (w2.setCell ⟨w.heap.size,3,none⟩ (.slice (some ⟨g,0,none⟩) t.kids.length kc')).heap[g]? = some (.cells cur 25 (0,0)) from (Below.heap_setCell _ _ _ _ (fun e:g=w.heap.size=>by omega)).trans hg3);have HDW:=hQ HD12;have HLT2:=hQ (show w.heap.size<(w2.setCell ⟨w.heap.size,3,none⟩ (.slice (some ⟨g,0,none⟩) t.kids.length kc')).heap.size from Qaa HX2.out);clear k0 k1 k2 k3 rf hbl hg3 hg4 hgt hg2 HD12 hn0 hg2l
   go_loopw [16] (fun i wr=>ClAt t us g (w2.setCell ⟨w.heap.size,3,none⟩ (.slice (some ⟨g,0,none⟩) t.kids.length kc')) i wr) (fun i _=>t.kids.length-(intOf i).toNat)
   case atStart=>exact ⟨0,us,cur,rfl,xZ _,HUL.out,fun _ _=>rfl,HW2.out,HG4.out,fun i k u h=>absurd h (Nat.not_lt_zero _),Rest1.refl _ _⟩
   case round =>
    obtain ⟨j,vs,cs,rfl,hj,hvl,hve,hcs,hri,hfr,hrs⟩:=hrel;have HVL:=hQ hvl;have HVE:=hQ hve;have HCS:=hQ hcs;have HRI:=hQ hri;have HFR:=hQ hfr;have HRS:=hQ hrs;have htb:=(hrs.block w.heap.size HLT2.out (by have:=HGT.out;omega)).trans HX2.out;have HTB:=hQ htb;have HDN:=hQ (HDW.out.trans (hrs.down (B:=w.heap.size) (by have:=HGT.out;omega) (Nat.le_of_lt HLT2.out)));clear hvl hve hcs hri hfr hrs
    by_cases hlt:j<t.kids.length
    ·obtain ⟨k,hk⟩:∃ k,t.kids[j]? = some k:=⟨_,xF hlt⟩;obtain ⟨u,hu⟩:∃ u,us[j]? = some u:=⟨_,xF (by rw [HUL.out];exact hlt)⟩;obtain ⟨q0,q1,q2,q3⟩:=HRI.out j u ((HVE.out j (xA _)).trans hu);have c0:=Qab HCS.out _ _ q0;have c1:=Qab HCS.out _ _ q1;have c2:=Qab HCS.out _ _ q2;have c3:=Qab HCS.out _ _ q3;have k3:=Qab htb 3 _ rfl;have gbl:=Qaa HCS.out;have tbl:=Qaa htb;have grf:=xL HCS.out;have HK:=hQ hk;have HU:=hQ (TrAt.move (fun _ h=>h) (fun b hb _=>HDN.out.block b hb) _ _ (HUT.out j k u hk hu));have HNK:=hQ (show SizeOf.sizeOf k≤N from by have:=Qa0 hk;have:=HN.out;omega);have HFK:=hQ (HF3.out j k hk);have HBA:=hQ (((xC wr.heap.size wr).alloc (xA _) (trO u)).drew);have hja:(j:Int)<(t.kids.length:Int):=by omega
     have hj0:(0:Int)≤(j:Int):=by omega
     have HUJ:=hQ hu;clear hk hu q0 q1 q2 q3 htb;go_wp2_with fail
     go_region_law (go_simp;go_at_call 80;refine (HIH.out _ k u _ HNK.out (HU.out.keep HBA.out) HFK.out).mono ?_;rintro e w5 ⟨y,rfl,hty,hb5⟩;have HTY:=hQ hty;have HB5:=hQ (HBA.out.trans (hb5.mono HBA.out.size));have HCS5:=hQ ((HB5.out.block g gbl).trans HCS.out);have HTB5:=hQ ((HB5.out.block w.heap.size tbl).trans HTB.out);have HLW:=hQ (show wr.heap.size<w5.heap.size from xE (show wr.heap.size<(wr.alloc (trO u)).drew.heap.size by simp [World.drew]) hb5.size);clear hb5 hty c0 c1 c2 c3 k3 gbl tbl grf;obtain ⟨q0,q1,q2,q3⟩:=HRI.out j u ((HVE.out j (xA _)).trans HUJ.out);have c0:=Qab HCS5.out _ _ q0;have c1:=Qab HCS5.out _ _ q1;have c2:=Qab HCS5.out _ _ q2;have c3:=Qab HCS5.out _ _ q3;have gbl:=Qaa HCS5.out;have grf:=xL HCS5.out;have k3:=Qab HTB5.out 3 _ rfl;have tbl:=Qaa HTB5.out;clear q0 q1 q2 q3)
     all_goals
      clear c0 c1 c2 c3 k3 gbl tbl grf hja hj0;have hj2:(j:Int)+1≤1900000000001:=by have:=HF2.out;omega
      go_wp2
      go_roundw
      case measure=>simp [intOf];omega
      case rel =>
       have hR:Rest1 g wr (Zhh w5 g j y):=(Rest1.below HB5.out).trans (Qii w5 g j y);have hjv:j<vs.length:=by rw [HVL.out];exact hlt
       have hgw:=Qaa HCS.out;refine ⟨j+1,vs.set j y,Zhx cs j y,by go_num,by omega,by rw [List.length_set];exact HVL.out,fun i hi=>by rw [List.getElem?_set_ne (by omega)];exact HVE.out i (by omega),Qqh y HCS5.out,HRI.out.set hjv y,fun i k' u' hi hk' hu'=>?_,HRS.out.trans hR⟩
       by_cases hij:i=j
       ·subst hij;rw [List.getElem?_set_self hjv] at hu';injection hu' with hu';subst hu';have:=HK.out.symm.trans hk'
        injection this with this;subst this
        refine TrAt.move (fun b hb=>⟨?_,xE hb.2 (Qii w5 g i y).size⟩) (fun b hb hlt=>(Qii w5 g i y).block b hlt (fun e=>?_)) _ _ HTY.out
        ·have h1:=hb.1;simp [World.drew] at h1
         omega
        ·have h1:=hb.1;simp [World.drew] at h1
         omega
       ·rw [List.getElem?_set_ne (fun e=>hij e.symm)] at hu';exact TrAt.move (fun b hb=>⟨hb.1,xE hb.2 hR.size⟩) (fun b hb hlt=>hR.block b hlt (fun e=>by have:=hb.1;omega)) _ _ (HFR.out i k' u' (by omega) hk' hu')
    ·have hjn:j=t.kids.length:=by omega
     subst hjn;have k0:=Qab htb 0 _ rfl;have k1:=Qab htb 1 _ rfl;have k2:=Qab htb 2 _ rfl;have k3:=Qab htb 3 _ rfl;have tbl:=Qaa htb;have hrb:=(HRS.out.block (w.heap.size+1) (Qaa HR2.out) (by have:=HGT.out;omega)).trans HR2.out;have r0:=Qab hrb 0 _ rfl;have r1:=Qab hrb 1 _ rfl;have r2:=Qab hrb 2 _ rfl;have r3:=Qab hrb 3 _ rfl;have rbl:=Qaa hrb;have rrf:=xL hrb;have HRB:=hQ hrb;clear hrb htb
     go_wp2
     refine bodyPost_ret (v:=.agg #[.int .i64 vk,.string vx,.slice la' t.leads.length lc',.slice (some ⟨g,0,none⟩) t.kids.length kc']) (by simp [results,Tryz.results80,go_sem, *]) rfl ?_
     refine ⟨⟨vk,vx,la',t.leads.length,lc',some ⟨g,0,none⟩,t.kids.length,kc'⟩,rfl,?_,?_⟩
     ·have hsz:(Qeg wr (w.heap.size+1) ⟨vk,vx,la',t.leads.length,lc',some ⟨g,0,none⟩,t.kids.length,kc'⟩).heap.size=wr.heap.size:=Qb3 _ _ _
      have hlw:∀ b,w.heap.size+2≤b→b<w1.heap.size→b<wr.heap.size∧(Qeg wr (w.heap.size+1) ⟨vk,vx,la',t.leads.length,lc',some ⟨g,0,none⟩,t.kids.length,kc'⟩).heap[b]? = w1.heap[b]?:=fun b hb hb1=>by
       obtain ⟨h1,h2⟩:=HLW2.out b hb hb1;have hbg:b≠g:=by have:=HGE.out;omega
       exact ⟨xE h1 HRS.out.size,((Qa1 ⟨vk,vx,la',t.leads.length,lc',some ⟨g,0,none⟩,t.kids.length,kc'⟩ (by omega)).trans (HRS.out.block b h1 hbg)).trans h2⟩
      have hlo:∀ b,((w.alloc (trO ⟨vk,vx,vla,t.leads.length,vlc,vka,t.kids.length,vkc⟩)).alloc (.cells #[.int .i64 0,.string ⟨#[]⟩,.slice none 0 0,.slice none 0 0] 25)).heap.size≤b→w.heap.size+2≤b:=fun b hb=>by rw [HS0.out] at hb;exact hb
      show TrAt _ (Qeg wr (w.heap.size+1) ⟨vk,vx,la',t.leads.length,lc',some ⟨g,0,none⟩,t.kids.length,kc'⟩) t _
      refine TrAt.make HE3.out HE4.out rfl rfl (HLS.out.move (fun b hb=>⟨by have:=hlo b hb.1;omega,xE (hlw b (hlo b hb.1) hb.2).1 (Nat.le_of_eq hsz.symm)⟩) (fun b hb _=>(hlw b (hlo b hb.1) hb.2).2)) (fun _=>⟨g,0,rfl,⟨by have:=HGT.out;omega,xE (Qaa HCS.out) (Nat.le_of_eq hsz.symm)⟩,TrsAt.of t.kids 0 (fun i k hk=>?_)⟩) ⟨HC1.out,HC2.out⟩;have hi:=(xP.1 hk).1;obtain ⟨u,hu⟩:∃ u,vs[i]? = some u:=⟨_,xF (by rw [HVL.out];exact hi)⟩;obtain ⟨q0,q1,q2,q3⟩:=HRI.out i u hu;have hg':(Qeg wr (w.heap.size+1) ⟨vk,vx,la',t.leads.length,lc',some ⟨g,0,none⟩,t.kids.length,kc'⟩).heap[g]? = some (.cells cs 25 (0,0)):=(Qa1 ⟨vk,vx,la',t.leads.length,lc',some ⟨g,0,none⟩,t.kids.length,kc'⟩ (by have:=HGT.out;omega)).trans HCS.out
      refine ⟨u,?_,?_,?_,?_,TrAt.move (fun b hb=>⟨by have:=HGT.out;have:=hb.1;omega,xE hb.2 (Nat.le_of_eq hsz.symm)⟩) (fun b hb _=>Qa1 ⟨vk,vx,la',t.leads.length,lc',some ⟨g,0,none⟩,t.kids.length,kc'⟩ (by have:=HGT.out;have:=hb.1;omega)) _ _ (HFR.out i k u hi hk hu)⟩
      ·rw [Nat.zero_add];exact Qab hg' _ _ q0
      ·rw [Nat.zero_add];exact Qab hg' _ _ q1
      ·rw [Nat.zero_add];exact Qab hg' _ _ q2
      ·rw [Nat.zero_add];exact Qab hg' _ _ q3
     ·exact (HB1.out.trans HDN.out).trans ((Qbk wr (w.heap.size+1) ⟨vk,vx,la',t.leads.length,lc',some ⟨g,0,none⟩,t.kids.length,kc'⟩).mono (Nat.le_succ _))
def Zhy (t:Tr) (zs:List Int) (w:World) (e:Ending) (w':World):Prop :=
 Below w.heap.size w w'∧∃ u:TV,e = .returned (.tuple #[.agg #[.int .i64 u.kind,.string u.text,.slice u.la u.ll u.lc,.slice u.ka u.kl u.kc],.bool (Qaz t zs).isSome])∧∃ S:Nat→Prop,(∀ k,S k→k<w'.heap.size)∧TrAt S w' ((Qaz t zs).getD Qlq) u
theorem Qo8:∀ (zs:List Int) (t u:Tr),Qmn t=true→Qaz t zs=some u→Qmn u=true∧SizeOf.sizeOf u≤SizeOf.sizeOf t
 | [],t,u,h,hf=>by injection hf with hf;subst hf;exact ⟨h,xA _⟩
 | i :: r,t,u,h,hf=>by
  unfold Qaz at hf
  cases hk:Qjn t i
  ·rw [hk] at hf;cases hf
  ·rw [hk] at hf;obtain ⟨_,_,h3⟩:=Qd7 hk;obtain ⟨h4,h5⟩:=Qo8 r (Qep t i) u ((Qih h).2.2 _ _ h3) hf;exact ⟨h4,xQ h5 (Nat.le_of_lt (Qa0 h3))⟩
theorem Zhz (S:Nat→Prop) (t:Tr) (v:TV) (A:Option Addr) (c:Nat) (zs:List Int) (w:World) (h:TrAt S w t v) (hA:IntsAt w A zs) (hz:zs.length≤maxLen) (hf:Qmn t=true) :
  Calls Tryz.prog 49 #[.agg #[.int .i64 v.kind,.string v.text,.slice v.la v.ll v.lc,.slice v.ka v.kl v.kc],.slice A zs.length c] w (Zhy t zs w):=by
 have hb0:=((xC w.heap.size w).alloc (xA _) (trO v)).alloc (by rw [xI];omega) (.cells #[.int .i64 0,.string ⟨#[]⟩,.slice none 0 0,.slice none 0 0] 25);have HB0:=hQ hb0;have HT:=hQ (h.keep hb0);have HA:=hQ (hA.keep hb0);have hx:((w.alloc (trO v)).alloc (.cells #[.int .i64 0,.string ⟨#[]⟩,.slice none 0 0,.slice none 0 0] 25)).heap[w.heap.size]? = some (trO v):=(((xC (w.alloc (trO v)).heap.size _).alloc (xA _) _).block w.heap.size (by simp)).trans (xH w _);have HC:=hQ (show CellsAt ((w.alloc (trO v)).alloc (.cells #[.int .i64 0,.string ⟨#[]⟩,.slice none 0 0,.slice none 0 0] 25)) w.heap.size 0 v from ⟨Qab hx 0 _ rfl,Qab hx 1 _ rfl,Qab hx 2 _ rfl,Qab hx 3 _ rfl⟩);have HR:=hQ (show ((w.alloc (trO v)).alloc (.cells #[.int .i64 0,.string ⟨#[]⟩,.slice none 0 0,.slice none 0 0] 25)).heap[w.heap.size+1]? = some (trO ⟨0,⟨#[]⟩,none,0,0,none,0,0⟩) from by rw [←xI w (trO v)];exact xH _ _);have HZ:=hQ hz;have HF:=hQ hf;clear h hA hz hf hx hb0;cases hfd:Qaz t zs with
 | none =>
  have HFD:=hQ hfd
  go_enter Tryz.func49,Tryz.ntmps49
  go_wp2_with fail
  go_at_call 79;refine (Qua S t v w.heap.size 0 A c zs _ HC.out HT.out HA.out HZ.out).mono ?_;rintro e w2 ⟨hb2,he⟩;rw [hfd] at he;subst he;have HB2:=hQ (HB0.out.trans (hb2.mono HB0.out.size));have hr2:=(hb2.block (w.heap.size+1) (Qaa HR.out)).trans HR.out;have r0:=Qab hr2 0 _ rfl;have r1:=Qab hr2 1 _ rfl;have r2:=Qab hr2 2 _ rfl;have r3:=Qab hr2 3 _ rfl;have rbl:=Qaa hr2;have rrf:=xL hr2;clear hb2 hr2 hfd
  go_wp2
  refine bodyPost_ret (v:=.tuple #[.agg #[.int .i64 0,.string ⟨#[]⟩,.slice none 0 0,.slice none 0 0],.bool false]) (by simp [results,Tryz.results49,go_sem, *]) rfl ?_;refine ⟨HB2.out.trans ((Qbk w2 (w.heap.size+1) ⟨0,⟨#[]⟩,none,0,0,none,0,0⟩).mono (Nat.le_succ _)),⟨0,⟨#[]⟩,none,0,0,none,0,0⟩,by rw [HFD.out];rfl,fun _=>False,fun _ h=>h.elim,?_⟩;rw [HFD.out];exact Qmk _ _
 | some u =>
  have HFD:=hQ hfd;have HFU:=hQ (Qo8 zs t u HF.out hfd).1
  go_enter Tryz.func49,Tryz.ntmps49
  go_wp2_with fail
  go_at_call 79;refine (Qua S t v w.heap.size 0 A c zs _ HC.out HT.out HA.out HZ.out).mono ?_;rintro e w2 ⟨hb2,he⟩;rw [hfd] at he;obtain ⟨b,o,y,rfl,⟨c0,c1,c2,c3⟩,hty,_⟩:=he;have HB2:=hQ (HB0.out.trans (hb2.mono HB0.out.size));have HR2:=hQ ((hb2.block (w.heap.size+1) (Qaa HR.out)).trans HR.out);have HTY:=hQ hty;have bbl:b<w2.heap.size:=xK w2 _ c0;clear hb2 hfd hty;go_wp2_with fail
  go_at_call 80;refine (Qqi (SizeOf.sizeOf u) S u y _ (xA _) HTY.out HFU.out).mono ?_;rintro e w3 ⟨y',rfl,hty',hb3⟩;have HB3:=hQ (HB2.out.trans (hb3.mono HB2.out.size));have HR3:=hQ ((hb3.block (w.heap.size+1) (Qaa HR2.out)).trans HR2.out);have HTY':=hQ hty';have r0:=Qab HR3.out 0 _ rfl;have r1:=Qab HR3.out 1 _ rfl;have r2:=Qab HR3.out 2 _ rfl;have r3:=Qab HR3.out 3 _ rfl;have rbl:=Qaa HR3.out;have rrf:=xL HR3.out;clear hb3 hty' c0 c1 c2 c3 bbl
  go_wp2
  refine bodyPost_ret (v:=.tuple #[.agg #[.int .i64 y'.kind,.string y'.text,.slice y'.la y'.ll y'.lc,.slice y'.ka y'.kl y'.kc],.bool true]) (by simp [results,Tryz.results49,go_sem, *]) rfl ?_;refine ⟨HB3.out.trans ((Qbk w3 (w.heap.size+1) y').mono (Nat.le_succ _)),y',by rw [HFD.out];rfl,fun k=>w2.heap.size≤k∧k<w3.heap.size,fun k hk=>xE hk.2 (Qbk w3 (w.heap.size+1) y').size,?_⟩;rw [HFD.out];exact TrAt.move (w':=Qeg w3 (w.heap.size+1) y') (fun _ h=>h) (fun k hk _=>Qa1 y' (by have:=Qaa HR2.out;have:=hk.1;omega)) _ _ HTY'.out
end Go.Proofs.YtfjpemdejoejbaaGreat
namespace Go.Proofs.YtfjpemdejoejbaaGreat
open Go.RowKit Go.ChangeShapes Go.WideShapes Go.Deep
def szB:List ByteArray→Nat
 | []=>0
 | y :: r=>y.size+szB r
mutual
def Qry:Tr→Nat
 | .mk _ x ls ks=>1+x.size+szB ls+ls.length+ks.length+Qwi ks
def Qwi:List Tr→Nat
 | []=>0
 | t :: r=>Qry t+Qwi r
end
mutual
theorem Qy9:(t:Tr)→Qry t≤1048576→Qmn t=true
 | .mk _ _ ls ks,h=>by
  rw [Qry] at h;rw [Qmn,Qud ks (by omega),xS (by omega),xS (by omega)];rfl
theorem Qud:(l:List Tr)→Qwi l≤1048576→Qy8 l=true
 | [],_=>by rw [Qy8]
 | t :: r,h=>by
  rw [Qwi] at h;rw [Qy8,Qy9 t (by omega),Qud r (by omega)];rfl
end
mutual
theorem Qmo:(t:Tr)→Qry t≤1048576→Qcf t=true
 | .mk _ _ ls ks,h=>by
  rw [Qry] at h;rw [Qcf,Qn1 ks (by omega),xS (by omega),xS (by omega)];rfl
theorem Qn1:(l:List Tr)→Qwi l≤1048576→Qda l=true
 | [],_=>by rw [Qda]
 | t :: r,h=>by
  rw [Qwi] at h;rw [Qda,Qmo t (by omega),Qn1 r (by omega)];rfl
end
section
variable {H:Type} {enc:TypeId × Value→H} {w:World} {base:Nat} {spare:Nat→Bool} {held:Bool}
instance:Inhabited Tr:=⟨Qlq⟩
instance:Inhabited TV:=⟨⟨0,⟨#[]⟩,none,0,0,none,0,0⟩⟩
theorem Qza (b off n:Nat):((⟨b,off,none⟩:Addr).add n)=⟨b,off+n,none⟩:=by unfold Addr.add;split <;> simp_all
end
end Go.Proofs.YtfjpemdejoejbaaGreat
