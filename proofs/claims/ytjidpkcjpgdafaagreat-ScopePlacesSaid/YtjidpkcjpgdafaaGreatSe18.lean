/- Part 18 -/
import Derived.Test.YtjidpkcjpgdafaaGreatSe17
import Derived.ChangeSlices
import Derived.ProofKit
import Derived.Shelf.RegionOpenPlain
import Derived.Deep.Slices
set_option maxRecDepth 100000
set_option maxHeartbeats 4000000
namespace Go.Proofs.YtjidpkcjpgdafaaGreat
open Go.RowKit Go.ChangeShapes Go.WideShapes
def IntsAt (w:World) (A:Option Addr) (zs:List Int):Prop:=zs≠[]→∃ b off,A=some ⟨b,off,none⟩∧b<w.heap.size∧∀ (i:Nat) (x:Int),zs[i]? = some x→w.cell? ⟨b,off+i,none⟩=some (.int .i64 x)
theorem IntsAt.keep {w w':World} {A:Option Addr} {zs:List Int} (h:IntsAt w A zs) (hb:Below w.heap.size w w'):IntsAt w' A zs:=fun hne=>by
 obtain ⟨b,off,hA,hlt,hc⟩:=h hne;exact ⟨b,off,hA,xE hlt hb.size,fun i x hx=>(xJ (w:=w) (a:=⟨b,off+i,none⟩) (hb.block b hlt)).trans (hc i x hx)⟩
theorem IntsAt.at {w:World} {A:Option Addr} {zs:List Int} (h:IntsAt w A zs) {i:Nat} (hi:i<zs.length):∃ b off,A=some ⟨b,off,none⟩∧b<w.heap.size∧∀ (i:Nat) (x:Int),zs[i]? = some x→w.cell? ⟨b,off+i,none⟩=some (.int .i64 x):=h (fun e=>by rw [e] at hi;simp at hi)
section
variable {H:Type} {enc:TypeId × Value→H} {w:World} {base:Nat} {spare:Nat→Bool} {held:Bool}
theorem Qvv:Tryz.prog.cellsOf 3=1:=by kernel_rfl
theorem Qvw {fuel:Nat} {cs:List Value} {x:DataW H × List MemPlace} (h:DataW.trod enc Tryz.prog w base spare held fuel 23 cs=some x) :
  ∃ (A:Option Addr) (c:Nat) (zs:List Int),cs = [.slice A zs.length c]∧IntsAt w A zs∧zs.length≤maxLen∧zs.length≤c∧∀ z∈zs,(Lit.int .i64 z).wf=true:=by
 rcases open_ints Tryz.underlying23 Tryz.underlying3 Qvv h with ⟨hcs,_⟩|⟨a,len,cap,zs,hcs,_,hl,hm,hz,_,hc,hwf⟩
 ·exact ⟨none,0,[],hcs,fun h=>absurd rfl h,xZ _,xZ _,fun z h=>by simp at h⟩
 ·have hlz:len≤zs.length:=by rw [hz];split <;> omega
  have hlen:(zs.take len).length=len:=by rw [List.length_take];omega
  refine ⟨some a,cap,zs.take len,by rw [hlen];exact hcs,fun hne=>?_,by rw [hlen];omega,by rw [hlen];exact hl,fun z hz=>hwf z (List.mem_of_mem_take hz)⟩
  have h0:0<len:=by
   rcases Nat.eq_zero_or_pos len with h | h
   ·subst h;exact absurd rfl hne
   ·exact h
  obtain ⟨b,off,spot⟩:=a
  have hspot:spot=none:=by
   have:=World.cell?_spot (hc 0 (by omega))
   simpa [Addr.add] using this
  subst hspot;have hadd:∀ n:Nat,((⟨b,off,none⟩:Addr).add n)=⟨b,off+n,none⟩:=fun n=>by unfold Addr.add;split <;> simp_all
  refine ⟨b,off,rfl,?_,fun i x hx=>?_⟩
  ·have:=hc 0 (by omega)
   rw [hadd] at this;exact xK w _ this
  ·have hi:=(xP.1 hx).1;rw [hlen] at hi;have:=hc i (by omega)
   rw [hadd] at this;rw [this];rw [List.getElem?_take_of_lt hi] at hx;rw [List.getD_eq_getElem?_getD,hx];rfl
end
end Go.Proofs.YtjidpkcjpgdafaaGreat
namespace Go.Proofs.YtjidpkcjpgdafaaGreat
open Go.RowKit
def Qmr (t:Tr) (i:Int):Bool:=decide (0≤i) && decide (i<(t.kids.length:Int))
def Qhs (t:Tr) (i:Int):Tr:=(t.kids[i.toNat]?).getD Qkk
theorem Qht {t:Tr} {i:Int} (h:Qmr t i=true):0≤i∧i<(t.kids.length:Int)∧t.kids[i.toNat]? = some (Qhs t i):=by
 unfold Qmr at h;simp only [Bool.and_eq_true,decide_eq_true_eq] at h;refine ⟨h.1,h.2,?_⟩;unfold Qhs;rw [xF (by omega)];rfl
def Qbr:Tr→List Int→Option Tr
 | t,[]=>some t
 | t,i :: r=>if Qmr t i then Qbr (Qhs t i) r else none
def Qlu:Nat→Tr→List Int→Int
 | n,_,[]=>n
 | n,t,i :: r=>if Qmr t i then Qlu (n+1+Qao (t.kids.take i.toNat)) (Qhs t i) r else -1
theorem Qof (S:Nat→Prop) (t:Tr) (v:TV) (i:Int) (w:World) (h:TrAt S w t v) :
  Calls Tryz.prog 159 #[.agg #[.int .i64 v.kind,.string v.text,.slice v.la v.ll v.lc,.slice v.ka v.kl v.kc],.int .i64 i] w fun e w'=>e = .returned (.bool (Qmr t i))∧Below w.heap.size w w':=by
 have hkl:=h.kl.1;clear h;obtain ⟨vk,vx,vla,vll,vlc,vka,vkl,vkc⟩:=v;simp only at hkl;subst hkl;have HX:=hQ (xH w (trO ⟨vk,vx,vla,vll,vlc,vka,t.kids.length,vkc⟩));have HB0:=hQ ((xC w.heap.size w).alloc (xA _) (trO ⟨vk,vx,vla,vll,vlc,vka,t.kids.length,vkc⟩));have k3:(w.alloc (trO ⟨vk,vx,vla,vll,vlc,vka,t.kids.length,vkc⟩)).cell? ⟨w.heap.size,3,none⟩=some (.slice vka t.kids.length vkc):=Qab HX.out 3 _ rfl;have HR:=hQ (show Qmr t i=(decide (0≤i) && decide (i<(t.kids.length:Int))) from rfl)
 by_cases h0:0≤i
 ·have d0:=xS h0
  by_cases h1:i<(t.kids.length:Int)
  ·have d1:=xS h1;have HRR:=hQ (show Qmr t i=true from by rw [HR.out,d0,d1];rfl);clear HR
   go_enter Tryz.func159,Tryz.ntmps159
   go_wp2
   go_ret
   exact ⟨by rw [HRR.out];rfl,HB0.out⟩
  ·have d1:=xR h1;have HRR:=hQ (show Qmr t i=false from by rw [HR.out,d1,Bool.and_false]);clear HR
   go_enter Tryz.func159,Tryz.ntmps159
   go_wp2
   go_ret
   exact ⟨by rw [HRR.out];rfl,HB0.out⟩
 ·have d0:=xR h0;have HRR:=hQ (show Qmr t i=false from by rw [HR.out,d0,Bool.false_and]);clear HR
  go_enter Tryz.func159,Tryz.ntmps159
  go_wp2
  go_ret
  exact ⟨by rw [HRR.out];rfl,HB0.out⟩
def Zfa (w:World) (b o:Nat) (y:TV):Prop:=w.cell? ⟨b,o,none⟩=some (.int .i64 y.kind)∧w.cell? ⟨b,o+1,none⟩=some (.string y.text)∧w.cell? ⟨b,o+2,none⟩=some (.slice y.la y.ll y.lc)∧w.cell? ⟨b,o+3,none⟩=some (.slice y.ka y.kl y.kc)
theorem Qfx {α:Type} {l:List α} {j:Nat} {x:α} (h:l[j]? = some x):l.drop j=x :: l.drop (j+1):=by
 obtain ⟨hj,he⟩:=xP.1 h;rw [List.drop_eq_getElem_cons hj,he]
end Go.Proofs.YtjidpkcjpgdafaaGreat
namespace Go.Proofs.YtjidpkcjpgdafaaGreat
open Go.RowKit Go.Shelf
def SumAt (cur:Tr) (q m:Nat) (W:World) (n i:Value) (wr:World):Prop:=∃ l:Nat,i = .int .i64 l∧l≤q∧n = .int .i64 ((m+1+Qao (cur.kids.take l):Nat):Int)∧Below W.heap.size W wr
def NumAt (t0:Tr) (zs:List Int) (w:World) (n i:Value) (wr:World):Prop :=
 ∃ (j m:Nat) (x:TV) (cur:Tr),n = .int .i64 m∧i = .int .i64 j∧j≤zs.length∧Qlu 0 t0 zs=Qlu m cur (zs.drop j)∧wr.heap[w.heap.size]? = some (trO x)∧TrAt (fun k=>k<w.heap.size) wr cur x∧Below w.heap.size w wr∧m+Qal cur≤140737488355328
theorem Qpk {t k:Tr} {j:Nat} (h:t.kids[j]? = some k):1+Qao (t.kids.take j)+Qal k≤Qal t:=by
 have h1:=Qcy h;have h2:=Qdt t.kids (j+1);rw [Qa0 t];omega
theorem Qms (S:Nat→Prop) (t:Tr) (v:TV) (A:Option Addr) (c:Nat) (zs:List Int) (w:World) (h:TrAt S w t v) (hA:IntsAt w A zs) (hz:zs.length≤maxLen) (hs:Qal t≤140737488355328) :
  Calls Tryz.prog 114 #[.agg #[.int .i64 v.kind,.string v.text,.slice v.la v.ll v.lc,.slice v.ka v.kl v.kc],.slice A zs.length c] w fun e w'=>e = .returned (.int .i64 (Qlu 0 t zs))∧Below w.heap.size w w':=by
 have HB0:=hQ ((xC w.heap.size w).alloc (xA _) (trO v));have HT:=hQ (TrAt.low t v (h.keep HB0.out));have HTL:=hQ (show TrAt (fun k=>k<w.heap.size) (w.alloc (trO v)) t v from (TrAt.low t v h).keep HB0.out);have HX:=hQ (xH w (trO v));have HA:=hQ hA;have HS:=hQ hs;have hmax:zs.length≤9223372036854775807:=by unfold maxLen at hz;omega
 clear h hA hz hs
 go_enter Tryz.func114,Tryz.ntmps114
 go_wp2
 go_loopw [5,12] (fun n i wr=>NumAt t zs w n i wr) (fun _ i _=>zs.length-(intOf i).toNat)
 case atStart=>exact ⟨0,0,v,t,rfl,rfl,xZ _,rfl,HX.out,HTL.out,HB0.out,by have:=HS.out;omega⟩
 case round =>
  obtain ⟨j,m,x,cur,rfl,rfl,hj,hf,hx,hty,hb,hms⟩:=hrel;have HF:=hQ hf;have HTY:=hQ hty;have HXX:=hQ hx;have HBR:=hQ hb;have HMS:=hQ hms;have hkl:=hty.kl.1;obtain ⟨vk,vx,vla,vll,vlc,vka,vkl,vkc⟩:=x;simp only at hkl;subst hkl;clear hf hty hx hb hms;have k0:=Qab HXX.out 0 _ rfl;have k1:=Qab HXX.out 1 _ rfl;have k2:=Qab HXX.out 2 _ rfl;have k3:=Qab HXX.out 3 _ rfl;have hbl:=Qaa HXX.out
  by_cases hlt:j<zs.length
  ·obtain ⟨z,hz⟩:∃ z,zs[j]? = some z:=⟨_,xF hlt⟩;obtain ⟨ab,ao,rfl,_,hac⟩:=(HA.out.keep HBR.out).at hlt;have a0:=hac j z hz;have HD:=hQ (Qfx hz);clear hac hz
   cases hkb:Qmr cur z
   ·have HR:=hQ (show Qlu 0 t zs = -1 from by rw [HF.out,HD.out,Qlu,hkb];rfl);go_wp2_with (go_at_call 159;refine (Qof _ cur _ z _ HTY.out).mono ?_;rw [hkb];rintro e w2 ⟨rfl,hb2⟩;have HB2:=hQ (HBR.out.trans (hb2.mono HBR.out.size));clear hb2)
    go_ret
    exact ⟨by rw [HR.out];rfl,HB2.out⟩
   ·obtain ⟨z0,z1,z2⟩:=Qht hkb;have HR:=hQ (show Qlu 0 t zs=Qlu (m+1+Qao (cur.kids.take z.toNat)) (Qhs cur z) (zs.drop (j+1)) from by rw [HF.out,HD.out,Qlu,hkb];rfl);obtain ⟨q,rfl⟩:∃ q:Nat,z=(q:Int):=⟨z.toNat,by omega⟩;rw [Int.toNat_natCast] at z2 HR;have hq:q<cur.kids.length:=by omega
    obtain ⟨kb,ko,hka⟩:∃ b off,vka=some ⟨b,off,none⟩:=HTY.out.addr.resolve_left (by omega);subst hka;have hcap:=HTY.out.caps.2;simp only at hcap;have hsk:=Qpk z2;have hms:=HMS.out;have hqc:(q:Int)≤(vkc:Int):=by omega
    have hm1:(m:Int)+1≤140737488355328:=by omega
    have HSK:=hQ hsk;clear hsk hms;go_wp2_with (go_at_call 159;refine (Qof _ cur _ q _ HTY.out).mono ?_;rw [hkb];rintro e w2 ⟨rfl,hb2⟩;have HB2:=hQ (HBR.out.trans (hb2.mono HBR.out.size));have HX2:=hQ ((hb2.block w.heap.size hbl).trans HXX.out);have HT2:=hQ (HTY.out.keep hb2);clear hb2 k0 k1 k2 k3 hbl a0;have k3:=Qab HX2.out 3 _ rfl)
    go_loopw [5,27] (fun n i wr=>SumAt cur q m w2 n i wr) (fun _ i _=>q-(intOf i).toNat)
    case atStart=>exact ⟨0,rfl,xZ _,by go_num,xC _ _⟩
    case round =>
     obtain ⟨l,rfl,hl,rfl,hb3⟩:=hrel;have HB3:=hQ hb3;have HX3:=hQ ((hb3.block w.heap.size (Qaa HX2.out)).trans HX2.out);have HT3:=hQ (HT2.out.keep hb3);clear hb3 k3
     by_cases hlq:l<q
     ·obtain ⟨k,hk⟩:∃ k,cur.kids[l]? = some k:=⟨_,xF (by omega)⟩;obtain ⟨u,c0,c1,c2,c3,hu⟩:=HT3.out.at rfl hk;have HU:=hQ hu;have HS1:=hQ (Qcy hk);have hs0:=Qcy hk
      have hle:Qao (cur.kids.take (l+1))≤Qao (cur.kids.take q):=by
       have:cur.kids.take (l+1)=(cur.kids.take q).take (l+1):=by rw [List.take_take,Nat.min_eq_left (by omega)]
       rw [this];exact Qdt _ _
      have hsk:=HSK.out;have hms:=HMS.out;have HSZ:=hQ (show Qal k≤140737488355328 by omega);have q1:((m:Nat):Int)+1+((Qao (cur.kids.take l):Nat):Int)+(Qal k:Nat)≤140737488355328:=by omega
      have hj0:(0:Int)≤(l:Int):=by omega
      have hj1:(l:Int)<(q:Int):=by omega
      have HA1:=hQ ((xC wr.heap.size wr).alloc (xA _) (trO u));have hlm:(l:Int)+1≤140737488355328:=by have h1:=Qa5 cur.kids;have h2:=Qa0 cur;omega
      clear hk hu hs0 hle hsk hms;go_wp2_with (go_at_call 160;refine (Zca (SizeOf.sizeOf k) _ k u _ (xA _) (HU.out.keep HA1.out) HSZ.out).mono ?_;rintro e w4 ⟨rfl,hb4⟩;have HB4:=hQ (HB3.out.trans ((HA1.out.trans (hb4.mono HA1.out.size)).mono HB3.out.size));clear hb4)
      go_roundw
      case measure=>simp [intOf];omega
      case rel=>exact ⟨l+1,by go_num,by omega,by rw [HS1.out];go_num,HB4.out⟩
     ·have hlq':l=q:=by omega
      subst hlq';obtain ⟨u,c0,c1,c2,c3,hu⟩:=HT3.out.at rfl z2;have HU:=hQ hu;have k0:=Qab HX3.out 0 _ rfl;have k1:=Qab HX3.out 1 _ rfl;have k2:=Qab HX3.out 2 _ rfl;have k3:=Qab HX3.out 3 _ rfl;have rf:=xL HX3.out;have hbl:=Qaa HX3.out;have kbl:kb<wr.heap.size:=xK wr _ c3;have hl0:(0:Int)≤(l:Int):=by omega
      have hl1:(l:Int)<(cur.kids.length:Int):=by omega
      have HK:=hQ z2;clear hu z2 hkb hl hlq hq hqc z0 z1 hm1
      go_wp2
      go_roundw
      case measure=>simp [intOf];omega
      case rel =>
       have hbw:Below w.heap.size w wr:=HB2.out.trans (HB3.out.mono HB2.out.size);have hms:=HMS.out;have hsk:=HSK.out;exact ⟨j+1,m+1+Qao (cur.kids.take l),u,Qhs cur l,by go_num,by go_num,by omega,HR.out,Qgp u HX3.out,TrAt.move (fun _ h=>h) (fun k hk _=>(Qck wr w.heap.size u).block k hk) _ _ HU.out,hbw.trans (Qck wr w.heap.size u),by omega⟩
  ·have HR:=hQ (show Qlu 0 t zs=m from by rw [HF.out,List.drop_eq_nil_of_le (by omega)];rfl)
   go_wp2
   go_ret
   exact ⟨by rw [HR.out];rfl,HBR.out⟩
theorem mixed:Tryz.prog.follows Departure.mixedOrders=true:=by kernel_rfl
def Qe3:List ByteArray→List ByteArray→Bool
 | [],[]=>true
 | a :: r,b :: s=>(a.toList==b.toList) && Qe3 r s
 | _,_=>false
theorem Qmt:(a b:List ByteArray)→a.length≠b.length→Qe3 a b=false
 | [],[],h=>absurd rfl h
 | [],_ :: _,_=>rfl
 | _ :: _,[],_=>rfl
 | a :: r,b :: s,h=>by
  unfold Qe3;rw [Qmt r s (by simpa using h),Bool.and_false]
theorem Qld (a b:ByteArray) (r s:List ByteArray):Qe3 (a :: r) (b :: s)=((a.toList==b.toList) && Qe3 r s):=rfl
theorem StrsAt.at {S:Nat→Prop} {w:World} {A:Option Addr} {l:List ByteArray} (h:StrsAt S w A l) {j:Nat} (hj:j<l.length):∃ b off,A=some ⟨b,off,none⟩∧∀ (i:Nat) (x:ByteArray),l[i]? = some x→w.cell? ⟨b,off+i,none⟩=some (.string x):=by
 obtain ⟨b,off,hA,_,hc⟩:=h (fun e=>by rw [e] at hj;simp at hj);exact ⟨b,off,hA,hc⟩
theorem StrsAt.keep {S:Nat→Prop} {w w':World} {A:Option Addr} {l:List ByteArray} (h:StrsAt S w A l) (hb:Below w.heap.size w w'):StrsAt S w' A l:=h.move (fun _ h=>h) (fun k _ hlt=>hb.block k hlt)
def Zfb (a b:List ByteArray) (w:World) (i:Value) (wr:World):Prop:=∃ j:Nat,i = .int .i64 j∧j≤a.length∧Qe3 a b=Qe3 (a.drop j) (b.drop j)∧Below w.heap.size w wr
theorem Qvx (S S':Nat→Prop) (A B:Option Addr) (ca cb:Nat) (a b:List ByteArray) (w:World) (ha:StrsAt S w A a) (hb:StrsAt S' w B b) (hm:a.length≤140737488355328) :
  Calls Tryz.prog 38 #[.slice A a.length ca,.slice B b.length cb] w fun e w'=>e = .returned (.bool (Qe3 a b))∧Below w.heap.size w w':=by
 have HA:=hQ ha;have HB:=hQ hb;clear ha hb
 by_cases hl:a.length=b.length
 ·have hne:((a.length:Int) != (b.length:Int))=false:=by rw [hl];simp
  go_enter Tryz.func38,Tryz.ntmps38
  go_wp2
  go_loopw [5] (fun i wr=>Zfb a b w i wr) (fun i _=>a.length-(intOf i).toNat)
  case atStart=>exact ⟨0,rfl,xZ _,rfl,xC _ _⟩
  case round =>
   obtain ⟨j,rfl,hj,hf,hbr⟩:=hrel;have HF:=hQ hf;have HBR:=hQ hbr;clear hf hbr
   by_cases hlt:j<a.length
   ·obtain ⟨x,hx⟩:∃ x,a[j]? = some x:=⟨_,xF hlt⟩;obtain ⟨y,hy⟩:∃ y,b[j]? = some y:=⟨_,xF (by omega)⟩;obtain ⟨xb,xo,rfl,hxc⟩:=(HA.out.keep HBR.out).at hlt;obtain ⟨yb,yo,rfl,hyc⟩:=(HB.out.keep HBR.out).at (j:=j) (by omega);have c0:=hxc j x hx;have d0:=hyc j y hy;have HD:=hQ (show Qe3 a b=((x.toList==y.toList) && Qe3 (a.drop (j+1)) (b.drop (j+1))) from by rw [HF.out,Qfx hx,Qfx hy,Qld]);have hjb:(j:Int)<(b.length:Int):=by omega
    have hja:(j:Int)<(a.length:Int):=by omega
    have hj0:(0:Int)≤(j:Int):=by omega
    clear hxc hyc hx hy
    cases hxy:(x.toList==y.toList)
    ·have HR:=hQ (show Qe3 a b=false from by rw [HD.out,hxy,Bool.false_and]);go_wp2_with fail
     first | go_region_o | go_region
     all_goals
      go_simp
      go_wp2
      go_ret
      exact ⟨by rw [HR.out];rfl,HBR.out.drew⟩
    ·have HR:=hQ (show Qe3 a b=Qe3 (a.drop (j+1)) (b.drop (j+1)) from by rw [HD.out,hxy,Bool.true_and]);go_wp2_with fail
     first | go_region_o | go_region
     all_goals
      go_wp2
      go_roundw
      case measure=>simp [intOf];omega
      case rel=>exact ⟨j+1,by go_num,by omega,HR.out,HBR.out.drew⟩
   ·have HR:=hQ (show Qe3 a b=true from by rw [HF.out,List.drop_eq_nil_of_le (by omega),List.drop_eq_nil_of_le (by omega)];rfl)
    go_wp2
    go_ret
    exact ⟨by rw [HR.out];rfl,HBR.out⟩
 ·have hne:((a.length:Int) != (b.length:Int))=true:=by simp;omega
  have HR:=hQ (Qmt a b hl)
  go_enter Tryz.func38,Tryz.ntmps38
  go_wp2
  go_ret
  exact ⟨by rw [HR.out];rfl,xC _ _⟩
def KidsIn (S:Nat→Prop) (w:World) (A:Option Addr) (l:List Tr):Prop:=l≠[]→∃ b off,A=some ⟨b,off,none⟩∧S b∧TrsAt S w b off l
theorem TrAt.strsIn {S:Nat→Prop} {w:World} {t:Tr} {v:TV} (h:TrAt S w t v):StrsAt S w v.la t.leads:=by
 cases t with
 | mk k x ls ks =>
  unfold TrAt at h;exact h.2.2.2.2.1
mutual
def Zbk:Tr→Bool
 | .mk _ _ ls ks=>decide (ls.length≤8796093022208) && decide (ks.length≤1900000000000) && Zfc ks
def Zfc:List Tr→Bool
 | []=>true
 | t :: r=>Zbk t && Zfc r
end
theorem Qtx:(l:List Tr)→(j:Nat)→(k:Tr)→Zfc l=true→l[j]? = some k→Zbk k=true
 | [],j,k,_,h=>by simp at h
 | a :: r,j,k,hs,h=>by
  unfold Zfc at hs;rw [Bool.and_eq_true] at hs;cases j with
  | zero=>simp at h;subst h;exact hs.1
  | succ j=>exact Qtx r j k hs.2 (by simpa using h)
theorem Qj3 {t:Tr} (h:Zbk t=true):t.leads.length≤8796093022208∧t.kids.length≤1900000000000∧∀ (j:Nat) (k:Tr),t.kids[j]? = some k→Zbk k=true:=by
 cases t with
 | mk kd tx ls ks =>
  unfold Zbk at h;simp only [Bool.and_eq_true,decide_eq_true_eq] at h;exact ⟨h.1.1,h.1.2,fun j k hk=>Qtx ks j k h.2 hk⟩
theorem TrsAt.vals {S:Nat→Prop} {w:World} {b:Nat}:(l:List Tr)→(off:Nat)→TrsAt S w b off l→∃ us:List TV,us.length=l.length∧(∀ (i:Nat) (k:Tr) (u:TV),l[i]? = some k→us[i]? = some u→TrAt S w k u)∧∀ (j:Nat) (x:Value),(Qag us)[j]? = some x→w.cell? ⟨b,off+j,none⟩=some x
 | [],off,h=>⟨[],rfl,fun i k u h=>by simp at h,fun j x h=>by simp [Qag] at h⟩
 | t :: r,off,h=>by
  unfold TrsAt at h;obtain ⟨v,c0,c1,c2,c3,ht,hr⟩:=h;obtain ⟨us,h1,h2,h3⟩:=TrsAt.vals r (off+4) hr
  refine ⟨v :: us,by simp [h1],fun i k u hk hu=>?_,fun j x hx=>?_⟩
  ·cases i with
   | zero=>simp at hk hu;subst hk hu;exact ht
   | succ i=>exact h2 i k u (by simpa using hk) (by simpa using hu)
  ·have hs:Qag (v :: us)=v.cells ++ Qag us:=by unfold Qag;rw [List.flatMap_cons]
   rw [hs] at hx;have h4:v.cells.length=4:=rfl
   rcases Nat.lt_or_ge j 4 with hj | hj
   ·rw [yB (by omega)] at hx
    rcases (show j=0∨j=1∨j=2∨j=3 from by omega) with rfl | rfl | rfl | rfl
    ·simp [TV.cells] at hx;subst hx;exact c0
    ·simp [TV.cells] at hx;subst hx;exact c1
    ·simp [TV.cells] at hx;subst hx;exact c2
    ·simp [TV.cells] at hx;subst hx;exact c3
   ·rw [xX (by omega),h4] at hx;have:=h3 (j-4) x hx
    rw [show off+4+(j-4)=off+j from by omega] at this;exact this
theorem KidsIn.vals {S:Nat→Prop} {w:World} {t:Tr} {v:TV} (h:TrAt S w t v):∃ us:List TV,us.length=t.kids.length∧(∀ (i:Nat) (k:Tr) (u:TV),t.kids[i]? = some k→us[i]? = some u→TrAt S w k u)∧(0<t.kids.length→∃ b off,v.ka=some ⟨b,off,none⟩∧∀ (j:Nat) (x:Value),(Qag us)[j]? = some x→w.cell? ⟨b,off+j,none⟩=some x):=by
 cases t with
 | mk k x ls ks =>
  unfold TrAt at h
  by_cases hk:ks = []
  ·subst hk;exact ⟨[],rfl,(fun i k u h _=>by simp [Tr.kids] at h),(fun h=>absurd h (by simp [Tr.kids]))⟩
  ·obtain ⟨b,off,hA,_,ht⟩:=h.2.2.2.2.2.1 hk;obtain ⟨us,h1,h2,h3⟩:=TrsAt.vals ks off ht;exact ⟨us,h1,h2,fun _=>⟨b,off,hA,h3⟩⟩
theorem StrsAt.vals {S:Nat→Prop} {w:World} {A:Option Addr} {l:List ByteArray} (h:StrsAt S w A l):0<l.length→∃ b off,A=some ⟨b,off,none⟩∧∀ (j:Nat) (x:Value),(l.map Value.string)[j]? = some x→w.cell? ⟨b,off+j,none⟩=some x:=fun h0=>by
 obtain ⟨b,off,hA,_,hc⟩:=h (fun e=>by rw [e] at h0;simp at h0);refine ⟨b,off,hA,fun j x hx=>?_⟩;rw [List.getElem?_map] at hx;cases hl:l[j]? with
 | none=>rw [hl] at hx;cases hx
 | some y =>
  rw [hl] at hx;simp at hx
  subst hx;exact hc j y hl
theorem Qmu (l:List ByteArray):∀ u∈l.map Value.string,u.oneCell'=true:=by
 intro u hu;obtain ⟨x,_,rfl⟩:=List.mem_map.1 hu;rfl
theorem Qsj {w w':World} (h:w.grownBy w' none):Below w.heap.size w w':=⟨h.os,h.tape,h.output,h.size,fun k hk=>h.block k hk (by simp)⟩
def RowIs (cs:Array Value) (vs:List TV):Prop:=∀ i v,vs[i]? = some v→cs[i*4]? = some (.int .i64 v.kind)∧cs[i*4+1]? = some (.string v.text)∧cs[i*4+2]? = some (.slice v.la v.ll v.lc)∧cs[i*4+3]? = some (.slice v.ka v.kl v.kc)
def setR (cs:Array Value) (j:Nat) (y:TV):Array Value:=(((cs.setIfInBounds (j*4) (.int .i64 y.kind)).setIfInBounds (j*4+1) (.string y.text)).setIfInBounds (j*4+2) (.slice y.la y.ll y.lc)).setIfInBounds (j*4+3) (.slice y.ka y.kl y.kc)
theorem RowIs.set {cs:Array Value} {vs:List TV} (h:RowIs cs vs) {j:Nat} (hj:j<vs.length) (y:TV):RowIs (setR cs j y) (vs.set j y):=by
 obtain ⟨x,hx⟩:∃ x,vs[j]? = some x:=⟨_,xF hj⟩;obtain ⟨g0,g1,g2,g3⟩:=h j x hx;have l0:=(Array.getElem?_eq_some_iff.1 g0).1;have l1:=(Array.getElem?_eq_some_iff.1 g1).1;have l2:=(Array.getElem?_eq_some_iff.1 g2).1;have l3:=(Array.getElem?_eq_some_iff.1 g3).1;intro i v hv;unfold setR
 by_cases hij:i=j
 ·subst hij;rw [List.getElem?_set_self hj] at hv;injection hv with hv;subst hv;refine ⟨?_,?_,?_,?_⟩ <;> simp [Array.getElem?_setIfInBounds] <;> omega
 ·rw [List.getElem?_set_ne (fun e=>hij e.symm)] at hv;obtain ⟨f0,f1,f2,f3⟩:=h i v hv
  refine ⟨?_,?_,?_,?_⟩
  ·rw [xY (by omega),xY (by omega),xY (by omega),xY (by omega)];exact f0
  ·rw [xY (by omega),xY (by omega),xY (by omega),xY (by omega)];exact f1
  ·rw [xY (by omega),xY (by omega),xY (by omega),xY (by omega)];exact f2
  ·rw [xY (by omega),xY (by omega),xY (by omega),xY (by omega)];exact f3
structure Rest1 (g:Nat) (w w':World):Prop where
 os:w'.os=w.os
 tape:w'.tape=w.tape
 output:w'.output=w.output
 size:w.heap.size≤w'.heap.size
 block:∀ k,k<w.heap.size→k≠g→w'.heap[k]? = w.heap[k]?
theorem Rest1.trans {g:Nat} {u v w:World} (h:Rest1 g u v) (k:Rest1 g v w):Rest1 g u w:=⟨k.os.trans h.os,k.tape.trans h.tape,k.output.trans h.output,xQ h.size k.size,fun i hi hx=>(k.block i (xE hi h.size) hx).trans (h.block i hi hx)⟩
theorem Rest1.below {g:Nat} {w w':World} (h:Below w.heap.size w w'):Rest1 g w w':=⟨h.os,h.tape,h.output,h.size,fun k hk _=>h.block k hk⟩
theorem Rest1.set (w:World) (g o:Nat) (u:Value):Rest1 g w (w.setCell ⟨g,o,none⟩ u):=⟨rfl,rfl,rfl,by simp [World.setCell],fun k _ hk=>Below.heap_setCell _ _ _ _ (fun e:k=g=>hk e)⟩
theorem Rest1.down {g B:Nat} {w w':World} (h:Rest1 g w w') (hg:B≤g) (hB:B≤w.heap.size):Below B w w':=⟨h.os,h.tape,h.output,h.size,fun k hk=>h.block k (xE hk hB) (by omega)⟩
theorem TrAt.make {S:Nat→Prop} {w:World} {t:Tr} {v:TV} (h1:v.kind=t.kind) (h2:v.text=t.text) (h3:v.ll=t.leads.length) (h4:v.kl=t.kids.length) (h5:StrsAt S w v.la t.leads) (h6:KidsIn S w v.ka t.kids) (h7:v.ll≤v.lc∧v.kl≤v.kc):TrAt S w t v:=by
 cases t
 unfold TrAt;exact ⟨h1,h2,h3,h4,h5,h6,h7⟩
theorem Qav {w:World} {b o k:Nat} {u:Value} (h:k≠b):(w.setCell ⟨b,o,none⟩ u).heap[k]? = w.heap[k]?:=Below.heap_setCell _ _ _ _ (fun e:k=b=>h e)
theorem Qbw {w:World} {b k:Nat} (u:TV) (h:k≠b):(Qf7 w b u).heap[k]? = w.heap[k]?:=(((Qav h).trans (Qav h)).trans (Qav h)).trans (Qav h)
theorem Qdn (w:World) (b:Nat) (u:TV):(Qf7 w b u).heap.size=w.heap.size:=by simp [Qf7,World.setCell]
def Zd1 (t:Tr) (zs:List Int) (w:World) (e:Ending) (w':World):Prop :=
 Below w.heap.size w w'∧∃ u:TV,e = .returned (.tuple #[.agg #[.int .i64 u.kind,.string u.text,.slice u.la u.ll u.lc,.slice u.ka u.kl u.kc],.bool (Qbr t zs).isSome])∧∃ S:Nat→Prop,(∀ k,S k→k<w'.heap.size)∧TrAt S w' ((Qbr t zs).getD Qkk) u
def RAtAt (t0:Tr) (zs:List Int) (w:World) (i:Value) (wr:World):Prop :=
 ∃ (j:Nat) (x:TV) (cur:Tr),i = .int .i64 j∧j≤zs.length∧Qbr t0 zs=Qbr cur (zs.drop j)∧wr.heap[w.heap.size]? = some (trO x)∧wr.heap[w.heap.size+1]? = some (trO ⟨0,⟨#[]⟩,none,0,0,none,0,0⟩)∧TrAt (fun k=>k<w.heap.size) wr cur x∧Below w.heap.size w wr
theorem Qjd (S:Nat→Prop) (t:Tr) (v:TV) (A:Option Addr) (c:Nat) (zs:List Int) (w:World) (h:TrAt S w t v) (hA:IntsAt w A zs) (hz:zs.length≤maxLen) :
  Calls Tryz.prog 42 #[.agg #[.int .i64 v.kind,.string v.text,.slice v.la v.ll v.lc,.slice v.ka v.kl v.kc],.slice A zs.length c] w (Zd1 t zs w):=by
 have hb0:=((xC w.heap.size w).alloc (xA _) (trO v)).alloc (by rw [xI];omega) (.cells #[.int .i64 0,.string ⟨#[]⟩,.slice none 0 0,.slice none 0 0] 29);have HB0:=hQ hb0;have HTL:=hQ ((TrAt.low t v h).keep hb0);have HA:=hQ hA;have HX:=hQ (show ((w.alloc (trO v)).alloc (.cells #[.int .i64 0,.string ⟨#[]⟩,.slice none 0 0,.slice none 0 0] 29)).heap[w.heap.size]? = some (trO v) from (((xC (w.alloc (trO v)).heap.size _).alloc (xA _) _).block w.heap.size (by simp)).trans (xH w _));have HR:=hQ (show ((w.alloc (trO v)).alloc (.cells #[.int .i64 0,.string ⟨#[]⟩,.slice none 0 0,.slice none 0 0] 29)).heap[w.heap.size+1]? = some (trO ⟨0,⟨#[]⟩,none,0,0,none,0,0⟩) from by rw [←xI w (trO v)];exact xH _ _);have hmax:zs.length≤9223372036854775807:=by unfold maxLen at hz;omega
 have mixedL:Tryz.prog.follows Departure.mixedOrders=true:=mixed;clear h hA hz hb0
 go_enter Tryz.func42,Tryz.ntmps42
 go_wp2
 go_loopw [6] (fun i wr=>RAtAt t zs w i wr) (fun i _=>zs.length-(intOf i).toNat)
 case atStart=>exact ⟨0,v,t,rfl,xZ _,rfl,HX.out,HR.out,HTL.out,HB0.out⟩
 case round =>
  obtain ⟨j,x,cur,rfl,hj,hf,hx,hr,hty,hb⟩:=hrel;have HF:=hQ hf;have HTY:=hQ hty;have HXX:=hQ hx;have HRR:=hQ hr;have HBR:=hQ hb;have hkl:=hty.kl.1;obtain ⟨vk,vx,vla,vll,vlc,vka,vkl,vkc⟩:=x;simp only at hkl;subst hkl;clear hf hty hx hr hb;have k0:=Qab HXX.out 0 _ rfl;have k1:=Qab HXX.out 1 _ rfl;have k2:=Qab HXX.out 2 _ rfl;have k3:=Qab HXX.out 3 _ rfl;have hbl:=Qaa HXX.out;have rf:=xL HXX.out;have r0:=Qab HRR.out 0 _ rfl;have r1:=Qab HRR.out 1 _ rfl;have r2:=Qab HRR.out 2 _ rfl;have r3:=Qab HRR.out 3 _ rfl;have rbl:=Qaa HRR.out;have rrf:=xL HRR.out
  by_cases hlt:j<zs.length
  ·obtain ⟨z,hz⟩:∃ z,zs[j]? = some z:=⟨_,xF hlt⟩;obtain ⟨ab,ao,rfl,_,hac⟩:=(HA.out.keep HBR.out).at hlt;have a0:=hac j z hz;have HD:=hQ (Qfx hz);clear hac hz
   by_cases h0:z<0
   ·have d0:=xS h0;have hkb:Qmr cur z=false:=by unfold Qmr;rw [xR (by omega)];rfl
    have HN:=hQ (show Qbr t zs=none from by rw [HF.out,HD.out,Qbr,hkb];rfl);clear hkb;go_wp2_with fail
    go_region_o
    go_wp2
    refine bodyPost_ret (v:=.tuple #[.agg #[.int .i64 0,.string ⟨#[]⟩,.slice none 0 0,.slice none 0 0],.bool false]) (by simp [results,Tryz.results42,go_sem, *]) rfl ?_;refine ⟨HBR.out.drew.trans ((Qck wr.drew (w.heap.size+1) ⟨0,⟨#[]⟩,none,0,0,none,0,0⟩).mono (Nat.le_succ _)),⟨0,⟨#[]⟩,none,0,0,none,0,0⟩,by rw [HN.out];rfl,fun _=>False,fun _ h=>h.elim,?_⟩;rw [HN.out];exact Qmp _ _
   ·have d0:=xR h0
    by_cases h1:z<(cur.kids.length:Int)
    ·have hkb:Qmr cur z=true:=by unfold Qmr;rw [xS (by omega),xS h1];rfl
     obtain ⟨z0,_,z2⟩:=Qht hkb;have HN:=hQ (show Qbr t zs=Qbr (Qhs cur z) (zs.drop (j+1)) from by rw [HF.out,HD.out,Qbr,hkb];rfl);obtain ⟨q,rfl⟩:∃ q:Nat,z=(q:Int):=⟨z.toNat,by omega⟩;rw [Int.toNat_natCast] at z2;obtain ⟨kb,ko,hka⟩:∃ b off,vka=some ⟨b,off,none⟩:=HTY.out.addr.resolve_left (by omega);subst hka;obtain ⟨u,c0,c1,c2,c3,hu⟩:=HTY.out.at rfl z2;have HU:=hQ hu;have kbl:kb<wr.heap.size:=xK wr _ c3;have hq:q<cur.kids.length:=by omega
     have dn1:decide (cur.kids.length≤q)=false:=xR (by omega);have hq0:(0:Int)≤(q:Int):=by omega
     clear hkb z2 hu h0 z0;go_wp2_with fail
     go_region_o
     all_goals
      go_simp
      go_wp2_with fail
      first | go_region_o | go_region
      all_goals
       go_simp
       go_wp2
       go_roundw
       case measure=>simp [intOf];omega
       case rel=>exact ⟨j+1,u,Qhs cur q,by go_num,by omega,HN.out,Qgp (w:=wr.drew.drew) u HXX.out,(Qbw (w:=wr.drew.drew) u (by omega)).trans HRR.out,TrAt.move (fun _ h=>h) (fun k hk _=>(Qck wr.drew.drew w.heap.size u).block k hk) _ _ ((HU.out.keep (xC _ _).drew).keep (xC _ _).drew),HBR.out.drew.drew.trans (Qck wr.drew.drew w.heap.size u)⟩
    ·have d1:decide ((cur.kids.length:Int)≤z)=true:=xS (by omega);have hkb:Qmr cur z=false:=by unfold Qmr;rw [xR h1,Bool.and_false]
     have HN:=hQ (show Qbr t zs=none from by rw [HF.out,HD.out,Qbr,hkb];rfl);clear hkb;go_wp2_with fail
     go_region_o
     all_goals
      go_wp2
      refine bodyPost_ret (v:=.tuple #[.agg #[.int .i64 0,.string ⟨#[]⟩,.slice none 0 0,.slice none 0 0],.bool false]) (by simp [results,Tryz.results42,go_sem, *]) rfl ?_;refine ⟨HBR.out.drew.trans ((Qck wr.drew (w.heap.size+1) ⟨0,⟨#[]⟩,none,0,0,none,0,0⟩).mono (Nat.le_succ _)),⟨0,⟨#[]⟩,none,0,0,none,0,0⟩,by rw [HN.out];rfl,fun _=>False,fun _ h=>h.elim,?_⟩;rw [HN.out];exact Qmp _ _
  ·have HN:=hQ (show Qbr t zs=some cur from by rw [HF.out,List.drop_eq_nil_of_le (by omega)];rfl)
   go_wp2
   refine bodyPost_ret (v:=.tuple #[.agg #[.int .i64 vk,.string vx,.slice vla vll vlc,.slice vka cur.kids.length vkc],.bool true]) (by simp [results,Tryz.results42,go_sem, *]) rfl ?_;refine ⟨HBR.out.trans ((Qck wr (w.heap.size+1) ⟨vk,vx,vla,vll,vlc,vka,cur.kids.length,vkc⟩).mono (Nat.le_succ _)),⟨vk,vx,vla,vll,vlc,vka,cur.kids.length,vkc⟩,by rw [HN.out];rfl,fun k=>k<w.heap.size,fun k hk=>xE (Nat.lt_trans hk hbl) (Qck wr (w.heap.size+1) ⟨vk,vx,vla,vll,vlc,vka,cur.kids.length,vkc⟩).size,?_⟩;rw [HN.out];exact TrAt.move (w':=Qf7 wr (w.heap.size+1) ⟨vk,vx,vla,vll,vlc,vka,cur.kids.length,vkc⟩) (fun _ h=>h) (fun k hk _=>Qbw _ (by omega)) _ _ HTY.out
end Go.Proofs.YtjidpkcjpgdafaaGreat
namespace Go.Proofs.YtjidpkcjpgdafaaGreat
open Go.RowKit Go.ChangeShapes Go.WideShapes Go.Deep
def szB:List ByteArray→Nat
 | []=>0
 | y :: r=>y.size+szB r
mutual
def Qrt:Tr→Nat
 | .mk _ x ls ks=>1+x.size+szB ls+ls.length+ks.length+Qvy ks
def Qvy:List Tr→Nat
 | []=>0
 | t :: r=>Qrt t+Qvy r
end
mutual
theorem Qym:(t:Tr)→Qrt t≤1048576→Zbk t=true
 | .mk _ _ ls ks,h=>by
  rw [Qrt] at h;rw [Zbk,Qty ks (by omega),xS (by omega),xS (by omega)];rfl
theorem Qty:(l:List Tr)→Qvy l≤1048576→Zfc l=true
 | [],_=>by rw [Zfc]
 | t :: r,h=>by
  rw [Qvy] at h;rw [Zfc,Qym t (by omega),Qty r (by omega)];rfl
end
mutual
theorem Qmv:(t:Tr)→Qrt t≤1048576→Qcp t=true
 | .mk _ _ ls ks,h=>by
  rw [Qrt] at h;rw [Qcp,Qog ks (by omega),xS (by omega),xS (by omega)];rfl
theorem Qog:(l:List Tr)→Qvy l≤1048576→Qdw l=true
 | [],_=>by rw [Qdw]
 | t :: r,h=>by
  rw [Qvy] at h;rw [Qdw,Qmv t (by omega),Qog r (by omega)];rfl
end
section
variable {H:Type} {enc:TypeId × Value→H} {w:World} {base:Nat} {spare:Nat→Bool} {held:Bool}
instance:Inhabited Tr:=⟨Qkk⟩
instance:Inhabited TV:=⟨⟨0,⟨#[]⟩,none,0,0,none,0,0⟩⟩
theorem Qqr (b off n:Nat):((⟨b,off,none⟩:Addr).add n)=⟨b,off+n,none⟩:=by unfold Addr.add;split <;> simp_all
end
end Go.Proofs.YtjidpkcjpgdafaaGreat
