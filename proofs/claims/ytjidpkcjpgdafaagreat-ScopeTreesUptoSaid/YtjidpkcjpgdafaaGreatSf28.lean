/- Part 28 -/
import Derived.Test.YtjidpkcjpgdafaaGreatSf27
import Derived.ChangeSlices
import Derived.ProofKit
import Derived.Shelf.RegionOpenPlain
import Derived.Deep.Slices
set_option maxRecDepth 100000
set_option maxHeartbeats 4000000
namespace Go.Proofs.YtjidpkcjpgdafaaGreat
open Go.RowKit Go.ChangeShapes Go.WideShapes
def IntsAt (w:World) (A:Option Addr) (zs:List Int):Prop:=zs≠[]→∃ b off,A=some ⟨b,off,none⟩∧b<w.heap.size∧∀ (i:Nat) (x:Int),zs[i]? = some x→w.cell? ⟨b,off+i,none⟩=some (.int .i64 x)
theorem IntsAt.keep {w w':World} {A:Option Addr} {zs:List Int} (h:IntsAt w A zs) (hb:Below w.heap.size w w'):IntsAt w' A zs:=fun hne=>by
 obtain ⟨b,off,hA,hlt,hc⟩:=h hne
 exact ⟨b,off,hA,xE hlt hb.size,fun i x hx=>(xJ (w:=w) (a:=⟨b,off+i,none⟩) (hb.block b hlt)).trans (hc i x hx)⟩
theorem IntsAt.at {w:World} {A:Option Addr} {zs:List Int} (h:IntsAt w A zs) {i:Nat} (hi:i<zs.length):∃ b off,A=some ⟨b,off,none⟩∧b<w.heap.size∧∀ (i:Nat) (x:Int),zs[i]? = some x→w.cell? ⟨b,off+i,none⟩=some (.int .i64 x):=h (fun e=>by rw [e] at hi;simp at hi)
section
variable {H:Type} {enc:TypeId × Value→H} {w:World} {base:Nat} {spare:Nat→Bool} {held:Bool}
theorem Qll:Tryz.prog.cellsOf 3=1:=by kernel_rfl
theorem Qr5 {fuel:Nat} {cs:List Value} {x:DataW H × List MemPlace} (h:DataW.trod enc Tryz.prog w base spare held fuel 23 cs=some x) :
  ∃ (A:Option Addr) (c:Nat) (zs:List Int),cs = [.slice A zs.length c]∧IntsAt w A zs∧zs.length≤maxLen∧zs.length≤c∧∀ z∈zs,(Lit.int .i64 z).wf=true:=by
 rcases open_ints Tryz.underlying23 Tryz.underlying3 Qll h with ⟨hcs,_⟩|⟨a,len,cap,zs,hcs,_,hl,hm,hz,_,hc,hwf⟩
 ·exact ⟨none,0,[],hcs,fun h=>absurd rfl h,xZ _,xZ _,fun z h=>by simp at h⟩
 ·have hlz:len≤zs.length:=by rw [hz];split <;> omega
  have hlen:(zs.take len).length=len:=by rw [List.length_take];omega
  refine ⟨some a,cap,zs.take len,by rw [hlen];exact hcs,fun hne=>?_,by rw [hlen];omega,by rw [hlen];exact hl,fun z hz=>hwf z (List.mem_of_mem_take hz)⟩
  have h0:0<len:=by
   rcases Nat.eq_zero_or_pos len with h | h
   ·subst h
    exact absurd rfl hne
   ·exact h
  obtain ⟨b,off,spot⟩:=a
  have hspot:spot=none:=by
   have:=World.cell?_spot (hc 0 (by omega))
   simpa [Addr.add] using this
  subst hspot
  have hadd:∀ n:Nat,((⟨b,off,none⟩:Addr).add n)=⟨b,off+n,none⟩:=fun n=>by unfold Addr.add;split <;> simp_all
  refine ⟨b,off,rfl,?_,fun i x hx=>?_⟩
  ·have:=hc 0 (by omega)
   rw [hadd] at this
   exact xK w _ this
  ·have hi:=(xP.1 hx).1
   rw [hlen] at hi
   have:=hc i (by omega)
   rw [hadd] at this
   rw [this]
   rw [List.getElem?_take_of_lt hi] at hx
   rw [List.getD_eq_getElem?_getD,hx]
   rfl
end
end Go.Proofs.YtjidpkcjpgdafaaGreat
namespace Go.Proofs.YtjidpkcjpgdafaaGreat
open Go.RowKit
def Qjn (t:Tr) (i:Int):Bool:=decide (0≤i) && decide (i<(t.kids.length:Int))
def Qfm (t:Tr) (i:Int):Tr:=(t.kids[i.toNat]?).getD Qik
theorem Qf2 {t:Tr} {i:Int} (h:Qjn t i=true):0≤i∧i<(t.kids.length:Int)∧t.kids[i.toNat]? = some (Qfm t i):=by
 unfold Qjn at h
 simp only [Bool.and_eq_true,decide_eq_true_eq] at h
 refine ⟨h.1,h.2,?_⟩
 unfold Qfm
 rw [xF (by omega)]
 rfl
def Qay:Tr→List Int→Option Tr
 | t,[]=>some t
 | t,i :: r=>if Qjn t i then Qay (Qfm t i) r else none
def Qjo:Nat→Tr→List Int→Int
 | n,_,[]=>n
 | n,t,i :: r=>if Qjn t i then Qjo (n+1+Qbb (t.kids.take i.toNat)) (Qfm t i) r else -1
theorem Qlm (S:Nat→Prop) (t:Tr) (v:TV) (i:Int) (w:World) (h:TrAt S w t v) :
  Calls Tryz.prog 159 #[.agg #[.int .i64 v.kind,.string v.text,.slice v.la v.ll v.lc,.slice v.ka v.kl v.kc],.int .i64 i] w fun e w'=>e = .returned (.bool (Qjn t i))∧Below w.heap.size w w':=by
 have hkl:=h.kl.1
 clear h
 obtain ⟨vk,vx,vla,vll,vlc,vka,vkl,vkc⟩:=v
 simp only at hkl
 subst hkl
 have HX:=hQ (xH w (trO ⟨vk,vx,vla,vll,vlc,vka,t.kids.length,vkc⟩))
 have HB0:=hQ ((xC w.heap.size w).alloc (xA _) (trO ⟨vk,vx,vla,vll,vlc,vka,t.kids.length,vkc⟩))
 have k3:(w.alloc (trO ⟨vk,vx,vla,vll,vlc,vka,t.kids.length,vkc⟩)).cell? ⟨w.heap.size,3,none⟩=some (.slice vka t.kids.length vkc):=Qaa HX.out 3 _ rfl
 have HR:=hQ (show Qjn t i=(decide (0≤i) && decide (i<(t.kids.length:Int))) from rfl)
 by_cases h0:0≤i
 ·have d0:=xS h0
  by_cases h1:i<(t.kids.length:Int)
  ·have d1:=xS h1
   have HRR:=hQ (show Qjn t i=true from by rw [HR.out,d0,d1];rfl)
   clear HR
   go_enter Tryz.func159,Tryz.ntmps159
   go_wp2
   go_ret
   exact ⟨by rw [HRR.out];rfl,HB0.out⟩
  ·have d1:=xR h1
   have HRR:=hQ (show Qjn t i=false from by rw [HR.out,d1,Bool.and_false])
   clear HR
   go_enter Tryz.func159,Tryz.ntmps159
   go_wp2
   go_ret
   exact ⟨by rw [HRR.out];rfl,HB0.out⟩
 ·have d0:=xR h0
  have HRR:=hQ (show Qjn t i=false from by rw [HR.out,d0,Bool.false_and])
  clear HR
  go_enter Tryz.func159,Tryz.ntmps159
  go_wp2
  go_ret
  exact ⟨by rw [HRR.out];rfl,HB0.out⟩
theorem Qeo {α:Type} {l:List α} {j:Nat} {x:α} (h:l[j]? = some x):l.drop j=x :: l.drop (j+1):=by
 obtain ⟨hj,he⟩:=xP.1 h
 rw [List.drop_eq_getElem_cons hj,he]
end Go.Proofs.YtjidpkcjpgdafaaGreat
namespace Go.Proofs.YtjidpkcjpgdafaaGreat
open Go.RowKit Go.Shelf
def SumAt (cur:Tr) (q m:Nat) (W:World) (n i:Value) (wr:World):Prop:=∃ l:Nat,i = .int .i64 l∧l≤q∧n = .int .i64 ((m+1+Qbb (cur.kids.take l):Nat):Int)∧Below W.heap.size W wr
def NumAt (t0:Tr) (zs:List Int) (w:World) (n i:Value) (wr:World):Prop :=
 ∃ (j m:Nat) (x:TV) (cur:Tr),n = .int .i64 m∧i = .int .i64 j∧j≤zs.length∧Qjo 0 t0 zs=Qjo m cur (zs.drop j)∧wr.heap[w.heap.size]? = some (trO x)∧TrAt (fun k=>k<w.heap.size) wr cur x∧Below w.heap.size w wr∧m+Qam cur≤140737488355328
theorem Qmk {t k:Tr} {j:Nat} (h:t.kids[j]? = some k):1+Qbb (t.kids.take j)+Qam k≤Qam t:=by
 have h1:=Qcl h
 have h2:=Qcq t.kids (j+1)
 rw [Qa5 t]
 omega
theorem Qkg (S:Nat→Prop) (t:Tr) (v:TV) (A:Option Addr) (c:Nat) (zs:List Int) (w:World) (h:TrAt S w t v) (hA:IntsAt w A zs) (hz:zs.length≤maxLen) (hs:Qam t≤140737488355328) :
  Calls Tryz.prog 114 #[.agg #[.int .i64 v.kind,.string v.text,.slice v.la v.ll v.lc,.slice v.ka v.kl v.kc],.slice A zs.length c] w fun e w'=>e = .returned (.int .i64 (Qjo 0 t zs))∧Below w.heap.size w w':=by
 have HB0:=hQ ((xC w.heap.size w).alloc (xA _) (trO v))
 have HT:=hQ (TrAt.low t v (h.keep HB0.out))
 have HTL:=hQ (show TrAt (fun k=>k<w.heap.size) (w.alloc (trO v)) t v from (TrAt.low t v h).keep HB0.out)
 have HX:=hQ (xH w (trO v))
 have HA:=hQ hA
 have HS:=hQ hs
 have hmax:zs.length≤9223372036854775807:=by unfold maxLen at hz;omega
 clear h hA hz hs
 go_enter Tryz.func114,Tryz.ntmps114
 go_wp2
 go_loopw [5,12] (fun n i wr=>NumAt t zs w n i wr) (fun _ i _=>zs.length-(intOf i).toNat)
 case atStart=>exact ⟨0,0,v,t,rfl,rfl,xZ _,rfl,HX.out,HTL.out,HB0.out,by have:=HS.out;omega⟩
 case round =>
  obtain ⟨j,m,x,cur,rfl,rfl,hj,hf,hx,hty,hb,hms⟩:=hrel
  have HF:=hQ hf
  have HTY:=hQ hty
  have HXX:=hQ hx
  have HBR:=hQ hb
  have HMS:=hQ hms
  have hkl:=hty.kl.1
  obtain ⟨vk,vx,vla,vll,vlc,vka,vkl,vkc⟩:=x
  simp only at hkl
  subst hkl
  clear hf hty hx hb hms
  have k0:=Qaa HXX.out 0 _ rfl
  have k1:=Qaa HXX.out 1 _ rfl
  have k2:=Qaa HXX.out 2 _ rfl
  have k3:=Qaa HXX.out 3 _ rfl
  have hbl:=Qab HXX.out
  by_cases hlt:j<zs.length
  ·obtain ⟨z,hz⟩:∃ z,zs[j]? = some z:=⟨_,xF hlt⟩
   obtain ⟨ab,ao,rfl,_,hac⟩:=(HA.out.keep HBR.out).at hlt
   have a0:=hac j z hz
   have HD:=hQ (Qeo hz)
   clear hac hz
   cases hkb:Qjn cur z
   ·have HR:=hQ (show Qjo 0 t zs = -1 from by rw [HF.out,HD.out,Qjo,hkb];rfl)
    go_wp2_with (go_at_call 159;refine (Qlm _ cur _ z _ HTY.out).mono ?_;rw [hkb];rintro e w2 ⟨rfl,hb2⟩;have HB2:=hQ (HBR.out.trans (hb2.mono HBR.out.size));clear hb2)
    go_ret
    exact ⟨by rw [HR.out];rfl,HB2.out⟩
   ·obtain ⟨z0,z1,z2⟩:=Qf2 hkb
    have HR:=hQ (show Qjo 0 t zs=Qjo (m+1+Qbb (cur.kids.take z.toNat)) (Qfm cur z) (zs.drop (j+1)) from by rw [HF.out,HD.out,Qjo,hkb];rfl)
    obtain ⟨q,rfl⟩:∃ q:Nat,z=(q:Int):=⟨z.toNat,by omega⟩
    rw [Int.toNat_natCast] at z2 HR
    have hq:q<cur.kids.length:=by omega
    obtain ⟨kb,ko,hka⟩:∃ b off,vka=some ⟨b,off,none⟩:=HTY.out.addr.resolve_left (by omega)
    subst hka
    have hcap:=HTY.out.caps.2
    simp only at hcap
    have hsk:=Qmk z2
    have hms:=HMS.out
    have hqc:(q:Int)≤(vkc:Int):=by omega
    have hm1:(m:Int)+1≤140737488355328:=by omega
    have HSK:=hQ hsk
    clear hsk hms
    go_wp2_with (go_at_call 159;refine (Qlm _ cur _ q _ HTY.out).mono ?_;rw [hkb];rintro e w2 ⟨rfl,hb2⟩;have HB2:=hQ (HBR.out.trans (hb2.mono HBR.out.size));have HX2:=hQ ((hb2.block w.heap.size hbl).trans HXX.out);have HT2:=hQ (HTY.out.keep hb2);clear hb2 k0 k1 k2 k3 hbl a0;have k3:=Qaa HX2.out 3 _ rfl)
    go_loopw [5,27] (fun n i wr=>SumAt cur q m w2 n i wr) (fun _ i _=>q-(intOf i).toNat)
    case atStart=>exact ⟨0,rfl,xZ _,by go_num,xC _ _⟩
    case round =>
     obtain ⟨l,rfl,hl,rfl,hb3⟩:=hrel
     have HB3:=hQ hb3
     have HX3:=hQ ((hb3.block w.heap.size (Qab HX2.out)).trans HX2.out)
     have HT3:=hQ (HT2.out.keep hb3)
     clear hb3 k3
     by_cases hlq:l<q
     ·obtain ⟨k,hk⟩:∃ k,cur.kids[l]? = some k:=⟨_,xF (by omega)⟩
      obtain ⟨u,c0,c1,c2,c3,hu⟩:=HT3.out.at rfl hk
      have HU:=hQ hu
      have HS1:=hQ (Qcl hk)
      have hs0:=Qcl hk
      have hle:Qbb (cur.kids.take (l+1))≤Qbb (cur.kids.take q):=by
       have:cur.kids.take (l+1)=(cur.kids.take q).take (l+1):=by rw [List.take_take,Nat.min_eq_left (by omega)]
       rw [this]
       exact Qcq _ _
      have hsk:=HSK.out
      have hms:=HMS.out
      have HSZ:=hQ (show Qam k≤140737488355328 by omega)
      have q1:((m:Nat):Int)+1+((Qbb (cur.kids.take l):Nat):Int)+(Qam k:Nat)≤140737488355328:=by omega
      have hj0:(0:Int)≤(l:Int):=by omega
      have hj1:(l:Int)<(q:Int):=by omega
      have HA1:=hQ ((xC wr.heap.size wr).alloc (xA _) (trO u))
      have hlm:(l:Int)+1≤140737488355328:=by have h1:=Qbn cur.kids;have h2:=Qa5 cur;omega
      clear hk hu hs0 hle hsk hms
      go_wp2_with (go_at_call 160;refine (Qv4 (SizeOf.sizeOf k) _ k u _ (xA _) (HU.out.keep HA1.out) HSZ.out).mono ?_;rintro e w4 ⟨rfl,hb4⟩;have HB4:=hQ (HB3.out.trans ((HA1.out.trans (hb4.mono HA1.out.size)).mono HB3.out.size));clear hb4)
      go_roundw
      case measure=>simp [intOf];omega
      case rel=>exact ⟨l+1,by go_num,by omega,by rw [HS1.out];go_num,HB4.out⟩
     ·have hlq':l=q:=by omega
      subst hlq'
      obtain ⟨u,c0,c1,c2,c3,hu⟩:=HT3.out.at rfl z2
      have HU:=hQ hu
      have k0:=Qaa HX3.out 0 _ rfl
      have k1:=Qaa HX3.out 1 _ rfl
      have k2:=Qaa HX3.out 2 _ rfl
      have k3:=Qaa HX3.out 3 _ rfl
      have rf:=xL HX3.out
      have hbl:=Qab HX3.out
      have kbl:kb<wr.heap.size:=xK wr _ c3
      have hl0:(0:Int)≤(l:Int):=by omega
      have hl1:(l:Int)<(cur.kids.length:Int):=by omega
      have HK:=hQ z2
      clear hu z2 hkb hl hlq hq hqc z0 z1 hm1
      go_wp2
      go_roundw
      case measure=>simp [intOf];omega
      case rel =>
       have hbw:Below w.heap.size w wr:=HB2.out.trans (HB3.out.mono HB2.out.size)
       have hms:=HMS.out
       have hsk:=HSK.out
       exact ⟨j+1,m+1+Qbb (cur.kids.take l),u,Qfm cur l,by go_num,by go_num,by omega,HR.out,Qh4 u HX3.out,TrAt.move (fun _ h=>h) (fun k hk _=>(Qck wr w.heap.size u).block k hk) _ _ HU.out,hbw.trans (Qck wr w.heap.size u),by omega⟩
  ·have HR:=hQ (show Qjo 0 t zs=m from by rw [HF.out,List.drop_eq_nil_of_le (by omega)];rfl)
   go_wp2
   go_ret
   exact ⟨by rw [HR.out];rfl,HBR.out⟩
theorem mixed:Tryz.prog.follows Departure.mixedOrders=true:=by kernel_rfl
def Qdy:List ByteArray→List ByteArray→Bool
 | [],[]=>true
 | a :: r,b :: s=>(a.toList==b.toList) && Qdy r s
 | _,_=>false
theorem Qkh:(a b:List ByteArray)→a.length≠b.length→Qdy a b=false
 | [],[],h=>absurd rfl h
 | [],_ :: _,_=>rfl
 | _ :: _,[],_=>rfl
 | a :: r,b :: s,h=>by
  unfold Qdy
  rw [Qkh r s (by simpa using h),Bool.and_false]
theorem Qja (a b:ByteArray) (r s:List ByteArray):Qdy (a :: r) (b :: s)=((a.toList==b.toList) && Qdy r s):=rfl
theorem StrsAt.at {S:Nat→Prop} {w:World} {A:Option Addr} {l:List ByteArray} (h:StrsAt S w A l) {j:Nat} (hj:j<l.length):∃ b off,A=some ⟨b,off,none⟩∧∀ (i:Nat) (x:ByteArray),l[i]? = some x→w.cell? ⟨b,off+i,none⟩=some (.string x):=by
 obtain ⟨b,off,hA,_,hc⟩:=h (fun e=>by rw [e] at hj;simp at hj)
 exact ⟨b,off,hA,hc⟩
theorem StrsAt.keep {S:Nat→Prop} {w w':World} {A:Option Addr} {l:List ByteArray} (h:StrsAt S w A l) (hb:Below w.heap.size w w'):StrsAt S w' A l:=h.move (fun _ h=>h) (fun k _ hlt=>hb.block k hlt)
def Qyi (a b:List ByteArray) (w:World) (i:Value) (wr:World):Prop:=∃ j:Nat,i = .int .i64 j∧j≤a.length∧Qdy a b=Qdy (a.drop j) (b.drop j)∧Below w.heap.size w wr
theorem Qln (S S':Nat→Prop) (A B:Option Addr) (ca cb:Nat) (a b:List ByteArray) (w:World) (ha:StrsAt S w A a) (hb:StrsAt S' w B b) (hm:a.length≤140737488355328) :
  Calls Tryz.prog 38 #[.slice A a.length ca,.slice B b.length cb] w fun e w'=>e = .returned (.bool (Qdy a b))∧Below w.heap.size w w':=by
 have HA:=hQ ha
 have HB:=hQ hb
 clear ha hb
 by_cases hl:a.length=b.length
 ·have hne:((a.length:Int) != (b.length:Int))=false:=by rw [hl];simp
  go_enter Tryz.func38,Tryz.ntmps38
  go_wp2
  go_loopw [5] (fun i wr=>Qyi a b w i wr) (fun i _=>a.length-(intOf i).toNat)
  case atStart=>exact ⟨0,rfl,xZ _,rfl,xC _ _⟩
  case round =>
   obtain ⟨j,rfl,hj,hf,hbr⟩:=hrel
   have HF:=hQ hf
   have HBR:=hQ hbr
   clear hf hbr
   by_cases hlt:j<a.length
   ·obtain ⟨x,hx⟩:∃ x,a[j]? = some x:=⟨_,xF hlt⟩
    obtain ⟨y,hy⟩:∃ y,b[j]? = some y:=⟨_,xF (by omega)⟩
    obtain ⟨xb,xo,rfl,hxc⟩:=(HA.out.keep HBR.out).at hlt
    obtain ⟨yb,yo,rfl,hyc⟩:=(HB.out.keep HBR.out).at (j:=j) (by omega)
    have c0:=hxc j x hx
    have d0:=hyc j y hy
    have HD:=hQ (show Qdy a b=((x.toList==y.toList) && Qdy (a.drop (j+1)) (b.drop (j+1))) from by rw [HF.out,Qeo hx,Qeo hy,Qja])
    have hjb:(j:Int)<(b.length:Int):=by omega
    have hja:(j:Int)<(a.length:Int):=by omega
    have hj0:(0:Int)≤(j:Int):=by omega
    clear hxc hyc hx hy
    cases hxy:(x.toList==y.toList)
    ·have HR:=hQ (show Qdy a b=false from by rw [HD.out,hxy,Bool.false_and])
     go_wp2_with fail
     first | go_region_o | go_region
     all_goals
      go_simp
      go_wp2
      go_ret
      exact ⟨by rw [HR.out];rfl,HBR.out.drew⟩
    ·have HR:=hQ (show Qdy a b=Qdy (a.drop (j+1)) (b.drop (j+1)) from by rw [HD.out,hxy,Bool.true_and])
     go_wp2_with fail
     first | go_region_o | go_region
     all_goals
      go_wp2
      go_roundw
      case measure=>simp [intOf];omega
      case rel=>exact ⟨j+1,by go_num,by omega,HR.out,HBR.out.drew⟩
   ·have HR:=hQ (show Qdy a b=true from by rw [HF.out,List.drop_eq_nil_of_le (by omega),List.drop_eq_nil_of_le (by omega)];rfl)
    go_wp2
    go_ret
    exact ⟨by rw [HR.out];rfl,HBR.out⟩
 ·have hne:((a.length:Int) != (b.length:Int))=true:=by simp;omega
  have HR:=hQ (Qkh a b hl)
  go_enter Tryz.func38,Tryz.ntmps38
  go_wp2
  go_ret
  exact ⟨by rw [HR.out];rfl,xC _ _⟩
def Qxf (S:Nat→Prop) (w:World) (A:Option Addr) (l:List Tr):Prop:=l≠[]→∃ b off,A=some ⟨b,off,none⟩∧S b∧TrsAt S w b off l
mutual
def Qvg:Tr→Bool
 | .mk _ _ ls ks=>decide (ls.length≤8796093022208) && decide (ks.length≤1900000000000) && Qyj ks
def Qyj:List Tr→Bool
 | []=>true
 | t :: r=>Qvg t && Qyj r
end
theorem Qqc:(l:List Tr)→(j:Nat)→(k:Tr)→Qyj l=true→l[j]? = some k→Qvg k=true
 | [],j,k,_,h=>by simp at h
 | a :: r,j,k,hs,h=>by
  unfold Qyj at hs
  rw [Bool.and_eq_true] at hs
  cases j with
  | zero=>simp at h;subst h;exact hs.1
  | succ j=>exact Qqc r j k hs.2 (by simpa using h)
theorem Qnj {t:Tr} (h:Qvg t=true):t.leads.length≤8796093022208∧t.kids.length≤1900000000000∧∀ (j:Nat) (k:Tr),t.kids[j]? = some k→Qvg k=true:=by
 cases t with
 | mk kd tx ls ks =>
  unfold Qvg at h
  simp only [Bool.and_eq_true,decide_eq_true_eq] at h
  exact ⟨h.1.1,h.1.2,fun j k hk=>Qqc ks j k h.2 hk⟩
theorem TrAt.make {S:Nat→Prop} {w:World} {t:Tr} {v:TV} (h1:v.kind=t.kind) (h2:v.text=t.text) (h3:v.ll=t.leads.length) (h4:v.kl=t.kids.length) (h5:StrsAt S w v.la t.leads) (h6:Qxf S w v.ka t.kids) (h7:v.ll≤v.lc∧v.kl≤v.kc):TrAt S w t v:=by
 cases t
 unfold TrAt
 exact ⟨h1,h2,h3,h4,h5,h6,h7⟩
theorem Qh8 {w:World} {b o k:Nat} {u:Value} (h:k≠b):(w.setCell ⟨b,o,none⟩ u).heap[k]? = w.heap[k]?:=Below.heap_setCell _ _ _ _ (fun e:k=b=>h e)
theorem Qlo {w:World} {b k:Nat} (u:TV) (h:k≠b):(Qvf w b u).heap[k]? = w.heap[k]?:=(((Qh8 h).trans (Qh8 h)).trans (Qh8 h)).trans (Qh8 h)
def Qxg (t:Tr) (zs:List Int) (w:World) (e:Ending) (w':World):Prop :=
 Below w.heap.size w w'∧∃ u:TV,e = .returned (.tuple #[.agg #[.int .i64 u.kind,.string u.text,.slice u.la u.ll u.lc,.slice u.ka u.kl u.kc],.bool (Qay t zs).isSome])∧∃ S:Nat→Prop,(∀ k,S k→k<w'.heap.size)∧TrAt S w' ((Qay t zs).getD Qik) u
def RAtAt (t0:Tr) (zs:List Int) (w:World) (i:Value) (wr:World):Prop :=
 ∃ (j:Nat) (x:TV) (cur:Tr),i = .int .i64 j∧j≤zs.length∧Qay t0 zs=Qay cur (zs.drop j)∧wr.heap[w.heap.size]? = some (trO x)∧wr.heap[w.heap.size+1]? = some (trO ⟨0,⟨#[]⟩,none,0,0,none,0,0⟩)∧TrAt (fun k=>k<w.heap.size) wr cur x∧Below w.heap.size w wr
theorem Qgq (S:Nat→Prop) (t:Tr) (v:TV) (A:Option Addr) (c:Nat) (zs:List Int) (w:World) (h:TrAt S w t v) (hA:IntsAt w A zs) (hz:zs.length≤maxLen) :
  Calls Tryz.prog 42 #[.agg #[.int .i64 v.kind,.string v.text,.slice v.la v.ll v.lc,.slice v.ka v.kl v.kc],.slice A zs.length c] w (Qxg t zs w):=by
 have hb0:=((xC w.heap.size w).alloc (xA _) (trO v)).alloc (by rw [xI];omega) (.cells #[.int .i64 0,.string ⟨#[]⟩,.slice none 0 0,.slice none 0 0] 29)
 have HB0:=hQ hb0
 have HTL:=hQ ((TrAt.low t v h).keep hb0)
 have HA:=hQ hA
 have HX:=hQ (show ((w.alloc (trO v)).alloc (.cells #[.int .i64 0,.string ⟨#[]⟩,.slice none 0 0,.slice none 0 0] 29)).heap[w.heap.size]? = some (trO v) from (((xC (w.alloc (trO v)).heap.size _).alloc (xA _) _).block w.heap.size (by simp)).trans (xH w _))
 have HR:=hQ (show ((w.alloc (trO v)).alloc (.cells #[.int .i64 0,.string ⟨#[]⟩,.slice none 0 0,.slice none 0 0] 29)).heap[w.heap.size+1]? = some (trO ⟨0,⟨#[]⟩,none,0,0,none,0,0⟩) from by rw [←xI w (trO v)];exact xH _ _)
 have hmax:zs.length≤9223372036854775807:=by unfold maxLen at hz;omega
 have mixedL:Tryz.prog.follows Departure.mixedOrders=true:=mixed
 clear h hA hz hb0
 go_enter Tryz.func42,Tryz.ntmps42
 go_wp2
 go_loopw [6] (fun i wr=>RAtAt t zs w i wr) (fun i _=>zs.length-(intOf i).toNat)
 case atStart=>exact ⟨0,v,t,rfl,xZ _,rfl,HX.out,HR.out,HTL.out,HB0.out⟩
 case round =>
  obtain ⟨j,x,cur,rfl,hj,hf,hx,hr,hty,hb⟩:=hrel
  have HF:=hQ hf
  have HTY:=hQ hty
  have HXX:=hQ hx
  have HRR:=hQ hr
  have HBR:=hQ hb
  have hkl:=hty.kl.1
  obtain ⟨vk,vx,vla,vll,vlc,vka,vkl,vkc⟩:=x
  simp only at hkl
  subst hkl
  clear hf hty hx hr hb
  have k0:=Qaa HXX.out 0 _ rfl
  have k1:=Qaa HXX.out 1 _ rfl
  have k2:=Qaa HXX.out 2 _ rfl
  have k3:=Qaa HXX.out 3 _ rfl
  have hbl:=Qab HXX.out
  have rf:=xL HXX.out
  have r0:=Qaa HRR.out 0 _ rfl
  have r1:=Qaa HRR.out 1 _ rfl
  have r2:=Qaa HRR.out 2 _ rfl
  have r3:=Qaa HRR.out 3 _ rfl
  have rbl:=Qab HRR.out
  have rrf:=xL HRR.out
  by_cases hlt:j<zs.length
  ·obtain ⟨z,hz⟩:∃ z,zs[j]? = some z:=⟨_,xF hlt⟩
   obtain ⟨ab,ao,rfl,_,hac⟩:=(HA.out.keep HBR.out).at hlt
   have a0:=hac j z hz
   have HD:=hQ (Qeo hz)
   clear hac hz
   by_cases h0:z<0
   ·have d0:=xS h0
    have hkb:Qjn cur z=false:=by unfold Qjn;rw [xR (by omega)];rfl
    have HN:=hQ (show Qay t zs=none from by rw [HF.out,HD.out,Qay,hkb];rfl)
    clear hkb
    go_wp2_with fail
    go_region_o
    go_wp2
    refine bodyPost_ret (v:=.tuple #[.agg #[.int .i64 0,.string ⟨#[]⟩,.slice none 0 0,.slice none 0 0],.bool false]) (by simp [results,Tryz.results42,go_sem, *]) rfl ?_
    refine ⟨HBR.out.drew.trans ((Qck wr.drew (w.heap.size+1) ⟨0,⟨#[]⟩,none,0,0,none,0,0⟩).mono (Nat.le_succ _)),⟨0,⟨#[]⟩,none,0,0,none,0,0⟩,by rw [HN.out];rfl,fun _=>False,fun _ h=>h.elim,?_⟩
    rw [HN.out]
    exact Qke _ _
   ·have d0:=xR h0
    by_cases h1:z<(cur.kids.length:Int)
    ·have hkb:Qjn cur z=true:=by unfold Qjn;rw [xS (by omega),xS h1];rfl
     obtain ⟨z0,_,z2⟩:=Qf2 hkb
     have HN:=hQ (show Qay t zs=Qay (Qfm cur z) (zs.drop (j+1)) from by rw [HF.out,HD.out,Qay,hkb];rfl)
     obtain ⟨q,rfl⟩:∃ q:Nat,z=(q:Int):=⟨z.toNat,by omega⟩
     rw [Int.toNat_natCast] at z2
     obtain ⟨kb,ko,hka⟩:∃ b off,vka=some ⟨b,off,none⟩:=HTY.out.addr.resolve_left (by omega)
     subst hka
     obtain ⟨u,c0,c1,c2,c3,hu⟩:=HTY.out.at rfl z2
     have HU:=hQ hu
     have kbl:kb<wr.heap.size:=xK wr _ c3
     have hq:q<cur.kids.length:=by omega
     have dn1:decide (cur.kids.length≤q)=false:=xR (by omega)
     have hq0:(0:Int)≤(q:Int):=by omega
     clear hkb z2 hu h0 z0
     go_wp2_with fail
     go_region_o
     all_goals
      go_simp
      go_wp2_with fail
      first | go_region_o | go_region
      all_goals
       go_simp
       go_wp2
       go_roundw
       case measure=>simp [intOf];omega
       case rel=>exact ⟨j+1,u,Qfm cur q,by go_num,by omega,HN.out,Qh4 (w:=wr.drew.drew) u HXX.out,(Qlo (w:=wr.drew.drew) u (by omega)).trans HRR.out,TrAt.move (fun _ h=>h) (fun k hk _=>(Qck wr.drew.drew w.heap.size u).block k hk) _ _ ((HU.out.keep (xC _ _).drew).keep (xC _ _).drew),HBR.out.drew.drew.trans (Qck wr.drew.drew w.heap.size u)⟩
    ·have d1:decide ((cur.kids.length:Int)≤z)=true:=xS (by omega)
     have hkb:Qjn cur z=false:=by unfold Qjn;rw [xR h1,Bool.and_false]
     have HN:=hQ (show Qay t zs=none from by rw [HF.out,HD.out,Qay,hkb];rfl)
     clear hkb
     go_wp2_with fail
     go_region_o
     all_goals
      go_wp2
      refine bodyPost_ret (v:=.tuple #[.agg #[.int .i64 0,.string ⟨#[]⟩,.slice none 0 0,.slice none 0 0],.bool false]) (by simp [results,Tryz.results42,go_sem, *]) rfl ?_
      refine ⟨HBR.out.drew.trans ((Qck wr.drew (w.heap.size+1) ⟨0,⟨#[]⟩,none,0,0,none,0,0⟩).mono (Nat.le_succ _)),⟨0,⟨#[]⟩,none,0,0,none,0,0⟩,by rw [HN.out];rfl,fun _=>False,fun _ h=>h.elim,?_⟩
      rw [HN.out]
      exact Qke _ _
  ·have HN:=hQ (show Qay t zs=some cur from by rw [HF.out,List.drop_eq_nil_of_le (by omega)];rfl)
   go_wp2
   refine bodyPost_ret (v:=.tuple #[.agg #[.int .i64 vk,.string vx,.slice vla vll vlc,.slice vka cur.kids.length vkc],.bool true]) (by simp [results,Tryz.results42,go_sem, *]) rfl ?_
   refine ⟨HBR.out.trans ((Qck wr (w.heap.size+1) ⟨vk,vx,vla,vll,vlc,vka,cur.kids.length,vkc⟩).mono (Nat.le_succ _)),⟨vk,vx,vla,vll,vlc,vka,cur.kids.length,vkc⟩,by rw [HN.out];rfl,fun k=>k<w.heap.size,fun k hk=>xE (Nat.lt_trans hk hbl) (Qck wr (w.heap.size+1) ⟨vk,vx,vla,vll,vlc,vka,cur.kids.length,vkc⟩).size,?_⟩
   rw [HN.out]
   exact TrAt.move (w':=Qvf wr (w.heap.size+1) ⟨vk,vx,vla,vll,vlc,vka,cur.kids.length,vkc⟩) (fun _ h=>h) (fun k hk _=>Qlo _ (by omega)) _ _ HTY.out
end Go.Proofs.YtjidpkcjpgdafaaGreat
namespace Go.Proofs.YtjidpkcjpgdafaaGreat
open Go.RowKit Go.ChangeShapes Go.WideShapes Go.Deep
def szB:List ByteArray→Nat
 | []=>0
 | y :: r=>y.size+szB r
mutual
def Qml:Tr→Nat
 | .mk _ x ls ks=>1+x.size+szB ls+ls.length+ks.length+Qo7 ks
def Qo7:List Tr→Nat
 | []=>0
 | t :: r=>Qml t+Qo7 r
end
mutual
theorem Qqd:(t:Tr)→Qam t≤Qml t
 | .mk _ _ ls ks=>by rw [Qam,Qml];have:=Qnk ks;omega
theorem Qnk:(l:List Tr)→Qbb l≤Qo7 l
 | []=>by rw [Qbb];omega
 | t :: r=>by rw [Qbb,Qo7];have:=Qqd t;have:=Qnk r;omega
end
mutual
theorem Qtt:(t:Tr)→Qml t≤1048576→Qvg t=true
 | .mk _ _ ls ks,h=>by
  rw [Qml] at h
  rw [Qvg,Qqe ks (by omega),xS (by omega),xS (by omega)]
  rfl
theorem Qqe:(l:List Tr)→Qo7 l≤1048576→Qyj l=true
 | [],_=>by rw [Qyj]
 | t :: r,h=>by
  rw [Qo7] at h
  rw [Qyj,Qtt t (by omega),Qqe r (by omega)]
  rfl
end
mutual
theorem Qnl:(t:Tr)→Qml t≤1048576→Qb7 t=true
 | .mk _ _ ls ks,h=>by
  rw [Qml] at h
  rw [Qb7,Qlp ks (by omega),xS (by omega),xS (by omega)]
  rfl
theorem Qlp:(l:List Tr)→Qo7 l≤1048576→Qct l=true
 | [],_=>by rw [Qct]
 | t :: r,h=>by
  rw [Qo7] at h
  rw [Qct,Qnl t (by omega),Qlp r (by omega)]
  rfl
end
section
variable {H:Type} {enc:TypeId × Value→H} {w:World} {base:Nat} {spare:Nat→Bool} {held:Bool}
theorem Qmm (d:DataW H):1≤Rows.uptoBulk d:=by
 cases d with
 | lit l=>cases l <;> simp [Rows.uptoBulk]
 | nil=>simp [Rows.uptoBulk]
 | ptr d=>simp [Rows.uptoBulk]
 | slice a b=>simp [Rows.uptoBulk]
 | agg l=>simp [Rows.uptoBulk]
 | iface t d=>simp [Rows.uptoBulk]
 | map l=>simp [Rows.uptoBulk]
 | held t=>simp [Rows.uptoBulk]
theorem Qnm:(ks:List Tr)→(ds:List (DataW H))→ks.length=ds.length→(∀ (i:Nat) (k:Tr) (d:DataW H),ks[i]? = some k→ds[i]? = some d→Qml k+1≤Rows.uptoBulk d)→ks.length+Qo7 ks≤Rows.uptoBulkAll ds
 | [],ds,_,_=>by rw [Qo7];exact xZ _
 | k :: r,[],h,_=>by cases h
 | k :: r,d :: ds,h,hh=>by
  have h1:=hh 0 k d rfl rfl
  have h2:=Qnm r ds (by simpa using h) (fun i k' d' hk hd=>hh (i+1) k' d' (by simpa using hk) (by simpa using hd))
  rw [Qo7,xD]
  simp only [Rows.uptoBulkAll]
  omega
theorem Qqf:(ls:List ByteArray)→(ds:List (DataW H))→ls.length=ds.length→(∀ (i:Nat) (k:ByteArray) (d:DataW H),ls[i]? = some k→ds[i]? = some d→k.size+1≤Rows.uptoBulk d)→ls.length+szB ls≤Rows.uptoBulkAll ds
 | [],ds,_,_=>by rw [szB];exact xZ _
 | k :: r,[],h,_=>by cases h
 | k :: r,d :: ds,h,hh=>by
  have h1:=hh 0 k d rfl rfl
  have h2:=Qqf r ds (by simpa using h) (fun i k' d' hk hd=>hh (i+1) k' d' (by simpa using hk) (by simpa using hd))
  rw [szB,xD]
  simp only [Rows.uptoBulkAll]
  omega
theorem Qlq:Tryz.prog.cellsOf 29=4:=by kernel_rfl
theorem Qjb:Tryz.prog.cellsOf 9=1:=by kernel_rfl
theorem Qo8:Tryz.prog.cellsOf 27=1:=by kernel_rfl
theorem Qo9:Tryz.prog.cellsOf 22=1:=by kernel_rfl
theorem Qnn {α β:Type} {x:Option α} {f:α→Option β} {y:β} (h:x.bind f=some y):∃ a,x=some a∧f a=some y:=by
 cases x with
 | none=>cases h
 | some a=>exact ⟨a,rfl,h⟩
instance:Inhabited Tr:=⟨Qik⟩
instance:Inhabited TV:=⟨⟨0,⟨#[]⟩,none,0,0,none,0,0⟩⟩
theorem Qgr (b off n:Nat):((⟨b,off,none⟩:Addr).add n)=⟨b,off+n,none⟩:=by unfold Addr.add;split <;> simp_all
theorem Qr6 {fuel:Nat} {cs:List Value} {x:DataW H × List MemPlace} (h:DataW.trod enc Tryz.prog w base spare held fuel 27 cs=some x) :
  ∃ (A:Option Addr) (c:Nat) (ls:List ByteArray),cs = [.slice A ls.length c]∧StrsAt (fun _=>True) w A ls∧ls.length≤c∧ls.length+szB ls+1≤Rows.uptoBulk x.1:=by
 rcases DataW.trod_slice Tryz.underlying27 h with ⟨hcs,hx⟩|⟨a,len,cap,elems,rest,n,_,hcs,hx,_,hl,hm,hlen,hel,_,_⟩
 ·exact ⟨none,0,[],hcs,fun h=>absurd rfl h,xA _,by rw [hx,szB];exact Qmm _⟩
 ·rw [Qjb] at hel
  obtain ⟨f,hf⟩:=choose_lt (α:=ByteArray) (n:=len) (p:=fun i t=>w.cell? (a.add i)=some (.string t)∧∀ y,elems[i]? = some y→t.size+1≤Rows.uptoBulk y.1) (fun i hlt=>by
   have h1:=hel i hlt
   rw [xF (by omega)] at h1
   obtain ⟨cs',hc,ht⟩:=Qnn h1
   obtain ⟨l,e1,e2,_⟩:=DataW.trod_string Tryz.underlying9 ht
   subst e1
   obtain ⟨_,_,hat⟩:=World.cells?_some hc
   refine ⟨l,?_,fun y hy=>?_⟩
   ·have:=hat 0 (by omega)
    simpa [Addr.add] using this
   ·rw [xF (by omega)] at hy
    injection hy with hy
    rw [←hy,e2]
    simp only [Rows.uptoBulk,Array.length_toList]
    exact xA _)
  refine ⟨some a,cap,(List.range len).map f,by rw [hcs];simp,fun hne=>?_,by rw [List.length_map,List.length_range];exact hl,?_⟩
  ·obtain ⟨b,off,spot⟩:=a
   have h0:0<len:=by
    rcases Nat.eq_zero_or_pos len with h | h
    ·subst h
     exact absurd rfl hne
    ·exact h
   have hspot:spot=none:=by
    have:=World.cell?_spot (hf 0 h0).1
    simpa [Addr.add] using this
   subst hspot
   refine ⟨b,off,rfl,trivial,fun i t ht=>?_⟩
   have hlt:i<len:=by
    obtain ⟨h1,_⟩:=xP.1 ht
    simpa using h1
   have et:t=f i:=by
    rw [List.getElem?_map,List.getElem?_range hlt] at ht
    simpa using ht.symm
   subst et
   have:=(hf i hlt).1
   rw [Qgr] at this
   exact this
  ·rw [hx]
   simp only [Rows.uptoBulk]
   have:=Qqf ((List.range len).map f) (elems.map (·.1)) (by simp [hlen]) (fun i k d hk hd=>by
    have hlt:i<len:=by
     obtain ⟨h1,_⟩:=xP.1 hk
     simpa using h1
    have ek:k=f i:=by
     rw [List.getElem?_map,List.getElem?_range hlt] at hk
     simpa using hk.symm
    subst ek
    rw [List.getElem?_map,xF (show i<elems.length by omega)] at hd
    simp at hd
    subst hd
    exact (hf i hlt).2 _ (xF (by omega)))
   omega
theorem Qtu:∀ (fuel:Nat) {cs:List Value} {x:DataW H × List MemPlace},DataW.trod enc Tryz.prog w base spare held fuel 29 cs=some x →
  ∃ (t:Tr) (v:TV),cs=v.cells∧TrAt (fun _=>True) w t v∧Qml t+1≤Rows.uptoBulk x.1:=by
 intro fuel
 induction fuel using Nat.strongRecOn with
 | ind fuel ih =>
  intro cs x h
  obtain ⟨ys,n,hn,hd,hlen,hyl,hf⟩:=DataW.trod_struct Tryz.underlying29 h
  rw [Qlq] at hlen
  match cs,hlen,ys,hyl with
  | [c0,c1,c2,c3],_,[y0,y1,y2,y3],_ =>
   have f0:DataW.trod enc Tryz.prog w base spare held n 3 (([c0,c1,c2,c3].drop 0).take (Tryz.prog.cellsOf 3))=some y0:=hf 0 _ rfl
   have f1:DataW.trod enc Tryz.prog w base spare held n 9 (([c0,c1,c2,c3].drop 1).take (Tryz.prog.cellsOf 9))=some y1:=hf 1 _ rfl
   have f2:DataW.trod enc Tryz.prog w base spare held n 27 (([c0,c1,c2,c3].drop 2).take (Tryz.prog.cellsOf 27))=some y2:=hf 2 _ rfl
   have f3:DataW.trod enc Tryz.prog w base spare held n 22 (([c0,c1,c2,c3].drop 3).take (Tryz.prog.cellsOf 22))=some y3:=hf 3 _ rfl
   rw [Qll] at f0
   rw [Qjb] at f1
   rw [Qo8] at f2
   rw [Qo9] at f3
   obtain ⟨k,e0,_,_⟩:=DataW.trod_int Tryz.underlying3 (show DataW.trod enc Tryz.prog w base spare held n 3 [c0] = some y0 from f0)
   obtain ⟨tx,e1,ebx,_⟩:=DataW.trod_string Tryz.underlying9 (show DataW.trod enc Tryz.prog w base spare held n 9 [c1] = some y1 from f1)
   obtain ⟨la,lc,ls,e2,hls,hlc,hlb⟩:=Qr6 (show DataW.trod enc Tryz.prog w base spare held n 27 [c2] = some y2 from f2)
   have kids:∃ (A:Option Addr) (c:Nat) (ks:List Tr),[c3] = [.slice A ks.length c]∧Qxf (fun _=>True) w A ks∧ks.length≤c∧ks.length+Qo7 ks+1≤Rows.uptoBulk y3.1:=by
    rcases DataW.trod_slice Tryz.underlying22 (show DataW.trod enc Tryz.prog w base spare held n 22 [c3] = some y3 from f3) with ⟨hcs,hx⟩|⟨a,len,cap,elems,rest,m,hm1,hcs,hx,_,hl,hm,hlen,hel,_,_⟩
    ·exact ⟨none,0,[],hcs,fun h=>absurd rfl h,xA _,by rw [hx,Qo7];exact Qmm _⟩
    ·rw [Qlq] at hel
     obtain ⟨f,hf⟩:=choose_lt (α:=Tr × TV) (n:=len) (p:=fun i t=>w.cell? (a.add (i*4))=some (.int .i64 t.2.kind)∧w.cell? ((a.add (i*4)).add 1)=some (.string t.2.text)∧w.cell? ((a.add (i*4)).add 2)=some (.slice t.2.la t.2.ll t.2.lc)∧w.cell? ((a.add (i*4)).add 3)=some (.slice t.2.ka t.2.kl t.2.kc)∧TrAt (fun _=>True) w t.1 t.2∧∀ y,elems[i]? = some y→Qml t.1+1≤Rows.uptoBulk y.1) (fun i hlt=>by
      have h1:=hel i hlt
      rw [xF (by omega)] at h1
      obtain ⟨cs',hc,ht⟩:=Qnn h1
      obtain ⟨t,v,ecs,htr,hcn⟩:=ih m (by omega) ht
      subst ecs
      obtain ⟨_,_,hat⟩:=World.cells?_some hc
      refine ⟨(t,v),?_,hat 1 (by omega),hat 2 (by omega),hat 3 (by omega),htr,fun y hy=>?_⟩
      ·have:=hat 0 (by omega)
       rw [show (a.add (i*4)).add 0=a.add (i*4) from by unfold Addr.add;simp] at this
       exact this
      ·rw [xF (by omega)] at hy
       injection hy with hy
       rw [←hy]
       exact hcn)
     refine ⟨some a,cap,(List.range len).map (fun i=>(f i).1),by rw [hcs];simp,fun hne=>?_,by rw [List.length_map,List.length_range];exact hl,?_⟩
     ·obtain ⟨b,off,spot⟩:=a
      have h0:0<len:=by
       rcases Nat.eq_zero_or_pos len with h | h
       ·subst h
        exact absurd rfl hne
       ·exact h
      have hspot:spot=none:=by
       have:=World.cell?_spot (hf 0 h0).1
       simpa [Addr.add] using this
      subst hspot
      refine ⟨b,off,rfl,trivial,TrsAt.of _ off fun i t ht=>?_⟩
      have hlt:i<len:=by
       obtain ⟨h1,_⟩:=xP.1 ht
       simpa using h1
      have et:t=(f i).1:=by
       rw [List.getElem?_map,List.getElem?_range hlt] at ht
       simpa using ht.symm
      subst et
      obtain ⟨g0,g1,g2,g3,g4,_⟩:=hf i hlt
      rw [Qgr] at g0 g1 g2 g3
      rw [Qgr] at g1 g2 g3
      exact ⟨(f i).2,g0,g1,g2,g3,g4⟩
     ·rw [hx]
      simp only [Rows.uptoBulk]
      have:=Qnm ((List.range len).map (fun i=>(f i).1)) (elems.map (·.1)) (by simp [hlen]) (fun i k d hk hd=>by
       have hlt:i<len:=by
        obtain ⟨h1,_⟩:=xP.1 hk
        simpa using h1
       have ek:k=(f i).1:=by
        rw [List.getElem?_map,List.getElem?_range hlt] at hk
        simpa using hk.symm
       subst ek
       rw [List.getElem?_map,xF (show i<elems.length by omega)] at hd
       simp at hd
       subst hd
       exact (hf i hlt).2.2.2.2.2 _ (xF (by omega)))
      omega
   obtain ⟨ka,kc,ks,e3,hks,hkc,hkb⟩:=kids
   simp at e0 e1 e2 e3
   refine ⟨.mk k tx ls ks,⟨k,tx,la,ls.length,lc,ka,ks.length,kc⟩,by rw [e0,e1,e2,e3];rfl,TrAt.make rfl rfl rfl rfl hls hks ⟨hlc,hkc⟩,?_⟩
   rw [hd,Qml]
   simp only [List.map_cons,List.map_nil,Rows.uptoBulk,Rows.uptoBulkAll]
   have:=Qmm y0.1
   have hbx:tx.size+1≤Rows.uptoBulk y1.1:=by
    rw [ebx]
    simp only [Rows.uptoBulk,Array.length_toList]
    exact xA _
   omega
end
end Go.Proofs.YtjidpkcjpgdafaaGreat
