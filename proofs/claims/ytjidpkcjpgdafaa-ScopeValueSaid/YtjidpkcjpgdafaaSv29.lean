/- Part 29: Texts of stage 3 that this seat needs: TrInts, TreFind, TreNumber, TreSame, TreRSame, TreClone, TreAt, TreAwake, TreOpen. -/
import Derived.Test.YtjidpkcjpgdafaaSv1
import Derived.Test.YtjidpkcjpgdafaaSv28
import Derived.Test.YtjidpkcjpgdafaaRows
import Derived.WalkKit
import Derived.WalkSpells
import Derived.WalkLawsBesides
import Derived.Lib.Hide
import Derived.ChangeSlices
import Derived.ProofKit
import Derived.Below
import Derived.Deep.RegionLaw
import Derived.Deep.DrawnRows
import Derived.Shelf.RegionOpenPlain
import Derived.StillTailTactics
import Derived.Deep.AppendLies
import Derived.Laws.OwnMore
import Derived.Deep.Slices
set_option maxRecDepth 100000
set_option maxHeartbeats 4000000
namespace Go.Proofs.Ytjidpkcjpgdafaa
open Go.RowKit Go.ChangeShapes Go.WideShapes
def IntsAt (w:World) (A:Option Addr) (zs:List Int):Prop:=zs ≠ [] → ∃ b off,A = some ⟨b,off,none⟩ ∧ b < w.heap.size ∧ ∀ (i:Nat) (x:Int),zs[i]? = some x → w.cell? ⟨b,off + i,none⟩ = some (.int .i64 x)
theorem IntsAt.keep {w w':World} {A:Option Addr} {zs:List Int} (h:IntsAt w A zs) (hb:Below w.heap.size w w'):IntsAt w' A zs:=fun hne=>by
 obtain ⟨b,off,hA,hlt,hc⟩:=h hne
 exact ⟨b,off,hA,xE hlt hb.size,fun i x hx=>(xJ (w:=w) (a:=⟨b,off + i,none⟩) (hb.block b hlt)).trans (hc i x hx)⟩
theorem IntsAt.at {w:World} {A:Option Addr} {zs:List Int} (h:IntsAt w A zs) {i:Nat} (hi:i < zs.length):∃ b off,A = some ⟨b,off,none⟩ ∧ b < w.heap.size ∧ ∀ (i:Nat) (x:Int),zs[i]? = some x → w.cell? ⟨b,off + i,none⟩ = some (.int .i64 x):=h (fun e=>by rw [e] at hi;simp at hi)
end Go.Proofs.Ytjidpkcjpgdafaa
namespace Go.Proofs.Ytjidpkcjpgdafaa
open Go.RowKit
def kidB (t:Tr) (i:Int):Bool:=decide (0 ≤ i) && decide (i < (t.kids.length:Int))
def kidAt (t:Tr) (i:Int):Tr:=(t.kids[i.toNat]?).getD noTr
theorem kidB_get {t:Tr} {i:Int} (h:kidB t i = true):0 ≤ i ∧ i < (t.kids.length:Int) ∧ t.kids[i.toNat]? = some (kidAt t i):=by
 unfold kidB at h
 simp only [Bool.and_eq_true,decide_eq_true_eq] at h
 refine ⟨h.1,h.2,?_⟩
 unfold kidAt
 rw [xF (by omega)]
 rfl
def numG:Nat → Tr → List Int → Int
 | n,_,[]=>n
 | n,t,i :: r=>if kidB t i then numG (n + 1 + Qb2 (t.kids.take i.toNat)) (kidAt t i) r else -1
theorem haskid_any (S:Nat → Prop) (t:Tr) (v:TV) (i:Int) (w:World) (h:TrAt S w t v) :
  Calls Try.prog 64 #[.agg #[.int .i64 v.kind,.string v.text,.slice v.la v.ll v.lc,.slice v.ka v.kl v.kc],.int .i64 i] w fun e w'=>e = .returned (.bool (kidB t i)) ∧ Below w.heap.size w w':=by
 have hkl:=h.kl.1
 clear h
 obtain ⟨vk,vx,vla,vll,vlc,vka,vkl,vkc⟩:=v
 simp only at hkl
 subst hkl
 have HX:=hQ (xH w (trO ⟨vk,vx,vla,vll,vlc,vka,t.kids.length,vkc⟩))
 have HB0:=hQ ((xC w.heap.size w).alloc (xA _) (trO ⟨vk,vx,vla,vll,vlc,vka,t.kids.length,vkc⟩))
 have k3:(w.alloc (trO ⟨vk,vx,vla,vll,vlc,vka,t.kids.length,vkc⟩)).cell? ⟨w.heap.size,3,none⟩ = some (.slice vka t.kids.length vkc):=Qab HX.out 3 _ rfl
 have HR:=hQ (show kidB t i = (decide (0 ≤ i) && decide (i < (t.kids.length:Int))) from rfl)
 by_cases h0:0 ≤ i
 ·have d0:=decide_eq_true h0
  by_cases h1:i < (t.kids.length:Int)
  ·have d1:=decide_eq_true h1
   have HRR:=hQ (show kidB t i = true from by rw [HR.out,d0,d1];rfl)
   clear HR
   go_enter Try.func64,Try.ntmps64
   go_wp2
   go_ret
   exact ⟨by rw [HRR.out];rfl,HB0.out⟩
  ·have d1:=decide_eq_false h1
   have HRR:=hQ (show kidB t i = false from by rw [HR.out,d1,Bool.and_false])
   clear HR
   go_enter Try.func64,Try.ntmps64
   go_wp2
   go_ret
   exact ⟨by rw [HRR.out];rfl,HB0.out⟩
 ·have d0:=decide_eq_false h0
  have HRR:=hQ (show kidB t i = false from by rw [HR.out,d0,Bool.false_and])
  clear HR
  go_enter Try.func64,Try.ntmps64
  go_wp2
  go_ret
  exact ⟨by rw [HRR.out];rfl,HB0.out⟩
theorem drop_cons {α:Type} {l:List α} {j:Nat} {x:α} (h:l[j]? = some x):l.drop j = x :: l.drop (j + 1):=by
 obtain ⟨hj,he⟩:=List.getElem?_eq_some_iff.1 h
 rw [List.drop_eq_getElem_cons hj,he]
end Go.Proofs.Ytjidpkcjpgdafaa
namespace Go.Proofs.Ytjidpkcjpgdafaa
open Go.RowKit Go.Shelf
def SumAt (cur:Tr) (q m:Nat) (W:World) (n i:Value) (wr:World):Prop:=∃ l:Nat,i = .int .i64 l ∧ l ≤ q ∧ n = .int .i64 ((m + 1 + Qb2 (cur.kids.take l):Nat):Int) ∧ Below W.heap.size W wr
def NumAt (t0:Tr) (zs:List Int) (w:World) (n i:Value) (wr:World):Prop :=
 ∃ (j m:Nat) (x:TV) (cur:Tr),n = .int .i64 m ∧ i = .int .i64 j ∧ j ≤ zs.length ∧ numG 0 t0 zs = numG m cur (zs.drop j) ∧ wr.heap[w.heap.size]? = some (trO x) ∧ TrAt (fun k=>k < w.heap.size) wr cur x ∧ Below w.heap.size w wr ∧ m + Qbl cur ≤ 140737488355328
theorem size_kid_take {t k:Tr} {j:Nat} (h:t.kids[j]? = some k):1 + Qb2 (t.kids.take j) + Qbl k ≤ Qbl t:=by
 have h1:=Qdp h
 have h2:=Qcv t.kids (j + 1)
 rw [Qbj t]
 omega
theorem tnumber_any (S:Nat → Prop) (t:Tr) (v:TV) (A:Option Addr) (c:Nat) (zs:List Int) (w:World) (h:TrAt S w t v) (hA:IntsAt w A zs) (hz:zs.length ≤ maxLen) (hs:Qbl t ≤ 140737488355328) :
  Calls Try.prog 35 #[.agg #[.int .i64 v.kind,.string v.text,.slice v.la v.ll v.lc,.slice v.ka v.kl v.kc],.slice A zs.length c] w fun e w'=>e = .returned (.int .i64 (numG 0 t zs)) ∧ Below w.heap.size w w':=by
 have HB0:=hQ ((xC w.heap.size w).alloc (xA _) (trO v))
 have HT:=hQ (TrAt.low t v (h.keep HB0.out))
 have HTL:=hQ (show TrAt (fun k=>k < w.heap.size) (w.alloc (trO v)) t v from (TrAt.low t v h).keep HB0.out)
 have HX:=hQ (xH w (trO v))
 have HA:=hQ hA
 have HS:=hQ hs
 have hmax:zs.length ≤ 9223372036854775807:=by unfold maxLen at hz;omega
 clear h hA hz hs
 go_enter Try.func35,Try.ntmps35
 go_wp2
 go_loopw [5,12] (fun n i wr=>NumAt t zs w n i wr) (fun _ i _=>zs.length - (intOf i).toNat)
 case atStart=>exact ⟨0,0,v,t,rfl,rfl,Nat.zero_le _,rfl,HX.out,HTL.out,HB0.out,by have:=HS.out;omega⟩
 case round =>
  obtain ⟨j,m,x,cur,rfl,rfl,hj,hf,hx,hty,hb,hms⟩:=hrel
  have HF:=hQ hf
  have HTY:=hQ hty
  have HXX:=hQ hx
  have HBR:=hQ hb
  have HMS:=hQ hms
  have hkl:=hty.kl.1
  obtain ⟨vk,vx,vla,vll,vlc,vka,vkl,vkc⟩:=x
  simp only at hkl
  subst hkl
  clear hf hty hx hb hms
  have k0:=Qab HXX.out 0 _ rfl
  have k1:=Qab HXX.out 1 _ rfl
  have k2:=Qab HXX.out 2 _ rfl
  have k3:=Qab HXX.out 3 _ rfl
  have hbl:=Qaa HXX.out
  by_cases hlt:j < zs.length
  ·obtain ⟨z,hz⟩:∃ z,zs[j]? = some z:=⟨_,xF hlt⟩
   obtain ⟨ab,ao,rfl,_,hac⟩:=(HA.out.keep HBR.out).at hlt
   have a0:=hac j z hz
   have HD:=hQ (drop_cons hz)
   clear hac hz
   cases hkb:kidB cur z
   ·have HR:=hQ (show numG 0 t zs = -1 from by rw [HF.out,HD.out,numG,hkb];rfl)
    go_wp2_with (go_at_call 64;refine (haskid_any _ cur _ z _ HTY.out).mono ?_;rw [hkb];rintro e w2 ⟨rfl,hb2⟩;have HB2:=hQ (HBR.out.trans (hb2.mono HBR.out.size));clear hb2)
    go_ret
    exact ⟨by rw [HR.out];rfl,HB2.out⟩
   ·obtain ⟨z0,z1,z2⟩:=kidB_get hkb
    have HR:=hQ (show numG 0 t zs = numG (m + 1 + Qb2 (cur.kids.take z.toNat)) (kidAt cur z) (zs.drop (j + 1)) from by rw [HF.out,HD.out,numG,hkb];rfl)
    obtain ⟨q,rfl⟩:∃ q:Nat,z = (q:Int):=⟨z.toNat,by omega⟩
    rw [Int.toNat_natCast] at z2 HR
    have hq:q < cur.kids.length:=by omega
    obtain ⟨kb,ko,hka⟩:∃ b off,vka = some ⟨b,off,none⟩:=HTY.out.addr.resolve_left (by omega)
    subst hka
    have hcap:=HTY.out.caps.2
    simp only at hcap
    have hsk:=size_kid_take z2
    have hms:=HMS.out
    have hqc:(q:Int) ≤ (vkc:Int):=by omega
    have hm1:(m:Int) + 1 ≤ 140737488355328:=by omega
    have HSK:=hQ hsk
    clear hsk hms
    go_wp2_with (go_at_call 64;refine (haskid_any _ cur _ q _ HTY.out).mono ?_;rw [hkb];rintro e w2 ⟨rfl,hb2⟩;have HB2:=hQ (HBR.out.trans (hb2.mono HBR.out.size));have HX2:=hQ ((hb2.block w.heap.size hbl).trans HXX.out);have HT2:=hQ (HTY.out.keep hb2);clear hb2 k0 k1 k2 k3 hbl a0;have k3:=Qab HX2.out 3 _ rfl)
    go_loopw [5,27] (fun n i wr=>SumAt cur q m w2 n i wr) (fun _ i _=>q - (intOf i).toNat)
    case atStart=>exact ⟨0,rfl,Nat.zero_le _,by go_num,xC _ _⟩
    case round =>
     obtain ⟨l,rfl,hl,rfl,hb3⟩:=hrel
     have HB3:=hQ hb3
     have HX3:=hQ ((hb3.block w.heap.size (Qaa HX2.out)).trans HX2.out)
     have HT3:=hQ (HT2.out.keep hb3)
     clear hb3 k3
     by_cases hlq:l < q
     ·obtain ⟨k,hk⟩:∃ k,cur.kids[l]? = some k:=⟨_,xF (by omega)⟩
      obtain ⟨u,c0,c1,c2,c3,hu⟩:=HT3.out.at rfl hk
      have HU:=hQ hu
      have HS1:=hQ (Qdp hk)
      have hs0:=Qdp hk
      have hle:Qb2 (cur.kids.take (l + 1)) ≤ Qb2 (cur.kids.take q):=by
       have:cur.kids.take (l + 1) = (cur.kids.take q).take (l + 1):=by rw [List.take_take,Nat.min_eq_left (by omega)]
       rw [this]
       exact Qcv _ _
      have hsk:=HSK.out
      have hms:=HMS.out
      have HSZ:=hQ (show Qbl k ≤ 140737488355328 by omega)
      have q1:((m:Nat):Int) + 1 + ((Qb2 (cur.kids.take l):Nat):Int) + (Qbl k:Nat) ≤ 140737488355328:=by omega
      have hj0:(0:Int) ≤ (l:Int):=by omega
      have hj1:(l:Int) < (q:Int):=by omega
      have HA1:=hQ ((xC wr.heap.size wr).alloc (xA _) (trO u))
      have hlm:(l:Int) + 1 ≤ 140737488355328:=by have h1:=Qcq cur.kids;have h2:=Qbj cur;omega
      clear hk hu hs0 hle hsk hms
      go_wp2_with (go_at_call 65;refine (size_any (SizeOf.sizeOf k) _ k u _ (xA _) (HU.out.keep HA1.out) HSZ.out).mono ?_;rintro e w4 ⟨rfl,hb4⟩;have HB4:=hQ (HB3.out.trans ((HA1.out.trans (hb4.mono HA1.out.size)).mono HB3.out.size));clear hb4)
      go_roundw
      case measure=>simp [intOf];omega
      case rel=>exact ⟨l + 1,by go_num,by omega,by rw [HS1.out];go_num,HB4.out⟩
     ·have hlq':l = q:=by omega
      subst hlq'
      obtain ⟨u,c0,c1,c2,c3,hu⟩:=HT3.out.at rfl z2
      have HU:=hQ hu
      have k0:=Qab HX3.out 0 _ rfl
      have k1:=Qab HX3.out 1 _ rfl
      have k2:=Qab HX3.out 2 _ rfl
      have k3:=Qab HX3.out 3 _ rfl
      have rf:=Lib.frozen_of_heap HX3.out
      have hbl:=Qaa HX3.out
      have kbl:kb < wr.heap.size:=xK wr _ c3
      have hl0:(0:Int) ≤ (l:Int):=by omega
      have hl1:(l:Int) < (cur.kids.length:Int):=by omega
      have HK:=hQ z2
      clear hu z2 hkb hl hlq hq hqc z0 z1 hm1
      go_wp2
      go_roundw
      case measure=>simp [intOf];omega
      case rel =>
       have hbw:Below w.heap.size w wr:=HB2.out.trans (HB3.out.mono HB2.out.size)
       have hms:=HMS.out
       have hsk:=HSK.out
       exact ⟨j + 1,m + 1 + Qb2 (cur.kids.take l),u,kidAt cur l,by go_num,by go_num,by omega,HR.out,setT_heap u HX3.out,TrAt.move (fun _ h=>h) (fun k hk _=>(setT_below wr w.heap.size u).block k hk) _ _ HU.out,hbw.trans (setT_below wr w.heap.size u),by omega⟩
  ·have HR:=hQ (show numG 0 t zs = m from by rw [HF.out,List.drop_eq_nil_of_le (by omega)];rfl)
   go_wp2
   go_ret
   exact ⟨by rw [HR.out];rfl,HBR.out⟩
theorem mixed:Try.prog.follows Departure.mixedOrders = true:=by kernel_rfl
theorem setT_size (w:World) (b:Nat) (u:TV):(setT w b u).heap.size = w.heap.size:=by simp [setT,World.setCell]
end Go.Proofs.Ytjidpkcjpgdafaa
namespace Go.Proofs.Ytjidpkcjpgdafaa
open Go.RowKit Go.ChangeShapes Go.WideShapes Go.Deep
section
variable {H:Type} {enc:TypeId × Value → H} {w:World} {base:Nat} {spare:Nat → Bool} {held:Bool}
instance:Inhabited Tr:=⟨noTr⟩
instance:Inhabited TV:=⟨⟨0,⟨#[]⟩,none,0,0,none,0,0⟩⟩
theorem plain_add (b off n:Nat):((⟨b,off,none⟩:Addr).add n) = ⟨b,off + n,none⟩:=by unfold Addr.add;split <;> simp_all
end
end Go.Proofs.Ytjidpkcjpgdafaa
