/- Part 38 -/
import Derived.Test.YtjidpkcjpgdafaaGreatSf37
set_option maxRecDepth 100000
set_option maxHeartbeats 4000000
namespace Go.Proofs.YtjidpkcjpgdafaaGreat
open Go.RowKit Go.Shelf
def Qas (t:Tr) (zs:List Int):List Bnd:=if Qd0 t=true∧0≤Qjo 0 t zs then Qbj t [] zs [] else []
theorem Qit (S:Nat→Prop) (t:Tr) (v:TV) (PA:Option Addr) (c:Nat) (zs:List Int) (w:World) (ht:TrAt S w t v) (hs:Qb7 t=true) (hw:Qc2 t=true) (hz:Qam t≤10000) (hA:IntsAt w PA zs) (hzl:zs.length≤10000) (hc:zs.length≤c) :
  Calls Tryz.prog 67 #[.agg #[.int .i64 v.kind,.string v.text,.slice v.la v.ll v.lc,.slice v.ka v.kl v.kc],.slice PA zs.length c] w fun e w'=>∃ r us,e = .returned r∧Qjs w' w.heap.size r us∧StkE w PA w' us (Qas t zs)∧us.length≤20000∧Below w.heap.size w w':=by
 cases hf:Qd0 t
 ·have hr:Qas t zs = []:=by unfold Qas;rw [xN (fun h=>by rw [hf] at h;exact absurd h.1 (by decide))]
  rw [hr]
  clear hr
  have hb0:=Qaf w (trO v)
  have HT:=hQ (ht.keep hb0)
  have HX:=hQ (xH w (trO v))
  have HB0:=hQ hb0
  have HS:=hQ hs
  have HW:=hQ hw
  have HZ:=hQ hz
  have HF:=hQ hf
  have HA:=hQ hA
  have HZL:=hQ hzl
  obtain ⟨vk,vx,vla,vll,vlc,vka,vkl,vkc⟩:=v
  clear ht hb0 hs hw hz hf hA hzl
  go_enter Tryz.func67,Tryz.ntmps67
  go_wp2_with (go_at_call 70;refine (Qep _ t _ _ HT.out HS.out HW.out).mono ?_;rw [HF.out];rintro e w1 ⟨rfl,hb⟩;have HB1:=hQ (HB0.out.trans (hb.mono HB0.out.size));clear hb)
  go_ret
  exact ⟨_,[],rfl,World.ownsRow_nil _ _ _ _,⟨rfl,fun j y z hy=>by simp at hy⟩,by simp,HB1.out⟩
 ·by_cases hn:0≤Qjo 0 t zs
  ·have hr:Qas t zs=Qbj t [] zs []:=by unfold Qas;rw [xO ⟨hf,hn⟩]
   rw [hr]
   exact Qsa S t v PA c zs w ht hs hw hz hA hzl hc hf hn
  ·have hr:Qas t zs = []:=by unfold Qas;rw [xN (fun h=>hn h.2)]
   rw [hr]
   clear hr
   have hb0:=Qaf w (trO v)
   have HT:=hQ (ht.keep hb0)
   have HX:=hQ (xH w (trO v))
   have HB0:=hQ hb0
   have HS:=hQ hs
   have HW:=hQ hw
   have HZ:=hQ hz
   have HF:=hQ hf
   have HN:=hQ hn
   have HA:=hQ hA
   have HZL:=hQ hzl
   have HC:=hQ hc
   have hkl:=ht.kl.1
   obtain ⟨vk,vx,vla,vll,vlc,vka,vkl,vkc⟩:=v
   simp only at hkl
   subst hkl
   clear ht hb0 hs hw hz hf hA hzl hc
   have d0:decide (Qjo 0 t zs<0)=true:=xS (by omega)
   clear hn
   go_enter Tryz.func67,Tryz.ntmps67
   go_wp2_with (first
    | (go_at_call 70;refine (Qep _ t _ _ HT.out HS.out HW.out).mono ?_;rw [HF.out];rintro e w1 ⟨rfl,hb⟩;have HB1:=hQ (HB0.out.trans (hb.mono HB0.out.size));have HT1:=hQ (HT.out.keep hb);have HX1:=hQ ((hb.block _ (Qab HX.out)).trans HX.out);have k0:w1.cell? ⟨w.heap.size,0,none⟩=some (.int .i64 vk):=Qaa HX1.out 0 _ rfl;have k1:w1.cell? ⟨w.heap.size,1,none⟩=some (.string vx):=Qaa HX1.out 1 _ rfl;have k2:w1.cell? ⟨w.heap.size,2,none⟩=some (.slice vla vll vlc):=Qaa HX1.out 2 _ rfl;have k3:w1.cell? ⟨w.heap.size,3,none⟩=some (.slice vka t.kids.length vkc):=Qaa HX1.out 3 _ rfl;clear hb)
    | (go_at_call 114;refine (Qkg _ t _ PA c zs _ HT1.out (HA.out.keep HB1.out) (by have:=HZL.out;unfold maxLen;omega) (by have:=HZ.out;omega)).mono ?_;rintro e w2 ⟨rfl,hb⟩;have HB2:=hQ (HB1.out.trans (hb.mono HB1.out.size));have HT2:=hQ (HT1.out.keep hb);have HX2:=hQ ((hb.block _ (Qab HX1.out)).trans HX1.out);clear k0 k1 k2 k3;have k0:w2.cell? ⟨w.heap.size,0,none⟩=some (.int .i64 vk):=Qaa HX2.out 0 _ rfl;have k1:w2.cell? ⟨w.heap.size,1,none⟩=some (.string vx):=Qaa HX2.out 1 _ rfl;have k2:w2.cell? ⟨w.heap.size,2,none⟩=some (.slice vla vll vlc):=Qaa HX2.out 2 _ rfl;have k3:w2.cell? ⟨w.heap.size,3,none⟩=some (.slice vka t.kids.length vkc):=Qaa HX2.out 3 _ rfl;clear hb))
   go_ret
   exact ⟨_,[],rfl,World.ownsRow_nil _ _ _ _,⟨rfl,fun j y z hy=>by simp at hy⟩,by simp,HB2.out⟩
theorem StkE.stk {w w':World} {B:Nat} {PA A:Option Addr} {m cap:Nat} {us:List (ByteArray × Value)} {st:List Bnd} (h:StkE w PA w' us st) (hs:Qjs w' B (.slice A m cap) us) (hb:Below w.heap.size w w'):m=st.length∧Qv6 w' A st:=by
 refine ⟨?_,us,h.1,fun hne=>?_,fun j y z hy hz=>?_⟩
 ·rcases hs.2 with ⟨hv,h0⟩|⟨g,cap',cur,hv,_⟩
  ·injection hv with _ hv _
   rw [hv,←h.1,h0]
  ·injection hv with _ hv _
   rw [hv,h.1]
 ·rcases hs.2 with ⟨hv,h0⟩|⟨g,cap',cur,hv,_,hh,_⟩
  ·exact absurd (List.eq_nil_of_length_eq_zero h0) hne
  ·injection hv with hv _ _
   have hc:=hs.cells (g:=g) (by rw [hv];rfl)
   refine ⟨g,0,hv,Qab hh,fun j x hx=>?_⟩
   have h1:=hc _ _ (Qeg hx).1
   have h2:=hc _ _ (Qeg hx).2
   rw [Addr.add_lit] at h1 h2
   exact ⟨h1,h2⟩
 ·obtain ⟨h1,h2,h3,h4⟩:=h.2 j y z hy hz
  rcases h4 with h4|⟨pc,hv,hi⟩
  ·obtain ⟨PA',pc,hv,hi⟩:=h4.ints
   exact ⟨h1,PA',pc,hv,hi,h2,h3⟩
  ·exact ⟨h1,PA,pc,hv,hi.keep hb,h2,h3⟩
theorem Qlt (S:Nat→Prop) (t:Tr) (v:TV) (PA:Option Addr) (c:Nat) (zs:List Int) (x:ByteArray) (w:World) (ht:TrAt S w t v) (hs:Qb7 t=true) (hw:Qc2 t=true) (hz:Qam t≤10000) (hA:IntsAt w PA zs) (hzl:zs.length≤10000) (hc:zs.length≤c) :
  Calls Tryz.prog 33 #[.agg #[.int .i64 v.kind,.string v.text,.slice v.la v.ll v.lc,.slice v.ka v.kl v.kc],.slice PA zs.length c,.string x] w (InnPost (Qcc (Qas t zs) x) w):=by
 have hb0:=Qaf w (trO v)
 have HT:=hQ (ht.keep hb0)
 have HX:=hQ (xH w (trO v))
 have HB0:=hQ hb0
 have HS:=hQ hs
 have HW:=hQ hw
 have HZ:=hQ hz
 have HA:=hQ (hA.keep hb0)
 have HZL:=hQ hzl
 have HC:=hQ hc
 obtain ⟨vk,vx,vla,vll,vlc,vka,vkl,vkc⟩:=v
 clear ht hb0 hs hw hz hA hzl hc
 cases hin:Qcc (Qas t zs) x with
 | none =>
  have HIN:=hQ hin
  clear hin
  go_enter Tryz.func33,Tryz.ntmps33
  go_wp2_with (first
   | (go_at_call 67;refine (Qit _ t _ PA c zs _ HT.out HS.out HW.out HZ.out HA.out HZL.out HC.out).mono ?_;rintro e w1 ⟨r,us,rfl,hr,hst,hul,hb⟩;obtain ⟨RA,rc,rfl⟩:=Qbe hr;have HB1:=hQ (HB0.out.trans (hb.mono HB0.out.size));have HSK:=hQ (hst.stk hr hb);have HUL:=hQ hul;clear hr hst hul hb)
   | (go_at_call 66;refine (Qev RA _ rc (Qas t zs) x _ HSK.out.1 HSK.out.2 (by have:=HUL.out;omega)).mono ?_;rw [HIN.out];rintro e w2 ⟨hb,rfl⟩;have HB2:=hQ (HB1.out.trans (hb.mono HB1.out.size));clear hb))
  go_ret2
  exact ⟨HB2.out,rfl⟩
 | some q =>
  have HIN:=hQ hin
  clear hin
  go_enter Tryz.func33,Tryz.ntmps33
  go_wp2_with (first
   | (go_at_call 67;refine (Qit _ t _ PA c zs _ HT.out HS.out HW.out HZ.out HA.out HZL.out HC.out).mono ?_;rintro e w1 ⟨r,us,rfl,hr,hst,hul,hb⟩;obtain ⟨RA,rc,rfl⟩:=Qbe hr;have HB1:=hQ (HB0.out.trans (hb.mono HB0.out.size));have HSK:=hQ (hst.stk hr hb);have HUL:=hQ hul;clear hr hst hul hb)
   | (go_at_call 66;refine (Qev RA _ rc (Qas t zs) x _ HSK.out.1 HSK.out.2 (by have:=HUL.out;omega)).mono ?_;rw [HIN.out];rintro e w2 ⟨hb,y,rfl,hy⟩;have HY:=hQ (hy.low HB1.out.size);have HB2:=hQ (HB1.out.trans (hb.mono HB1.out.size));clear hb hy))
  go_ret2
  exact ⟨HB2.out,y,rfl,HY.out⟩
end Go.Proofs.YtjidpkcjpgdafaaGreat
