/- Part 43: The contract of Visible at any tree. -/
import Derived.Test.YtjidpkcjpgdafaaSv1
import Derived.Test.YtjidpkcjpgdafaaSv42
set_option maxRecDepth 100000
set_option maxHeartbeats 4000000
namespace Go.Proofs.Ytjidpkcjpgdafaa
open Go.RowKit Go.Shelf
def visR (t:Tr) (zs:List Int):List ByteArray:=namesN ((Qb3 t zs).map (·.1))
def VisL (st:List Bnd) (w1:World) (B:Nat) (v i:Value) (wr:World):Prop:=∃ j:Nat,i = .int .i64 (j:Int) ∧ j ≤ st.length ∧ NRow wr w1.heap.size v (namesN ((st.take j).map (·.1))) ∧ Below w1.heap.size w1 wr ∧ B ≤ wr.heap.size
theorem StkE.in {w w1:World} {PA:Option Addr} {us:List (ByteArray × Value)} {st:List Bnd} {B n cap:Nat} {A:Option Addr} (h:StkE w PA w1 us st) (hs:SRow w1 B (.slice A n cap) us) {j:Nat} (hj:j < st.length):n = st.length ∧ ∃ (g:Nat) (z:Bnd) (pa:Option Addr) (pn pc:Nat),A = some ⟨g,0,none⟩ ∧ g < w1.heap.size ∧ st[j]? = some z ∧ w1.cell? ⟨g,j * 2,none⟩ = some (.string z.1) ∧ w1.cell? ⟨g,j * 2 + 1,none⟩ = some (.slice pa pn pc):=by
 obtain ⟨y,hy⟩:∃ y,us[j]? = some y:=⟨_,xF (by rw [h.1];exact hj)⟩
 obtain ⟨z,hz⟩:∃ z,st[j]? = some z:=⟨_,xF hj⟩
 obtain ⟨h1,_,_,h4⟩:=h.2 j y z hy hz
 obtain ⟨g,cap',hv,hg,hl⟩:=World.ownsRow.form hs (by rw [h.1];omega)
 injection hv with hv1 hv2 hv3
 subst hv1
 have hc:=hs.cells (g:=g) rfl
 have e0:=hc _ _ (Qcm hy).1
 have e1:=hc _ _ (Qcm hy).2
 rw [Addr.add_lit] at e0 e1
 simp only [Nat.zero_add] at e0 e1
 obtain ⟨pa,pn,pc,hp⟩:∃ pa pn pc,y.2 = .slice pa pn pc:=by
  rcases h4 with h4 | ⟨pc,hv,_⟩
  ·obtain ⟨A,c,e,_⟩:=h4.ints
   exact ⟨_,_,_,e⟩
  ·exact ⟨_,_,_,hv⟩
 exact ⟨by rw [hv2,h.1],g,z,pa,pn,pc,rfl,hl,hz,by rw [← h1];exact e0,by rw [← hp];exact e1⟩
theorem visible_any (S:Nat → Prop) (t:Tr) (v:TV) (PA:Option Addr) (c:Nat) (zs:List Int) (w:World) (ht:TrAt S w t v) (hs:Qa4 t = true) (hw:Qce t = true) (hz:Qbl t ≤ 10000) (hA:IntsAt w PA zs) (hzl:zs.length ≤ 10000) (hc:zs.length ≤ c) :
  Calls Try.prog 12 #[.agg #[.int .i64 v.kind,.string v.text,.slice v.la v.ll v.lc,.slice v.ka v.kl v.kc],.slice PA zs.length c] w fun e w'=>∃ r,e = .returned r ∧ NRow w' w.heap.size r (visR t zs) ∧ Below w.heap.size w w':=by
 have hb0:=Qaf w (trO v)
 have HT:=hQ (ht.keep hb0)
 have HX:=hQ (xH w (trO v))
 have HB0:=hQ hb0
 have HS:=hQ hs
 have HW:=hQ hw
 have HZ:=hQ hz
 have HA:=hQ (hA.keep hb0)
 have HZL:=hQ hzl
 have HC:=hQ hc
 obtain ⟨vk,vx,vla,vll,vlc,vka,vkl,vkc⟩:=v
 clear ht hb0 hs hw hz hA hzl hc
 obtain ⟨st,hst0⟩:∃ st,st = Qb3 t zs:=⟨_,rfl⟩
 have HSTE:=hQ hst0
 clear hst0
 go_enter Try.func12,Try.ntmps12
 go_wp2_with fail
 go_at_call 20
 refine (around_any _ t _ PA c zs _ HT.out HS.out HW.out HZ.out HA.out HZL.out HC.out).mono ?_
 rintro e w1 ⟨r,us,rfl,hr,hst,hul,hb⟩
 rw [← HSTE.out] at hst
 have hul2:us.length = st.length:=hst.1
 obtain ⟨RA,rc,rfl⟩:=Qbe hr
 have HB1:=hQ (HB0.out.trans (hb.mono HB0.out.size))
 have HUL:=hQ (show st.length ≤ 20000 by omega)
 have HR:=hQ hr
 have HST:=hQ hst
 rw [hul2]
 have hsl:(st.length:Int) ≤ 20000:=by omega
 clear hr hst hul hb hul2
 go_wp2_with fail
 go_loopw [5,14] (fun v i wr=>VisL st w1 w1.heap.size v i wr) (fun _ i _=>st.length - (intOf i).toNat)
 case atStart=>exact ⟨0,rfl,Nat.zero_le _,NRow.nil _ _,xC _ _,xA _⟩
 case round =>
  obtain ⟨j,rfl,hj,hn,hb,hB⟩:=hrel
  have HN:=hQ hn
  have HB:=hQ hb
  have HBS:=hQ hB
  clear hn hb hB
  by_cases hlt:j < st.length
  ·obtain ⟨_,g,z,pa,pn,pc,rfl,hg,hz,c0,c1⟩:=HST.out.in HR.out hlt
   have c0:=(HB.out.cell (p:=⟨g,j * 2,none⟩) hg).trans c0
   have c1:=(HB.out.cell (p:=⟨g,j * 2 + 1,none⟩) hg).trans c1
   have cl:=xK wr _ c0
   have j0:(0:Int) ≤ (j:Int):=by omega
   have j1:(j:Int) < (st.length:Int):=by omega
   have j2:(j:Int) + 1 ≤ 20001:=by omega
   obtain ⟨l,hl⟩:∃ l,l = namesN ((st.take j).map (·.1)):=⟨_,rfl⟩
   have HNR:=hQ (show NRow wr w1.heap.size _ l from by rw [hl];exact HN.out)
   have HASC:=hQ (show Asc l from by rw [hl];exact namesN_asc _)
   have HLL:=hQ (show l.length ≤ 20000 from by
    rw [hl]
    have h1:=namesN_len ((st.take j).map (·.1))
    rw [List.length_map,List.length_take] at h1
    have:=HUL.out
    omega)
   have HNX:=hQ (show namesN ((st.take (j + 1)).map (·.1)) = addN l z.1 from by
    rw [List.take_add_one,hz,Option.toList_some,List.map_append,List.map_cons,List.map_nil,namesN_snoc,hl])
   have HSP:=hQ (spotN_le l z.1)
   clear hz hl
   by_cases hin:l[Qci l z.1]? = some z.1
   ·have d0:decide (l[Qci l z.1]? = some z.1) = true:=decide_eq_true hin
    have HE:=hQ (show addN l z.1 = l from if_pos hin)
    clear hin
    go_wp2_with fail
    go_at_call 21
    refine (search_own w1.heap.size _ l z.1 _ (HNR.out.keep (Qaf wr _)) HASC.out (by have:=HLL.out;omega)).mono ?_
    rw [d0]
    rintro e w5 ⟨rfl,q,rfl⟩
    go_wp2_with fail
    go_roundw
    case measure=>first | (simp [intOf];done) | (simp [intOf];omega)
    case rel =>
     have hq:=drewN_b (wr.alloc (.cells #[.string z.1,.slice pa pn pc] 58)).heap.size (wr.alloc (.cells #[.string z.1,.slice pa pn pc] 58)) q
     have hq2:=(Qaf wr (.cells #[.string z.1,.slice pa pn pc] 58)).trans (hq.mono (Qaf wr (.cells #[.string z.1,.slice pa pn pc] 58)).size)
     exact ⟨j + 1,rfl,by omega,by rw [HNX.out,HE.out];exact HNR.out.keep hq2,HB.out.trans (hq2.mono HB.out.size),Nat.le_trans HBS.out hq2.size⟩
   ·have d0:decide (l[Qci l z.1]? = some z.1) = false:=decide_eq_false hin
    have HE:=hQ (show addN l z.1 = l.take (Qci l z.1) ++ z.1 :: l.drop (Qci l z.1) from if_neg hin)
    clear hin
    go_wp2_with fail
    go_at_call 21
    refine (search_own w1.heap.size _ l z.1 _ (HNR.out.keep (Qaf wr _)) HASC.out (by have:=HLL.out;omega)).mono ?_
    rw [d0]
    rintro e w5 ⟨rfl,q,rfl⟩
    obtain ⟨W5,hW5⟩:∃ W5,W5 = (wr.alloc (.cells #[.string z.1,.slice pa pn pc] 58)).drewN q:=⟨_,rfl⟩
    have hq:Below wr.heap.size wr W5:=by
     rw [hW5]
     exact (Qaf wr _).trans (drewN_b _ _ q)
    have hx5:W5.heap[wr.heap.size]? = some (.cells #[.string z.1,.slice pa pn pc] 58 (0,0)):=by
     rw [hW5]
     exact xH wr _
    rw [← hW5]
    have HQ:=hQ hq
    have HX5:=hQ hx5
    have k0:W5.cell? ⟨wr.heap.size,0,none⟩ = some (.string z.1):=Qab hx5 0 _ rfl
    have kl:=Qaa hx5
    clear hq hx5 hW5
    go_wp2_with fail
    go_at_call 22
    refine (insert_own w1.heap.size _ l (Qci l z.1) z.1 W5.heap.size _ ((HNR.out.keep HQ.out).keep (Qaf W5 _)) HSP.out (by have:=HLL.out;omega) (xH W5 _) (fun e=>?_) (by rw [xI];have:=HBS.out;have:=HQ.out.size;omega)).mono ?_
    ·have h1:=(World.ownsRow.lt (HNR.out.keep HQ.out) _ e).2
     omega
    rintro e w6 ⟨u,rfl,hu,hb6⟩
    have HU:=hQ hu
    have HB6:=hQ (HB.out.trans ((HQ.out.trans ((Qaf W5 (.cells #[.string z.1] 9)).mono HQ.out.size)).mono HB.out.size) |>.trans hb6)
    clear hu hb6
    go_wp2_with fail
    go_roundw
    case measure=>first | (simp [intOf];done) | (simp [intOf];omega)
    case rel=>exact ⟨j + 1,rfl,by omega,by rw [HNX.out,HE.out];exact HU.out,HB6.out,HB6.out.size⟩
  ·obtain rfl:j = st.length:=by omega
   go_wp2_with fail
   go_ret
   refine ⟨_,rfl,row_low (B:=w1.heap.size) ?_ HB1.out.size,HB1.out.trans (HB.out.mono HB1.out.size)⟩
   have h:=HN.out
   rw [List.take_length,HSTE.out] at h
   exact h
end Go.Proofs.Ytjidpkcjpgdafaa
