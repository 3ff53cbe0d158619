/- The walk of the law LinkFirst. No condition. -/
import Derived.Test.YtnnfdbmanamfdaaGreatLw1
import Derived.Test.YtnnfdbmanamfdaaGreatLwLnkFirstP
set_option maxRecDepth 100000
set_option maxHeartbeats 4000000
namespace Go.Proofs.YtnnfdbmanamfdaaGreat
open Go.RowKit Go.Shelf
def KdC (u:TV) (w:World) (s:Value) (wx:World):Prop:=∃ g:Nat,s = .pointer (some ⟨g,0,none⟩) ∧ wx.heap[g]? = some (trO u) ∧ Below w.heap.size w wx
theorem kd_new (u:TV) (w:World):KdC u w (.pointer (some ⟨w.heap.size,0,none⟩)) (w.drew.alloc (trO u)):=⟨w.heap.size,rfl,xH w.drew _,(show Below w.heap.size w w.drew from (xC _ _).drew).alloc (xA _) _⟩
theorem linkFirst_walk (A:Option Addr) (c:Nat) (xs:List Int) (w:World) (hx:IntsAt w A xs) :
  Calls Tryz.prog 11 #[.slice A xs.length c] w fun e w'=>e = .returned (.bool true) ∧ Below w.heap.size w w':=by
 by_cases hl:xs.length ≤ 120
 ·have d0:=decide_eq_true hl
  have HP:=hQ (program_any A c xs w hx hl)
  clear hx hl
  go_enter Tryz.func11,Tryz.ntmps11
  go_wp2_with (first | (go_at_call 25;refine (light_mak _ _ _ _).mono ?_;rintro e w0 ⟨rfl,h0⟩;rw [h0];clear h0 w0) | fail)
  go_at_call 32
  refine HP.out.mono ?_
  rintro e w1 ⟨r,ps,rfl,hm,hlen,hgood,hb⟩
  obtain ⟨A1,c1,us,rfl,hc1,hus,hrow,hat⟩:=hm
  have HB:=hQ hb
  have hcnt:=root_cnt hlen hgood
  have HR:=hQ (root_at hc1 hus hrow hat)
  have HF:=hQ (fit_cnt _ (show cntT (Qbx ps) ≤ 1048576 from by omega))
  have HS:=hQ (small_cnt _ (show cntT (Qbx ps) ≤ 1048576 from by omega))
  have HW:=hQ (words_cnt _ (show cntT (Qbx ps) ≤ 1048576 from by omega))
  have HZ:=hQ (fun t ht=>Nat.le_trans (hgood t ht).2.2.1 (show 352 ≤ 1000 from by decide))
  have HZL:=hQ (show Qap ps ≤ 90000 from by
   have h1:=good_size ps hgood
   have h2:352 * ps.length ≤ 352 * 3:=Nat.mul_le_mul_left _ hlen
   omega)
  have hnl:(ps.length:Int) ≤ 3:=by omega
  clear hrow hat hgood hb hcnt
  go_wp2_with (first
   | (go_at_call 34;refine (targets_lnk _ A1 c1 ps _ HR.out HF.out HS.out HW.out HZL.out).mono ?_;rintro e w2 ⟨v3,rfl,ht,hb⟩;obtain ⟨TA,tc,rfl⟩:=ht.slice;have HT2:=hQ ht;have HR2:=hQ (HR.out.keep hb);have HB2:=hQ (HB.out.trans (hb.mono HB.out.size));clear ht hb))
  have HNZ:=hQ (Nat.le_trans (tgtsG_len ps) HZL.out)
  obtain ⟨n,hn⟩:∃ n,n = (Qgp ps).length:=⟨_,rfl⟩
  rw [← hn]
  have HN:=hQ hn
  have hn9:n ≤ 90000:=by rw [hn];exact HNZ.out
  clear hn
  go_loopw [5] (fun i wr=>∃ j:Nat,i = .int .i64 (j:Int) ∧ j ≤ n ∧ Below w2.heap.size w2 wr) (fun i _=>n - (intOf i).toNat)
  case atStart=>exact ⟨0,rfl,Nat.zero_le _,xC _ _⟩
  case round =>
   obtain ⟨j,rfl,hj,hb⟩:=hrel
   have HBR:=hQ hb
   clear hb
   by_cases hlt:j < n
   ·obtain ⟨z,hz⟩:∃ z,(Qgp ps)[j]? = some z:=⟨_,xF (by rw [← HN.out];exact hlt)⟩
    have hj0:(0:Int) ≤ (j:Int):=by omega
    have hj1:(j:Int) < (n:Int):=by omega
    have hj2:(j:Int) + 1 ≤ 90001:=by omega
    have htk:=HT2.out.keep HBR.out
    rw [← HN.out] at htk
    obtain ⟨hnn,g,pv,hTA,_,gl,c0,cp,c2,c3,c4,hrow⟩:=htk.at hz
    subst hTA
    have HTK:=hQ htk
    obtain ⟨PA,pn,pc,rfl⟩:=hrow.slice
    have hpn:=hrow.len
    subst hpn
    have HROW:=hQ hrow
    have HZM:=hQ (List.mem_of_getElem? hz)
    obtain ⟨z0,zp,z1,z2,z3⟩:=z
    simp only at c0 c2 c3 c4 cp
    clear hrow hnn htk hz
    by_cases hf:z3 = true
    ·subst hf
     go_wp2
     go_roundw
     case measure=>first | (simp [intOf];done) | (simp [intOf];omega)
     case rel=>exact ⟨j + 1,by go_num,by omega,HBR.out⟩
    ·have hf':z3 = false:=by simpa using hf
     subst hf'
     obtain ⟨i,m,d,t,u,T,k,hti,hzi,hfu,hTm,hkd,hzm,hzd,hno,hag,hcase⟩:=tgt_first HZM.out rfl HZ.out
     simp only at hzi hzm hzd hfu
     subst hzi hzm hzd
     obtain ⟨b,off,hka⟩:∃ b off,A1 = some ⟨b,off,none⟩:=HR2.out.addr.resolve_left (by show ¬ ps.length = 0;have:=(List.getElem?_eq_some_iff.1 hTm).1;omega)
     subst hka
     have hrw:=HR2.out.keep HBR.out
     obtain ⟨uT,T0,T1,T2,T3,huT⟩:=hrw.at rfl (show (Qbx ps).kids[m]? = some T from hTm)
     obtain ⟨ut,t0,t1,t2,t3,hut⟩:=hrw.at rfl (show (Qbx ps).kids[i]? = some t from hti)
     have hdl:=(List.getElem?_eq_some_iff.1 hkd).1
     have hml:=(List.getElem?_eq_some_iff.1 hTm).1
     have hil:=(List.getElem?_eq_some_iff.1 hti).1
     obtain ⟨e1,e2,e3,e4⟩:=huT.kl
     obtain ⟨Tk,Tx,Tla,Tll,Tlc,Tka,Tkl,Tkc⟩:=uT
     simp only at e1 e2 e3 e4 T0 T1 T2 T3
     subst e1 e3 e4
     obtain ⟨kb,ko,hua⟩:∃ b off,Tka = some ⟨b,off,none⟩:=huT.addr.resolve_left (by show ¬ T.kids.length = 0;omega)
     subst hua
     obtain ⟨uk,k0,k1,k2,k3,huk⟩:=huT.at rfl hkd
     obtain ⟨f1,f2,f3,f4⟩:=huk.kl
     obtain ⟨kk,kx,kla,kll,klc,kka,kkl,kkc⟩:=uk
     simp only at f1 f2 f3 f4 k0 k1 k2 k3
     subst f1 f3 f4
     have HUT:=hQ huT
     have HNO:=hQ hno
     have HAG:=hQ hag
     have HCASE:=hQ hcase
     have HTT:=hQ (Qco HF.out).2.2
     have hm0:(0:Int) ≤ (m:Int):=by omega
     have hm1:(m:Int) < (ps.length:Int):=by omega
     have hd0:(0:Int) ≤ (d:Int):=by omega
     have hd1:(d:Int) < (T.kids.length:Int):=by omega
     have hi0:(0:Int) ≤ (i:Int):=by omega
     have hi1:(i:Int) < (ps.length:Int):=by omega
     have q1:decide ((m:Int) < 0) = false:=decide_eq_false (by omega)
     have q2:decide (ps.length ≤ m) = false:=decide_eq_false (by omega)
     have q3:decide ((d:Int) < 0) = false:=decide_eq_false (by omega)
     have q4:decide (T.kids.length ≤ d) = false:=decide_eq_false (by omega)
     have gl:=gl
     have bl:=xK wr _ T0
     have kl:=xK wr _ k0
     have HKD:=hQ hkd
     have hlt0:=hlt
     have HUSZ:u.text.size ≤ maxLen:=by have h:=words_node zp (((Qcr HW.out).2.2) i t hti);rw [hfu] at h;exact h
     have HDL:=hQ hdl
     have HTL:=hQ (show T.kids.length ≤ 1900000000000 from (Qco (HTT.out m T hTm)).2.1)
     have HCA:=hQ (fun (w':World) (hb:Below wr.heap.size wr w')=>rat_any _ t ut PA pc zp w' (hut.keep hb) (HROW.out.intsAt.keep hb) (Nat.le_trans (tgts_long HZM.out HZL.out) (by decide)))
     have HFU:=hQ (show (Qc8 t zp).getD noTr = u from by rw [hfu];rfl)
     have mixedL:Tryz.prog.follows Departure.mixedOrders = true:=mixed
     clear hut huT huk hrw hno hag hcase hti hTm hkd hfu hml hil hdl e2 f2
     go_upto_region 9 with fail
     go_cut [71] (fun s71 wx=>s71 = .bool false ∧ Below wr.heap.size wr wx)
     case first =>
      as_aux_lemma =>
       go_region_o
       all_goals go_wp2_with fail
       all_goals go_meet
       all_goals exact ⟨by simp,(xC _ _).drew⟩
     obtain ⟨rfl,hb9⟩:=hcut
     obtain ⟨w9,hw9⟩:∃ w',w' = wc:=⟨_,rfl⟩
     subst hw9
     go_upto_region 11 with fail
     have hw9:=True.intro
     have HB9:=hQ hb9
     have c0':=Qbr hb9 gl c0
     have cp':=Qbr hb9 gl cp
     have c2':=Qbr hb9 gl c2
     have c3':=Qbr hb9 gl c3
     have T0':=Qbr hb9 bl T0
     have T1':=Qbr hb9 bl T1
     have T2':=Qbr hb9 bl T2
     have T3':=Qbr hb9 bl T3
     have t0':=Qbr hb9 bl t0
     have t1':=Qbr hb9 bl t1
     have t2':=Qbr hb9 bl t2
     have t3':=Qbr hb9 bl t3
     have k0':=Qbr hb9 kl k0
     have k1':=Qbr hb9 kl k1
     have k2':=Qbr hb9 kl k2
     have k3':=Qbr hb9 kl k3
     have gl':=xE gl hb9.size
     have bl':=xE bl hb9.size
     have kl':=xE kl hb9.size
     clear c0 cp c2 c3 T0 T1 T2 T3 t0 t1 t2 t3 k0 k1 k2 k3 gl bl kl
     have c0:=c0'
     have cp:=cp'
     have c2:=c2'
     have c3:=c3'
     have T0:=T0'
     have T1:=T1'
     have T2:=T2'
     have T3:=T3'
     have t0:=t0'
     have t1:=t1'
     have t2:=t2'
     have t3:=t3'
     have k0:=k0'
     have k1:=k1'
     have k2:=k2'
     have k3:=k3'
     have gl:=gl'
     have bl:=bl'
     have kl:=kl'
     clear c0' cp' c2' c3' T0' T1' T2' T3' t0' t1' t2' t3' k0' k1' k2' k3' gl' bl' kl'
     clear hw9 hb9 q1 q2 q3 q4
     have n0:=World.new_ne w9 _ t0
     have n1:=World.new_ne w9 _ c0
     go_cut [6] (fun s6 wx=>AtC t zp w9 s6 wx)
     case first =>
      as_aux_lemma =>
       clear T0 T1 T2 T3 k0 k1 k2 k3 c2 c3
       go_region_held3 (fun w'=>w'.cell? ⟨b,off + i * 4,none⟩ = some (.int .i64 ut.kind) ∧ w'.cell? ⟨b,off + i * 4 + 1,none⟩ = some (.string ut.text) ∧ w'.cell? ⟨b,off + i * 4 + 2,none⟩ = some (.slice ut.la ut.ll ut.lc) ∧ w'.cell? ⟨b,off + i * 4 + 3,none⟩ = some (.slice ut.ka ut.kl ut.kc) ∧ w'.cell? ⟨g,j * 5,none⟩ = some (.int .i64 i) ∧ w'.cell? ⟨g,j * 5 + 1,none⟩ = some (.slice PA zp.length pc)) (first | with_reducible exact ⟨t0,t1,t2,t3,c0,cp⟩ | go_keep) (first
        | (go_at_call 28;refine (HCA.out w9.drew (HB9.out.drew)).mono ?_;rintro e w3 ⟨hb3,x,rfl,S3,_,hx3⟩;have HKX:=hQ (And.intro hx3.kl.2.2.1 hx3.kl.2.2.2);have HB3:=hQ (show Below w9.heap.size w9 w3 from (show Below w9.heap.size w9 w9.drew from (xC _ _).drew).trans hb3);have h0:=Qbr HB3.out bl t0;have h1:=Qbr HB3.out bl t1;have h2:=Qbr HB3.out bl t2;have h3:=Qbr HB3.out bl t3;have h4:=Qbr HB3.out gl c0;have h5:=Qbr HB3.out gl cp;have g3:=xE bl HB3.out.size;have g4:=xE gl HB3.out.size;clear t0 t1 t2 t3 c0 cp bl gl;have t0:=h0;have t1:=h1;have t2:=h2;have t3:=h3;have c0:=h4;have cp:=h5;have bl:=g3;have gl:=g4;clear h0 h1 h2 h3 h4 h5 g3 g4;clear hb3 hx3)
        | (go_at_call 28;refine (HCA.out ((w9.alloc (.cells #[.int .i64 0,.string ⟨#[]⟩,.slice none 0 0,.slice none 0 0] 25)).drew) ((HB9.out.alloc HB9.out.size _).drew)).mono ?_;rintro e w3 ⟨hb3,x,rfl,S3,_,hx3⟩;have HKX:=hQ (And.intro hx3.kl.2.2.1 hx3.kl.2.2.2);have HB3:=hQ (show Below w9.heap.size w9 w3 from (((xC w9.heap.size w9).alloc (xA _) (.cells #[.int .i64 0,.string ⟨#[]⟩,.slice none 0 0,.slice none 0 0] 25)).drew).trans (hb3.mono (by show _ ≤ (w9.alloc _).heap.size;rw [xI];omega)));have hzb:=(show w3.heap[w9.heap.size]? = some (.cells #[.int .i64 0,.string ⟨#[]⟩,.slice none 0 0,.slice none 0 0] 25 (0,0)) from (hb3.block _ (by show _ < (w9.alloc _).heap.size;rw [xI];omega)).trans (xH w9 _));have HZB:=hQ hzb;have zf:∀ o,w3.frozen? ⟨w9.heap.size,o,none⟩ = false:=(fun o=>Lib.frozen_of_heap hzb _);have zl:=Qaa hzb;have z0:w3.cell? ⟨w9.heap.size,0,none⟩ = some (.int .i64 0):=Qab hzb 0 _ rfl;have z1:w3.cell? ⟨w9.heap.size,1,none⟩ = some (.string ⟨#[]⟩):=Qab hzb 1 _ rfl;have z2:w3.cell? ⟨w9.heap.size,2,none⟩ = some (.slice none 0 0):=Qab hzb 2 _ rfl;have z3:w3.cell? ⟨w9.heap.size,3,none⟩ = some (.slice none 0 0):=Qab hzb 3 _ rfl;have h0:=Qbr HB3.out bl t0;have h1:=Qbr HB3.out bl t1;have h2:=Qbr HB3.out bl t2;have h3:=Qbr HB3.out bl t3;have h4:=Qbr HB3.out gl c0;have h5:=Qbr HB3.out gl cp;have g3:=xE bl HB3.out.size;have g4:=xE gl HB3.out.size;clear t0 t1 t2 t3 c0 cp bl gl;have t0:=h0;have t1:=h1;have t2:=h2;have t3:=h3;have c0:=h4;have cp:=h5;have bl:=g3;have gl:=g4;clear h0 h1 h2 h3 h4 h5 g3 g4;clear hb3 hx3 hzb)
        | fail)
       all_goals
        go_wp2_with fail
        go_meet
        first
         | (have hh:=HZB.out;clear hh;exact at_late HZB.out HKX.out.1 HKX.out.2 HB3.out)
         | exact at_early HKX.out.1 HKX.out.2 HB3.out
     case rest =>
      obtain ⟨w3,hww⟩:∃ w',w' = wc:=⟨_,rfl⟩
      subst hww
      obtain ⟨g6,x,rfl,hxb,hxk,hxt,hbc⟩:=hcut
      rw [HFU.out] at hxk hxt
      have HB3:=hQ (HB9.out.trans (hbc.mono HB9.out.size))
      have c0':=Qbr hbc gl c0
      have cp':=Qbr hbc gl cp
      have c2':=Qbr hbc gl c2
      have c3':=Qbr hbc gl c3
      have T0':=Qbr hbc bl T0
      have T1':=Qbr hbc bl T1
      have T2':=Qbr hbc bl T2
      have T3':=Qbr hbc bl T3
      have t0':=Qbr hbc bl t0
      have t1':=Qbr hbc bl t1
      have t2':=Qbr hbc bl t2
      have t3':=Qbr hbc bl t3
      have k0':=Qbr hbc kl k0
      have k1':=Qbr hbc kl k1
      have k2':=Qbr hbc kl k2
      have k3':=Qbr hbc kl k3
      have gl':=xE gl hbc.size
      have bl':=xE bl hbc.size
      have kl':=xE kl hbc.size
      clear c0 cp c2 c3 T0 T1 T2 T3 t0 t1 t2 t3 k0 k1 k2 k3 gl bl kl
      have c0:=c0'
      have cp:=cp'
      have c2:=c2'
      have c3:=c3'
      have T0:=T0'
      have T1:=T1'
      have T2:=T2'
      have T3:=T3'
      have t0:=t0'
      have t1:=t1'
      have t2:=t2'
      have t3:=t3'
      have k0:=k0'
      have k1:=k1'
      have k2:=k2'
      have k3:=k3'
      have gl:=gl'
      have bl:=bl'
      have kl:=kl'
      clear c0' cp' c2' c3' T0' T1' T2' T3' t0' t1' t2' t3' k0' k1' k2' k3' gl' bl' kl'
      obtain ⟨xk,xx,xla,xll,xlc,xka,xkl,xkc⟩:=x
      simp only at hxk hxt
      subst hxk hxt
      have HXB:=hQ hxb
      clear n0 n1 hbc hxb
      have n2:=World.new_ne w3 _ c2
      have n3:=World.new_ne w3 _ T3
      have n4:=World.new_ne w3 _ k0
      go_upto_region 12 with fail
      go_cut [8] (fun s8 wx=>KdC (⟨k.kind,k.text,kla,kll,klc,kka,k.kids.length,kkc⟩:TV) w3 s8 wx)
      case first =>
       as_aux_lemma =>
        clear T0 T1 T2 t0 t1 t2 t3 c0 cp
        go_region_held3 (fun w'=>w'.cell? ⟨g,j * 5 + 2,none⟩ = some (.int .i64 m) ∧ w'.cell? ⟨g,j * 5 + 3,none⟩ = some (.int .i64 d) ∧ w'.cell? ⟨b,off + m * 4 + 3,none⟩ = some (.slice (some ⟨kb,ko,none⟩) T.kids.length Tkc) ∧ w'.cell? ⟨kb,ko + d * 4,none⟩ = some (.int .i64 k.kind) ∧ w'.cell? ⟨kb,ko + d * 4 + 1,none⟩ = some (.string k.text) ∧ w'.cell? ⟨kb,ko + d * 4 + 2,none⟩ = some (.slice kla kll klc) ∧ w'.cell? ⟨kb,ko + d * 4 + 3,none⟩ = some (.slice kka k.kids.length kkc)) (first | with_reducible exact ⟨c2,c3,T3,k0,k1,k2,k3⟩ | go_keep) (fail)
        all_goals
         go_wp2_with fail
         go_meet
         exact kd_new _ _
      case rest =>
       obtain ⟨w5,hww⟩:∃ w',w' = wc:=⟨_,rfl⟩
       subst hww
       obtain ⟨g8,rfl,hkb,hbc5⟩:=hcut
       have HB5:=hQ (HB3.out.trans (hbc5.mono HB3.out.size))
       have c0':=Qbr hbc5 gl c0
       have c2':=Qbr hbc5 gl c2
       have c3':=Qbr hbc5 gl c3
       have T1':=Qbr hbc5 bl T1
       have T3':=Qbr hbc5 bl T3
       have gl':=xE gl hbc5.size
       have bl':=xE bl hbc5.size
       skip
       clear c0 c2 c3 T1 T3 gl bl
       have c0:=c0'
       have c2:=c2'
       have c3:=c3'
       have T1:=T1'
       have T3:=T3'
       have gl:=gl'
       have bl:=bl'
       skip
       clear c0' c2' c3' T1' T3' gl' bl'
       have xb5:=(hbc5.block _ (Qaa HXB.out)).trans HXB.out
       have x0:w5.cell? ⟨g6,0,none⟩ = some (.int .i64 u.kind):=Qab xb5 0 _ rfl
       have x1:w5.cell? ⟨g6,1,none⟩ = some (.string u.text):=Qab xb5 1 _ rfl
       have xl:=Qaa xb5
       have y0:w5.cell? ⟨g8,0,none⟩ = some (.int .i64 k.kind):=Qab hkb 0 _ rfl
       have y1:w5.cell? ⟨g8,1,none⟩ = some (.string k.text):=Qab hkb 1 _ rfl
       have yl:=Qaa hkb
       clear n2 n3 n4 hkb hbc5 xb5 T0 T2 t0 t1 t2 t3 k0 k1 k2 k3 cp kl
       have HUS:=hQ HUSZ
       rcases HCASE.out with ⟨hu1,hu2⟩ | ⟨hu1,hu2⟩
       ·have d1:=text_ne hu2
        have HU1:=hQ hu1
        clear hu1 hu2 hi0 hi1 hd0 hd1 HUSZ hj2
        go_upto_region 14 with fail
        go_cut [157] (fun s157 wx=>s157 = .bool false ∧ Below w5.heap.size w5 wx)
        case first =>
         have hs:T.text.size + 1 + k.text.size ≤ maxLen:=by
          have h:=HUS.out
          rw [HU1.out,ByteArray.size_append,ByteArray.size_append] at h
          exact h
         have hq1:=fun w:World=>run_string_add_sum (P:=Tryz.prog) w T.text ⟨#[46]⟩ (by show T.text.size + 1 ≤ _;unfold maxLen at hs;omega)
         have hq2:=fun w:World=>run_string_add_sum (P:=Tryz.prog) w (T.text ++ ⟨#[46]⟩) k.text (by rw [ByteArray.size_append];show T.text.size + 1 + k.text.size ≤ _;unfold maxLen at hs;omega)
         have d2:=text_eq HU1.out
         clear hs
         obtain ⟨bb,hbb⟩:∃ bb:Bool,(u.kind == 16) = bb ∧ (k.kind == 2) = bb:=⟨_,rfl,by
          by_cases h16:u.kind = 16
          ·rw [h16,HAG.out.1 h16];rfl
          ·rw [beq_eq_false_iff_ne.2 h16,beq_eq_false_iff_ne.2 (fun h=>h16 (HAG.out.2 h))]⟩
         have r1:=hbb.1
         have r2:=hbb.2
         clear hbb
         go_region_o
         all_goals go_wp2_with fail
         all_goals go_meet
         all_goals exact ⟨by simp,(xC _ _).drew⟩
        case rest =>
         obtain ⟨w6,hww⟩:∃ w',w' = wc:=⟨_,rfl⟩
         subst hww
         obtain ⟨rfl,hb6⟩:=hcut
         have HB6:=hQ (HB5.out.trans (hb6.mono HB5.out.size))
         have c2':=Qbr hb6 gl c2
         have c3':=Qbr hb6 gl c3
         have T3':=Qbr hb6 bl T3
         have y1':=Qbr hb6 yl y1
         have HFA:=hQ (show ∀ wq,Below w6.heap.size w6 wq → wq.cell? ⟨g,j * 5 + 2,none⟩ = some (.int .i64 m) ∧ wq.cell? ⟨g,j * 5 + 3,none⟩ = some (.int .i64 d) ∧ wq.cell? ⟨b,off + m * 4 + 3,none⟩ = some (.slice (some ⟨kb,ko,none⟩) T.kids.length Tkc) ∧ wq.cell? ⟨g8,1,none⟩ = some (.string k.text) ∧ g < wq.heap.size ∧ b < wq.heap.size ∧ g8 < wq.heap.size from fun wq hb=>⟨Qbr hb (xE gl hb6.size) c2',Qbr hb (xE gl hb6.size) c3',Qbr hb (xE bl hb6.size) T3',Qbr hb (xE yl hb6.size) y1',xE gl (Nat.le_trans hb6.size hb.size),xE bl (Nat.le_trans hb6.size hb.size),xE yl (Nat.le_trans hb6.size hb.size)⟩)
         clear c0 c2 c3 T1 T3 x0 x1 y0 y1 gl bl xl yl c2' c3' T3' y1' hb6
         go_wp2
         go_loopw [10] (fun q wq=>∃ e:Nat,q = .int .i64 (e:Int) ∧ e ≤ d ∧ Below w6.heap.size w6 wq) (fun q _=>d - (intOf q).toNat)
         case atStart=>exact ⟨0,rfl,Nat.zero_le _,xC _ _⟩
         case round =>
          obtain ⟨e,rfl,he,hb⟩:=hrel
          have HBQ:=hQ hb
          obtain ⟨c2,c3,T3,y1,gl,bl,yl⟩:=HFA.out wr hb
          clear hb
          by_cases hlt:e < d
          ·obtain ⟨q,hq⟩:∃ q,T.kids[e]? = some q:=⟨_,xF (Nat.lt_trans hlt HDL.out)⟩
           obtain ⟨uq,e0,e1,e2,e3,huq⟩:=(HUT.out.keep (HB6.out.trans (HBQ.out.mono HB6.out.size))).at rfl hq
           have el:=xK wr _ e1
           have hqx:uq.text = q.text:=huq.kl.2.2.2
           have d3:=text_ne (show uq.text ≠ k.text from by rw [hqx];exact HNO.out e q hlt hq)
           have he0:(0:Int) ≤ (e:Int):=by omega
           have he1:(e:Int) < (T.kids.length:Int):=by have:=HDL.out;omega
           have he2:(e:Int) + 1 ≤ 1900000000001:=by have:=HDL.out;have:=HTL.out;omega
           clear huq hqx hq e0 e2 e3
           go_wp2_with fail
           go_region_o
           all_goals
            go_wp2
            go_roundw
            case measure=>first | (simp [intOf];done) | (simp [intOf];omega)
            case rel=>exact ⟨e + 1,by go_num,by omega,HBQ.out.drew⟩
          ·obtain rfl:e = d:=by omega
           go_wp2
           refine ⟨⟨j + 1,by go_num,hlt0,HBR.out.trans ((HB6.out.trans (HBQ.out.mono HB6.out.size)).mono HBR.out.size)⟩,?_⟩
           first | (simp [intOf];done) | (simp [intOf];omega)
       ·subst hu2
        have d1:=text_eq hu1
        clear hu1 hi0 hi1 hd0 hd1 HUSZ hj2
        go_upto_region 14 with fail
        go_cut [157] (fun s157 wx=>s157 = .bool false ∧ Below w5.heap.size w5 wx)
        case first =>
         obtain ⟨bb,hbb⟩:∃ bb:Bool,(u.kind == 16) = bb ∧ (k.kind == 2) = bb:=⟨_,rfl,by
          by_cases h16:u.kind = 16
          ·rw [h16,HAG.out.1 h16];rfl
          ·rw [beq_eq_false_iff_ne.2 h16,beq_eq_false_iff_ne.2 (fun h=>h16 (HAG.out.2 h))]⟩
         have r1:=hbb.1
         have r2:=hbb.2
         clear hbb
         go_region_o
         all_goals go_wp2_with fail
         all_goals go_meet
         all_goals exact ⟨by simp,(xC _ _).drew⟩
        case rest =>
         obtain ⟨w6,hww⟩:∃ w',w' = wc:=⟨_,rfl⟩
         subst hww
         obtain ⟨rfl,hb6⟩:=hcut
         have HB6:=hQ (HB5.out.trans (hb6.mono HB5.out.size))
         have c2':=Qbr hb6 gl c2
         have c3':=Qbr hb6 gl c3
         have T3':=Qbr hb6 bl T3
         have y1':=Qbr hb6 yl y1
         have HFA:=hQ (show ∀ wq,Below w6.heap.size w6 wq → wq.cell? ⟨g,j * 5 + 2,none⟩ = some (.int .i64 m) ∧ wq.cell? ⟨g,j * 5 + 3,none⟩ = some (.int .i64 d) ∧ wq.cell? ⟨b,off + m * 4 + 3,none⟩ = some (.slice (some ⟨kb,ko,none⟩) T.kids.length Tkc) ∧ wq.cell? ⟨g8,1,none⟩ = some (.string k.text) ∧ g < wq.heap.size ∧ b < wq.heap.size ∧ g8 < wq.heap.size from fun wq hb=>⟨Qbr hb (xE gl hb6.size) c2',Qbr hb (xE gl hb6.size) c3',Qbr hb (xE bl hb6.size) T3',Qbr hb (xE yl hb6.size) y1',xE gl (Nat.le_trans hb6.size hb.size),xE bl (Nat.le_trans hb6.size hb.size),xE yl (Nat.le_trans hb6.size hb.size)⟩)
         clear c0 c2 c3 T1 T3 x0 x1 y0 y1 gl bl xl yl c2' c3' T3' y1' hb6
         go_wp2
         go_loopw [10] (fun q wq=>∃ e:Nat,q = .int .i64 (e:Int) ∧ e ≤ d ∧ Below w6.heap.size w6 wq) (fun q _=>d - (intOf q).toNat)
         case atStart=>exact ⟨0,rfl,Nat.zero_le _,xC _ _⟩
         case round =>
          obtain ⟨e,rfl,he,hb⟩:=hrel
          have HBQ:=hQ hb
          obtain ⟨c2,c3,T3,y1,gl,bl,yl⟩:=HFA.out wr hb
          clear hb
          by_cases hlt:e < d
          ·obtain ⟨q,hq⟩:∃ q,T.kids[e]? = some q:=⟨_,xF (Nat.lt_trans hlt HDL.out)⟩
           obtain ⟨uq,e0,e1,e2,e3,huq⟩:=(HUT.out.keep (HB6.out.trans (HBQ.out.mono HB6.out.size))).at rfl hq
           have el:=xK wr _ e1
           have hqx:uq.text = q.text:=huq.kl.2.2.2
           have d3:=text_ne (show uq.text ≠ k.text from by rw [hqx];exact HNO.out e q hlt hq)
           have he0:(0:Int) ≤ (e:Int):=by omega
           have he1:(e:Int) < (T.kids.length:Int):=by have:=HDL.out;omega
           have he2:(e:Int) + 1 ≤ 1900000000001:=by have:=HDL.out;have:=HTL.out;omega
           clear huq hqx hq e0 e2 e3
           go_wp2_with fail
           go_region_o
           all_goals
            go_wp2
            go_roundw
            case measure=>first | (simp [intOf];done) | (simp [intOf];omega)
            case rel=>exact ⟨e + 1,by go_num,by omega,HBQ.out.drew⟩
          ·obtain rfl:e = d:=by omega
           go_wp2
           refine ⟨⟨j + 1,by go_num,hlt0,HBR.out.trans ((HB6.out.trans (HBQ.out.mono HB6.out.size)).mono HBR.out.size)⟩,?_⟩
           first | (simp [intOf];done) | (simp [intOf];omega)

   ·obtain rfl:j = n:=by omega
    go_wp2_with (go_at_call 31;refine (awake_lnk _).mono ?_;rintro e w4 ⟨rfl,hb⟩;have HB4:=hQ (HBR.out.trans (hb.mono HBR.out.size));clear hb)
    go_ret
    exact ⟨rfl,HB2.out.trans (HB4.out.mono HB2.out.size)⟩
 ·have d0:=decide_eq_false hl
  clear hx hl
  go_enter Tryz.func11,Tryz.ntmps11
  go_wp2_with (first | (go_at_call 25;refine (light_mak _ _ _ _).mono ?_;rintro e w0 ⟨rfl,h0⟩;rw [h0];clear h0 w0) | (go_at_call 31;refine (awake_lnk _).mono ?_;rintro e w1 ⟨rfl,hb⟩;have HB:=hQ hb;clear hb))
  go_ret
  exact ⟨rfl,HB.out⟩
end Go.Proofs.YtnnfdbmanamfdaaGreat
