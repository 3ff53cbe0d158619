/- The walk of the law LinkOnce. No condition. -/
import Derived.Test.YtnnfdbmanamfdaaGreatLw1
import Derived.Test.YtnnfdbmanamfdaaGreatLwLnkFirstP
set_option maxRecDepth 100000
set_option maxHeartbeats 4000000
namespace Go.Proofs.YtnnfdbmanamfdaaGreat
open Go.RowKit Go.Shelf
theorem count_split {α:Type} {p q r:α → Bool}:(l:List α) → (∀ z ∈ l,p z = (q z || r z) ∧ ¬ (q z = true ∧ r z = true)) → l.countP p = l.countP q + l.countP r
 | [],_=>rfl
 | a :: t,h=>by
  rw [List.countP_cons,List.countP_cons,List.countP_cons,count_split t (fun z hz=>h z (List.mem_cons_of_mem _ hz))]
  obtain ⟨h1,h2⟩:=h a (List.mem_cons_self ..)
  rw [h1]
  cases hq:q a <;> cases hr:r a <;> simp_all <;> omega
def befB (i d:Int) (z:Tgm):Bool:=!z.2.2.2.2 && (decide (z.2.2.1 < i) || (z.2.2.1 == i && decide (z.2.2.2.1 < d)))
def befN (ps:List Tr) (i d:Nat):Nat:=(Qgp ps).countP (befB i d)
def freeN (zs:List Tgm):Nat:=zs.countP fun z=>z.2.2.2.2
theorem bef_range {ps:List Tr} {z:Tgm} (h:z ∈ Qgp ps) (hf:z.2.2.2.2 = false) (hz:∀ t ∈ ps,Qan t ≤ 1000):∃ (m d:Nat) (T:Tr),ps[m]? = some T ∧ d < T.kids.length ∧ z.2.2.1 = (m:Int) ∧ z.2.2.2.1 = (d:Int):=by
 obtain ⟨i,m,d,t,u,T,k,_,_,_,h1,h2,h3,h4,_⟩:=tgt_first h hf hz
 exact ⟨m,d,T,h1,(List.getElem?_eq_some_iff.1 h2).1,h3,h4⟩
theorem bef_zero {ps:List Tr} (hz:∀ t ∈ ps,Qan t ≤ 1000):befN ps 0 0 = 0:=by
 unfold befN
 rw [List.countP_eq_zero]
 intro z h
 unfold befB
 cases hf:z.2.2.2.2 with
 | true=>simp
 | false =>
  obtain ⟨m,d,T,_,_,h3,h4⟩:=bef_range h hf hz
  rw [h3,h4]
  simp
  try omega
theorem bef_step (ps:List Tr) (i d:Nat):befN ps i (d + 1) = befN ps i d + (usesP i d (Qgp ps)).length:=by
 unfold befN usesP
 rw [List.length_map,← List.countP_eq_length_filter]
 refine count_split _ fun z _=>?_
 unfold befB ofDef
 cases z.2.2.2.2 with
 | true=>simp
 | false =>
  by_cases h1:z.2.2.1 = (i:Int)
  ·rw [h1]
   by_cases h2:z.2.2.2.1 = (d:Int)
   ·rw [h2];simp;try omega
   ·have h3:(z.2.2.2.1 == (d:Int)) = false:=beq_eq_false_iff_ne.2 h2
    have h4:decide (z.2.2.2.1 < ((d + 1:Nat):Int)) = decide (z.2.2.2.1 < (d:Int)):=by rw [decide_eq_decide];omega
    rw [h3,h4]
    simp
  ·have h3:(z.2.2.1 == (i:Int)) = false:=beq_eq_false_iff_ne.2 h1
   rw [h3]
   simp
theorem bef_next {ps:List Tr} {i:Nat} {T:Tr} (hT:ps[i]? = some T) (hz:∀ t ∈ ps,Qan t ≤ 1000):befN ps i T.kids.length = befN ps (i + 1) 0:=by
 unfold befN
 refine List.countP_congr fun z h=>?_
 unfold befB
 cases hf:z.2.2.2.2 with
 | true=>simp
 | false =>
  obtain ⟨m,d,T',h1,h2,h3,h4⟩:=bef_range h hf hz
  rw [h3,h4]
  by_cases hm:m = i
  ·subst hm
   rw [hT] at h1
   injection h1 with h1
   subst h1
   simp
   omega
  ·simp
   omega
theorem bef_end {ps:List Tr} (hz:∀ t ∈ ps,Qan t ≤ 1000):befN ps ps.length 0 + freeN (Qgp ps) = (Qgp ps).length:=by
 unfold befN freeN
 rw [← count_split (p:=fun _=>true)]
 ·simp
 ·intro z h
  unfold befB
  cases hf:z.2.2.2.2 with
  | true=>simp
  | false =>
   obtain ⟨m,d,T',h1,h2,h3,h4⟩:=bef_range h hf hz
   have:=(List.getElem?_eq_some_iff.1 h1).1
   rw [h3,h4]
   simp
   omega
theorem bef_le (ps:List Tr) (i d:Nat):befN ps i d ≤ (Qgp ps).length:=List.countP_le_length
theorem free_le (zs:List Tgm):freeN zs ≤ zs.length:=List.countP_le_length
theorem free_yes {zs:List Tgm} {j:Nat} {z:Tgm} (h:zs[j]? = some z) (hz:z.2.2.2.2 = true):freeN (zs.take (j + 1)) = freeN (zs.take j) + 1:=by
 unfold freeN
 rw [List.take_add_one,h,Option.toList_some,List.countP_append,List.countP_singleton,hz]
 rfl
theorem free_no {zs:List Tgm} {j:Nat} {z:Tgm} (h:zs[j]? = some z) (hz:z.2.2.2.2 = false):freeN (zs.take (j + 1)) = freeN (zs.take j):=by
 unfold freeN
 rw [List.take_add_one,h,Option.toList_some,List.countP_append,List.countP_singleton,hz]
 rfl
theorem uses_at {i d:Int} {zs:List Tgm} {j:Nat} {z:Tgm} (h:zs[j]? = some z) (hz:ofDef i d z = true):(usesP i d zs)[(usesP i d (zs.take j)).length]? = some (z.1,z.2.1):=by
 have h1:usesP i d zs = usesP i d (zs.take (j + 1)) ++ usesP i d (zs.drop (j + 1)):=by
  unfold usesP
  rw [← List.map_append,← List.filter_append,List.take_append_drop]
 rw [h1,usesP_yes h hz,List.append_assoc,List.getElem?_append_right (xA _),Nat.sub_self]
 rfl
theorem pCells_get:{us:List PlV} → {j:Nat} → {y:PlV} → us[j]? = some y → (pCells us)[j * 2]? = some (.int .i64 y.1) ∧ (pCells us)[j * 2 + 1]? = some y.2
 | [],_,_,h=>by simp at h
 | u :: r,0,y,h=>by
  injection h with h
  subst h
  exact ⟨rfl,rfl⟩
 | u :: r,j + 1,y,h=>by
  have ih:=pCells_get (us:=r) (j:=j) (y:=y) h
  have hs:∀ k,(pCells (u :: r))[(j + 1) * 2 + k]? = (pCells r)[j * 2 + k]?:=fun k=>by
   unfold pCells
   rw [List.flatMap_cons,show (j + 1) * 2 + k = j * 2 + k + 2 from by omega,List.getElem?_append_right (by simp [plC])]
   simp [plC]
  exact ⟨(hs 0).trans ih.1,(hs 1).trans ih.2⟩
theorem PlsAt.at {w:World} {B:Nat} {A:Option Addr} {n c:Nat} {zs:List (Int × List Int)} (h:PlsAt w B (.slice A n c) zs) {j:Nat} {z:Int × List Int} (hz:zs[j]? = some z):n = zs.length ∧ ∃ g pv,A = some ⟨g,0,none⟩ ∧ g < w.heap.size ∧
  w.cell? ⟨g,j * 2,none⟩ = some (.int .i64 z.1) ∧ w.cell? ⟨g,j * 2 + 1,none⟩ = some pv ∧ IRow w B pv z.2:=by
 obtain ⟨us,h1,h2,h3⟩:=h
 have hj:j < us.length:=by rw [h2];exact (List.getElem?_eq_some_iff.1 hz).1
 obtain ⟨y,hy⟩:∃ y,us[j]? = some y:=⟨_,xF hj⟩
 obtain ⟨a1,a2⟩:=h3 j y z hy hz
 have hn:n = us.length:=by
  rcases h1.2 with ⟨e,h0⟩ | ⟨g,cap,cur,e,_⟩
  ·injection e with _ e _
   omega
  ·injection e with _ e _
 refine ⟨by rw [hn,h2],?_⟩
 obtain ⟨g,cap,e,hg,hlt⟩:=h1.form (by omega)
 injection e with e _ _
 subst e
 have hc:=h1.cells (g:=g) rfl
 obtain ⟨q0,q1⟩:=pCells_get hy
 have e0:=hc _ _ q0
 have e1:=hc _ _ q1
 rw [Addr.add_lit] at e0 e1
 simp only [Nat.zero_add] at e0 e1
 rw [a1] at e0
 exact ⟨g,y.2,rfl,hlt,e0,e1,a2⟩
theorem linkOnce_walk (A:Option Addr) (c:Nat) (xs:List Int) (w:World) (hx:IntsAt w A xs) :
  Calls Tryz.prog 10 #[.slice A xs.length c] w fun e w'=>e = .returned (.bool true) ∧ Below w.heap.size w w':=by
 by_cases hl:xs.length ≤ 120
 ·have d0:=decide_eq_true hl
  have HP:=hQ (program_any A c xs w hx hl)
  clear hx hl
  go_enter Tryz.func10,Tryz.ntmps10
  go_wp2_with (first | (go_at_call 25;refine (light_mak _ _ _ _).mono ?_;rintro e w0 ⟨rfl,h0⟩;rw [h0];clear h0 w0) | fail)
  go_at_call 32
  refine HP.out.mono ?_
  rintro e w1 ⟨r,ps,rfl,hm,hlen,hgood,hb⟩
  obtain ⟨A1,c1,us,rfl,hc1,hus,hrow,hat⟩:=hm
  have HB:=hQ hb
  have hcnt:=root_cnt hlen hgood
  have HR:=hQ (root_at hc1 hus hrow hat)
  have HF:=hQ (fit_cnt _ (show cntT (Qbx ps) ≤ 1048576 from by omega))
  have HS:=hQ (small_cnt _ (show cntT (Qbx ps) ≤ 1048576 from by omega))
  have HW:=hQ (words_cnt _ (show cntT (Qbx ps) ≤ 1048576 from by omega))
  have HZ:=hQ (fun t ht=>Nat.le_trans (hgood t ht).2.2.1 (show 352 ≤ 1000 from by decide))
  have HZL:=hQ (show Qap ps ≤ 90000 from by
   have h1:=good_size ps hgood
   have h2:352 * ps.length ≤ 352 * 3:=Nat.mul_le_mul_left _ hlen
   omega)
  have hnl:(ps.length:Int) ≤ 3:=by omega
  clear hrow hat hgood hb hcnt
  go_wp2_with (first
   | (go_at_call 34;refine (targets_lnk _ A1 c1 ps _ HR.out HF.out HS.out HW.out HZL.out).mono ?_;rintro e w2 ⟨v3,rfl,ht,hb⟩;obtain ⟨TA,tc,rfl⟩:=ht.slice;have HT2:=hQ ht;have HR2:=hQ (HR.out.keep hb);have HB2:=hQ (HB.out.trans (hb.mono HB.out.size));clear ht hb))
  have HNZ:=hQ (Nat.le_trans (tgtsG_len ps) HZL.out)
  obtain ⟨n,hn⟩:∃ n,n = (Qgp ps).length:=⟨_,rfl⟩
  rw [← hn]
  have HN:=hQ hn
  have hn9:n ≤ 90000:=by rw [hn];exact HNZ.out
  have HBL:=hQ (show ∀ i d,befN ps i d ≤ n from fun i d=>by rw [hn];exact bef_le ps i d)
  clear hn
  go_loopw [5,6] (fun v i wr=>∃ q:Nat,i = .int .i64 (q:Int) ∧ q ≤ ps.length ∧ v = .int .i64 (befN ps q 0:Nat) ∧ Below w2.heap.size w2 wr) (fun _ i _=>ps.length - (intOf i).toNat)
  case atStart=>exact ⟨0,rfl,Nat.zero_le _,by rw [bef_zero HZ.out];rfl,xC _ _⟩
  case round =>
   obtain ⟨q,rfl,hq,rfl,hb⟩:=hrel
   obtain ⟨wo,hwo⟩:∃ w',w' = wr:=⟨_,rfl⟩
   subst hwo
   have HBR:=hQ hb
   clear hb
   by_cases hlt:q < ps.length
   ·obtain ⟨T,hT⟩:∃ T,ps[q]? = some T:=⟨_,xF hlt⟩
    obtain ⟨b,off,hka⟩:∃ b off,A1 = some ⟨b,off,none⟩:=HR2.out.addr.resolve_left (by show ¬ ps.length = 0;omega)
    subst hka
    have HQT:=hQ hT
    have HTK:=hQ (show T.kids.length ≤ 1900000000000 from (Qco ((Qco HF.out).2.2 q T hT)).2.1)
    have HUX:=hQ (show ∀ wx,Below w2.heap.size w2 wx → ∃ u:TV,wx.cell? ⟨b,off + q * 4 + 3,none⟩ = some (.slice u.ka T.kids.length u.kc) ∧ b < wx.heap.size from fun wx hb=>by
     obtain ⟨u,c0,c1,c2,c3,hu⟩:=(HR2.out.keep hb).at rfl (show (Qbx ps).kids[q]? = some T from hT)
     rw [hu.kl.1] at c3
     exact ⟨u,c3,xK wx _ c0⟩)
    have hq0:(0:Int) ≤ (q:Int):=by omega
    have hq1:(q:Int) < (ps.length:Int):=by omega
    clear hT
    go_wp2
    go_loopw [5,7] (fun v i wq=>∃ d:Nat,i = .int .i64 (d:Int) ∧ d ≤ T.kids.length ∧ v = .int .i64 (befN ps q d:Nat) ∧ Below w2.heap.size w2 wq) (fun _ i _=>T.kids.length - (intOf i).toNat)
    case atStart=>exact ⟨0,rfl,Nat.zero_le _,rfl,HBR.out⟩
    case round =>
     obtain ⟨d,rfl,hd,rfl,hb⟩:=hrel
     obtain ⟨w5,hwo⟩:∃ w',w' = wr:=⟨_,rfl⟩
     subst hwo
     have HBQ:=hQ hb
     obtain ⟨uT,T3,bl⟩:=HUX.out w5 hb
     clear hb
     have hd0:(d:Int) + 1 ≤ 1900000000001:=by have:=HTK.out;omega
     by_cases hdl:d < T.kids.length
     ·have HCU:=hQ (uses_lnk _ (some ⟨b,off,none⟩) c1 ps q d w5 (HR2.out.keep HBQ.out) HF.out HS.out HW.out HZL.out)
      have HST:=hQ (bef_step ps q d)
      have HDL:=hQ hdl
      have hsum:(befN ps q d:Int) + ((usesP (q:Int) (d:Int) (Qgp ps)).length:Int) ≤ 90000:=by have h:=HBL.out q (d + 1);rw [HST.out] at h;omega
      have hk9:(usesP (q:Int) (d:Int) (Qgp ps)).length ≤ 90000:=by omega
      go_wp2_with (go_at_call 38;refine HCU.out.mono ?_;rintro e w6 ⟨v6,rfl,hp6,hb6⟩;obtain ⟨UA,uc,rfl⟩:=hp6.slice;have HP6:=hQ hp6;have HB6:=hQ (HBQ.out.trans (hb6.mono HBQ.out.size));clear hp6 hb6 T3 bl)
      have HK9:=hQ hk9
      have HSM:=hQ hsum
      clear hsum hd0
      go_loopw [9,10] (fun k i wq=>∃ j:Nat,i = .int .i64 (j:Int) ∧ j ≤ n ∧ k = .int .i64 ((usesP q d ((Qgp ps).take j)).length:Nat) ∧ Below w6.heap.size w6 wq) (fun _ i _=>n - (intOf i).toNat)
      case atStart=>exact ⟨0,rfl,Nat.zero_le _,by rw [List.take_zero];rfl,xC _ _⟩
      case round =>
       obtain ⟨j,rfl,hj,rfl,hb⟩:=hrel
       have HBJ:=hQ hb
       by_cases hlj:j < n
       ·obtain ⟨z,hz⟩:∃ z,(Qgp ps)[j]? = some z:=⟨_,xF (by rw [← HN.out];exact hlj)⟩
        have hj0:(0:Int) ≤ (j:Int):=by omega
        have hj1:(j:Int) < (n:Int):=by omega
        have hj2:(j:Int) + 1 ≤ 90001:=by omega
        have htk:=HT2.out.keep (HB6.out.trans (hb.mono HB6.out.size))
        rw [← HN.out] at htk
        obtain ⟨hnn,g,pv,hTA,_,gl,c0,cp,c2,c3,c4,hrow⟩:=htk.at hz
        subst hTA
        obtain ⟨PA,pn,pc,rfl⟩:=hrow.slice
        have hpn:=hrow.len
        subst hpn
        have HROW:=hQ hrow
        have HZJ:=hQ hz
        have HPQ:=hQ (HP6.out.keep hb)
        obtain ⟨z0,zp,a,bd,f⟩:=z
        simp only at c0 c2 c3 c4 cp HROW
        obtain ⟨kk,hkk⟩:∃ kk,kk = (usesP q d ((Qgp ps).take j)).length:=⟨_,rfl⟩
        have hk90:kk ≤ 90000:=by
         have h1:=usesP_len q d ((Qgp ps).take j)
         rw [List.length_take,← HN.out] at h1
         omega
        rw [← hkk]
        have HKK:=hQ hkk
        have hk91:(kk:Int) + 1 ≤ 90001:=by omega
        clear hrow hnn htk hz hb hkk
        by_cases hf:f = true
        ·subst hf
         have HS:=hQ (usesP_no (i:=q) (d:=d) HZJ.out ofDef_free)
         clear cp c0 c2 c3
         go_wp2
         go_roundw
         case measure=>first | (simp [intOf];done) | (simp [intOf];omega)
         case rel=>exact ⟨j + 1,by go_num,by omega,by rw [HS.out,← HKK.out],HBJ.out⟩
        ·have hf':f = false:=by simpa using hf
         subst hf'
         by_cases ha:a = (q:Int)
         ·subst ha
          by_cases hdd:bd = (d:Int)
          ·subst hdd
           have HS:=hQ (usesP_yes (i:=q) (d:=d) HZJ.out ofDef_yes)
           have hua:=uses_at (i:=q) (d:=d) HZJ.out ofDef_yes
           rw [← HKK.out] at hua
           have hkl:kk < (usesP (q:Int) (d:Int) (Qgp ps)).length:=by exact (List.getElem?_eq_some_iff.1 hua).1
           have hpq:=HPQ.out
           obtain ⟨_,gu,qv,hUA,gul,p0,p1,hprow⟩:=hpq.at hua
           subst hUA
           obtain ⟨QA,qn,qc,rfl⟩:=hprow.slice
           have hqn:=hprow.len
           subst hqn
           have HPR:=hQ hprow.intsAt
           have HQR:=hQ HROW.out.intsAt
           have HPL:=hQ (Nat.le_trans (tgts_long (List.mem_of_getElem? HZJ.out) HZL.out) (show 90000 ≤ maxLen by decide))
           simp only at p0 p1 HPR
           have hk1:decide ((usesP (q:Int) (d:Int) (Qgp ps)).length ≤ kk) = false:=decide_eq_false (by omega)
           have hkk0:(0:Int) ≤ (kk:Int):=by omega
           have hkk1:(kk:Int) < ((usesP (q:Int) (d:Int) (Qgp ps)).length:Int):=by omega
           have mixedL:Tryz.prog.follows Departure.mixedOrders = true:=mixed
           clear hua hpq hprow hkl
           go_wp2_with fail
           go_region_held3 (fun w'=>w'.cell? ⟨gu,kk * 2,none⟩ = some (.int .i64 z0) ∧ w'.cell? ⟨gu,kk * 2 + 1,none⟩ = some (.slice QA zp.length qc) ∧ w'.cell? ⟨g,j * 5,none⟩ = some (.int .i64 z0) ∧ w'.cell? ⟨g,j * 5 + 1,none⟩ = some (.slice PA zp.length pc)) (first | with_reducible exact ⟨p0,p1,c0,cp⟩ | go_keep) ((go_at_call 39;refine (sameplace_any QA PA qc pc z0 zp _ (HPR.out.keep (xC _ _).drew) (HQR.out.keep (xC _ _).drew) HPL.out).mono ?_;rintro e w7 ⟨rfl,hb7⟩;have hbd:Below wr.heap.size wr w7:=(show Below wr.heap.size wr _ from (xC _ _).drew).trans hb7;have HB7:=hQ hbd;have h0:=Qbr hbd gul p0;have h1:=Qbr hbd gul p1;have h2:=Qbr hbd gl c0;have h3:=Qbr hbd gl cp;have g3:=xE gul hbd.size;have g4:=xE gl hbd.size;clear hb7 hbd p0 p1 c0 cp gul gl;have p0:=h0;have p1:=h1;have c0:=h2;have cp:=h3;have gul:=g3;have gl:=g4;clear h0 h1 h2 h3 g3 g4))
           all_goals
            clear p0 p1 c0 cp gul gl c2 c3 c4
            go_wp2
            go_roundw
            case measure=>first | (simp [intOf];done) | (simp [intOf];omega)
            case rel=>exact ⟨j + 1,by go_num,by omega,by rw [HS.out,xB,← HKK.out];go_num,HBJ.out.trans (HB7.out.mono HBJ.out.size)⟩
          ·have HS:=hQ (usesP_no (i:=q) (d:=d) HZJ.out (ofDef_no fun h=>hdd h.2))
           have r1:=Qcf hdd
           have r2:(bd == (d:Int)) = false:=beq_eq_false_iff_ne.2 hdd
           have r3:(bd != (d:Int)) = true:=by rw [bne_iff_ne];exact hdd
           clear cp c0
           go_wp2
           go_roundw
           case measure=>first | (simp [intOf];done) | (simp [intOf];omega)
           case rel=>exact ⟨j + 1,by go_num,by omega,by rw [HS.out,← HKK.out],HBJ.out⟩
         ·have HS:=hQ (usesP_no (i:=q) (d:=d) HZJ.out (ofDef_no fun h=>ha h.1))
          have r1:=Qcf ha
          have r2:(a == (q:Int)) = false:=beq_eq_false_iff_ne.2 ha
          have r3:(a != (q:Int)) = true:=by rw [bne_iff_ne];exact ha
          clear cp c0 c3
          go_wp2
          go_roundw
          case measure=>first | (simp [intOf];done) | (simp [intOf];omega)
          case rel=>exact ⟨j + 1,by go_num,by omega,by rw [HS.out,← HKK.out],HBJ.out⟩
       ·obtain rfl:j = n:=by omega
        have HKE:=hQ (show (usesP q d ((Qgp ps).take j)).length = (usesP (q:Int) (d:Int) (Qgp ps)).length from by rw [HN.out,List.take_length])
        rw [HKE.out]
        have hd0:(d:Int) + 1 ≤ 1900000000001:=by have:=HTK.out;have:=HDL.out;omega
        clear hb
        go_wp2
        refine ⟨⟨d + 1,by go_num,HDL.out,by rw [HST.out];go_num,HB6.out.trans (HBJ.out.mono HB6.out.size)⟩,?_⟩
        have:=HDL.out
        first | (simp [intOf];done) | (simp [intOf];omega)
     ·obtain rfl:d = T.kids.length:=by omega
      have HNX:=hQ (bef_next HQT.out HZ.out)
      go_wp2
      refine ⟨⟨q + 1,by go_num,by omega,by rw [HNX.out],HBQ.out⟩,?_⟩
      first | (simp [intOf];done) | (simp [intOf];omega)
   ·obtain rfl:q = ps.length:=by omega
    have HEND:=hQ (bef_end HZ.out)
    rw [← HN.out] at HEND
    obtain ⟨x0,hx0⟩:∃ x0,x0 = befN ps ps.length 0:=⟨_,rfl⟩
    rw [← hx0] at HEND ⊢
    clear hx0
    go_wp2
    go_loopw [11,12] (fun v i wq=>∃ j:Nat,i = .int .i64 (j:Int) ∧ j ≤ n ∧ v = .int .i64 (freeN ((Qgp ps).take j):Nat) ∧ Below w2.heap.size w2 wq) (fun _ i _=>n - (intOf i).toNat)
    case atStart=>exact ⟨0,rfl,Nat.zero_le _,by rw [List.take_zero];rfl,HBR.out⟩
    case round =>
     obtain ⟨j,rfl,hj,rfl,hb⟩:=hrel
     have HBJ:=hQ hb
     by_cases hlj:j < n
     ·obtain ⟨z,hz⟩:∃ z,(Qgp ps)[j]? = some z:=⟨_,xF (by rw [← HN.out];exact hlj)⟩
      have hj0:(0:Int) ≤ (j:Int):=by omega
      have hj1:(j:Int) < (n:Int):=by omega
      have hj2:(j:Int) + 1 ≤ 90001:=by omega
      have htk:=HT2.out.keep hb
      rw [← HN.out] at htk
      obtain ⟨hnn,g,pv,hTA,_,gl,_,_,_,_,c4,_⟩:=htk.at hz
      subst hTA
      obtain ⟨kk,hkk⟩:∃ kk,kk = freeN ((Qgp ps).take j):=⟨_,rfl⟩
      have hk90:kk ≤ 90000:=by
       have h1:=free_le ((Qgp ps).take j)
       rw [List.length_take,← HN.out] at h1
       omega
      rw [← hkk]
      have HKK:=hQ hkk
      have HZJ:=hQ hz
      have hk91:(kk:Int) + 1 ≤ 90001:=by omega
      obtain ⟨z0,zp,a,bd,f⟩:=z
      simp only at c4
      clear hnn htk hz hb hkk
      cases f with
      | true =>
       have HS:=hQ (free_yes HZJ.out rfl)
       go_wp2
       go_roundw
       case measure=>first | (simp [intOf];done) | (simp [intOf];omega)
       case rel=>exact ⟨j + 1,by go_num,by omega,by rw [HS.out,← HKK.out];go_num,HBJ.out⟩
      | false =>
       have HS:=hQ (free_no HZJ.out rfl)
       go_wp2
       go_roundw
       case measure=>first | (simp [intOf];done) | (simp [intOf];omega)
       case rel=>exact ⟨j + 1,by go_num,by omega,by rw [HS.out,← HKK.out],HBJ.out⟩
     ·obtain rfl:j = n:=by omega
      rw [show freeN ((Qgp ps).take j) = freeN (Qgp ps) from by rw [HN.out,List.take_length]]
      obtain ⟨y0,hy0⟩:∃ y0,y0 = freeN (Qgp ps):=⟨_,rfl⟩
      rw [← hy0] at HEND ⊢
      have hxy:(x0:Int) + (y0:Int) = (j:Int):=by have:=HEND.out;omega
      have hxl:(x0:Int) + (y0:Int) ≤ 90000:=by omega
      have r1:((x0:Int) + (y0:Int) == (j:Int)) = true:=by rw [hxy];simp
      clear hy0 hb
      go_wp2_with (go_at_call 31;refine (awake_lnk _).mono ?_;rintro e w4 ⟨rfl,hb⟩;have HB4:=hQ (HBJ.out.trans (hb.mono HBJ.out.size));clear hb)
      go_ret
      exact ⟨Qah (by first | rfl | simp_all),HB2.out.trans (HB4.out.mono HB2.out.size)⟩
 ·have d0:=decide_eq_false hl
  clear hx hl
  go_enter Tryz.func10,Tryz.ntmps10
  go_wp2_with (first | (go_at_call 25;refine (light_mak _ _ _ _).mono ?_;rintro e w0 ⟨rfl,h0⟩;rw [h0];clear h0 w0) | (go_at_call 31;refine (awake_lnk _).mono ?_;rintro e w1 ⟨rfl,hb⟩;have HB:=hQ hb;clear hb))
  go_ret
  exact ⟨rfl,HB.out⟩
end Go.Proofs.YtnnfdbmanamfdaaGreat
