/- Part 53 -/
import Derived.Test.YtfjpemdejoejbaaGreatSg52
set_option maxRecDepth 100000
set_option maxHeartbeats 4000000
namespace Go.Proofs.YtfjpemdejoejbaaGreat
open Go.RowKit Go.Shelf
def Zie:ByteArray:=⟨#[109,111,100,117,108,101,32,77,32,100,101,102,32,102,40,120,58,32,73,110,116,41,58,32,73,110,116,32,61,32,108,101,116,32,121,32,61,32,120,32,105,110,32,108,101,116,32,120,32,61,32,121,32,105,110,32,120]⟩
def scoTA:Tr:=((Qja 200 Zie).getD (Qlq,0,0)).1
def Qrc:Tr:=Qep scoTA 0
theorem sco_p:Qja 200 Zie=some (scoTA,0,0):=by kernel_rfl
theorem sco_k:scoTA.kids = [Qrc]:=by kernel_rfl
theorem sco_s:Qcf Qrc=true:=by kernel_rfl
theorem sco_w:Qdb Qrc=true:=by kernel_rfl
theorem sco_z:decide (Qak Qrc≤10000)=true:=by kernel_rfl
theorem sco_v:Qfo Qrc = [([2,0],some [0]),([2,1,0],some [2]),([2,1,1],some [2,1])]:=by kernel_rfl
theorem sco_b:Qdo (Qca Qrc [2,0]) ⟨#[121]⟩=none:=by kernel_rfl
theorem sco_n:Zh3 Qrc [2,1,1] = [⟨#[120]⟩,⟨#[121]⟩]:=by kernel_rfl
theorem Zg2:∃ t f:Tr,Qja 200 ⟨#[109,111,100,117,108,101,32,77,32,100,101,102,32,102,40,120,58,32,73,110,116,41,58,32,73,110,116,32,61,32,108,101,116,32,121,32,61,32,120,32,105,110,32,108,101,116,32,120,32,61,32,121,32,105,110,32,120]⟩=some (t,0,0)∧t.kids = [f]∧Qcf f=true∧Qdb f=true∧Qak f≤10000 ∧
  Qfo f = [([2,0],some [0]),([2,1,0],some [2]),([2,1,1],some [2,1])]∧Qdo (Qca f [2,0]) ⟨#[121]⟩=none∧(Zh3 f [2,1,1]).length=2 :=
 ⟨scoTA,Qrc,sco_p,sco_k,sco_s,sco_w,of_decide_eq_true sco_z,sco_v,sco_b,by rw [sco_n];rfl⟩
theorem Ql2 (w:World) (p:List Int):IntsAt (w.alloc (.cells (p.map (Value.int .i64)).toArray 3)) (some ⟨w.heap.size,0,none⟩) p:=fun _ =>
 ⟨w.heap.size,0,rfl,by rw [xI];omega,fun i x hx=>by
  rw [Nat.zero_add,Lib.cell_of_heap (xH w _),List.getElem?_toArray,List.getElem?_map,hx];rfl⟩
theorem VRow.at {w:World} {B lo:Nat} {v:Value} {ws:List (Value × Value × Bool)} {vs:List Vrb} (h:VRow w B v ws) (hv:VarsAt w lo ws vs) {j:Nat} {z:Vrb} (hz:vs[j]? = some z):∃ (g c:Nat) (y:Value × Value × Bool),v = .slice (some ⟨g,0,none⟩) vs.length c∧B≤g∧g<w.heap.size∧ws[j]? = some y ∧
  w.cell? ⟨g,j*3,none⟩=some y.1∧w.cell? ⟨g,j*3+1,none⟩=some y.2.1∧w.cell? ⟨g,j*3+2,none⟩=some (.bool y.2.2)∧Zc7 w lo y z:=by
 have hj:=(xP.1 hz).1;obtain ⟨y,hy⟩:∃ y,ws[j]? = some y:=⟨_,xF (by rw [hv.1];exact hj)⟩;obtain ⟨g,c,hgv,hg,hl⟩:=World.ownsRow.form h (by rw [hv.1];omega);subst hgv;have hcs:=h.cells (g:=g) rfl
 have hc:∀ (k:Nat) (x:Value),(Qhf ws)[k]? = some x→w.cell? ⟨g,k,none⟩=some x:=fun k x hx=>by
  have h:=hcs k x hx;rw [Addr.add_lit] at h;simp only [Nat.zero_add] at h;exact h
 have hget:∀ (ws:List (Value × Value × Bool)) (j:Nat) (y:Value × Value × Bool),ws[j]? = some y→(Qhf ws)[j*3]? = some y.1∧(Qhf ws)[j*3+1]? = some y.2.1∧(Qhf ws)[j*3+2]? = some (.bool y.2.2):=by
  intro ws
  induction ws with
  | nil=>intro j y h;simp at h
  | cons a r ih =>
   intro j y h
   match j,h with
   | 0,h =>
    injection h with h;subst h;exact ⟨rfl,rfl,rfl⟩
   | j+1,h =>
    have:=ih j y h
    unfold Qhf at this ⊢;rw [List.flatMap_cons,show (j+1)*3=j*3+3 from by omega,show j*3+3+1=j*3+1+3 from by omega,show j*3+3+2=j*3+2+3 from by omega,xX (by simp),xX (by simp),xX (by simp)]
    simpa using this
 obtain ⟨q0,q1,q2⟩:=hget ws j y hy;exact ⟨g,c,y,by rw [hv.1],hg,hl,hy,hc _ _ q0,hc _ _ q1,hc _ _ q2,hv.2 j y z hy hz⟩
theorem Qrd (w:World):Calls Tryz.prog 18 #[] w fun e w'=>e = .returned (.bool true)∧Below w.heap.size w w':=by
 obtain ⟨a,f,hpa,hk,hs,hw,hz,hv,hbi,hvi⟩:=Zg2;have HPA:=hQ hpa;have HK:=hQ hk;have HS:=hQ hs;have HW:=hQ hw;have HZ:=hQ hz;have HV:=hQ hv;have HBI:=hQ hbi;have HVI:=hQ hvi;have HSA:=hQ (show (⟨#[109,111,100,117,108,101,32,77,32,100,101,102,32,102,40,120,58,32,73,110,116,41,58,32,73,110,116,32,61,32,108,101,116,32,121,32,61,32,120,32,105,110,32,108,101,116,32,120,32,61,32,121,32,105,110,32,120]⟩:ByteArray).size≤maxLen from Nat.le_of_ble_eq_true rfl);clear hpa hk hs hw hz hv hbi hvi
 go_enter Tryz.func18,Tryz.ntmps18
 go_wp2_with fail
 go_at_call 26;refine (Qy7 (n:=200) (Nat.le_of_ble_eq_true rfl) _ HSA.out HPA.out).mono ?_;rintro e w1 ⟨va,rfl,hta,hb1⟩;have hkl:=hta.kl.1;rw [HK.out] at hkl;obtain ⟨ga,oa,hka⟩:=hta.addr.resolve_left (by rw [HK.out];simp);obtain ⟨ak,ax,ala,all',alc,aka,akl,akc⟩:=va;simp only at hkl hka;subst hkl hka;obtain ⟨fv,c0,c1,c2,c3,hfv⟩:=hta.at (j:=0) rfl (show a.kids[0]? = some f from by rw [HK.out];rfl);simp only [Nat.zero_mul,Nat.add_zero,xD,xG,Nat.zero_add] at c0 c1 c2 c3 ⊢;have cl:=xK w1 _ c0;have HB1:=hQ hb1;have HFV:=hQ hfv;have HXA:=hQ (xH w1 (trO ⟨ak,ax,ala,all',alc,some ⟨ga,oa,none⟩,1,akc⟩));have HBA:=hQ (Qas w1 (trO ⟨ak,ax,ala,all',alc,some ⟨ga,oa,none⟩,1,akc⟩));clear hta hb1 hfv;go_wp2_with fail
 go_at_call 20;obtain ⟨fk,fx,fla,fll,flc,fka,fkl,fkc⟩:=fv;refine (Qg4 _ f ⟨fk,fx,fla,fll,flc,fka,fkl,fkc⟩ _ (HFV.out.keep HBA.out) HS.out HW.out HZ.out).mono ?_;rintro e w2 ⟨r,ws,rfl,hvr,hva,hb2⟩;rw [HV.out] at hva;obtain ⟨g,vc,y0,rfl,hgB,hgl,hy0,p00,p01,p02,hv0⟩:=hvr.at hva (j:=0) rfl;obtain ⟨g2,vc2,y2,hgg,_,_,hy2,p20,p21,p22,hv2⟩:=hvr.at hva (j:=2) rfl;injection hgg with hgg1 hgg2 hgg3;injection hgg1 with hgg1;injection hgg1 with hgg1;subst hgg1 hgg3;have HB2:=hQ hb2;have HB12:=hQ (HBA.out.trans (hb2.mono HBA.out.size));have HX2:=hQ ((hb2.block _ (Qaa HXA.out)).trans HXA.out);have HFV2:=hQ (HFV.out.keep HB12.out)
 obtain ⟨b0v,hb0e,hb0r,hb0f⟩:∃ v,y0.2.1=v∧IRow w2 (w1.alloc (trO ⟨ak,ax,ala,all',alc,some ⟨ga,oa,none⟩,1,akc⟩)).heap.size v [0]∧y0.2.2=false:=by
  rcases hv0.2 with ⟨h,_⟩|⟨q,h1,h2,h3⟩
  ·cases h
  ·injection h1 with h1;subst h1;exact ⟨_,rfl,h2,h3⟩
 obtain ⟨b2v,hb2e,hb2r,hb2f⟩:∃ v,y2.2.1=v∧IRow w2 (w1.alloc (trO ⟨ak,ax,ala,all',alc,some ⟨ga,oa,none⟩,1,akc⟩)).heap.size v [2,1]∧y2.2.2=false:=by
  rcases hv2.2 with ⟨h,_⟩|⟨q,h1,h2,h3⟩
  ·cases h
  ·injection h1 with h1;subst h1;exact ⟨_,rfl,h2,h3⟩
 obtain ⟨B0,n0,q0,rfl⟩:=hb0r.slice;obtain ⟨B2,n2,q2,rfl⟩:=hb2r.slice;obtain ⟨hn0,hi0⟩:=hb0r.ints;obtain ⟨hn2,hi2⟩:=hb2r.ints;subst hn0 hn2;rw [hb0e] at p01;rw [hb2e] at p21;rw [hb0f] at p02;have HI0:=hQ hi0;have HI2:=hQ hi2;have HP01:=hQ p01;have HP02:=hQ p02;have HP21:=hQ p21;have HC0:=hQ c0;have HC1:=hQ c1;have HC2:=hQ c2;have HC3:=hQ c3;have HCL:=hQ cl;have HGL:=hQ hgl
 have LAY:Hid (∀ W:World,Below w2.heap.size w2 W→W.cell? ⟨w1.heap.size,3,none⟩=some (.slice (some ⟨ga,oa,none⟩) 1 akc)∧W.cell? ⟨ga,oa,none⟩=some (.int .i64 fk)∧W.cell? ⟨ga,oa+1,none⟩=some (.string fx)∧W.cell? ⟨ga,oa+2,none⟩=some (.slice fla fll flc)∧W.cell? ⟨ga,oa+3,none⟩=some (.slice fka fkl fkc) ∧
   W.cell? ⟨g,0,none⟩=some y0.1∧W.cell? ⟨g,1,none⟩=some (.slice B0 [(0:Int)].length q0)∧W.cell? ⟨g,2,none⟩=some (.bool false)∧W.cell? ⟨g,7,none⟩=some (.slice B2 [(2:Int),1].length q2)∧w1.heap.size<W.heap.size∧ga<W.heap.size∧g<W.heap.size):=hQ fun W hb=>by
  have hx:=(hb.block _ (Qaa HX2.out)).trans HX2.out;have hl2:=xE HCL.out HB12.out.size;have hk:∀ o v,w1.cell? ⟨ga,o,none⟩=some v→W.cell? ⟨ga,o,none⟩=some v:=fun o v hv=>(hb.cell (p:=⟨ga,o,none⟩) hl2).trans ((HB12.out.cell (p:=⟨ga,o,none⟩) HCL.out).trans hv)
  have hg:∀ o v,w2.cell? ⟨g,o,none⟩=some v→W.cell? ⟨g,o,none⟩=some v:=fun o v hv=>(hb.cell (p:=⟨g,o,none⟩) HGL.out).trans hv
  exact ⟨Qab hx 3 _ rfl,hk _ _ HC0.out,hk _ _ HC1.out,hk _ _ HC2.out,hk _ _ HC3.out,hg _ _ p00,hg _ _ HP01.out,hg _ _ HP02.out,hg _ _ HP21.out,Qaa hx,xE hl2 hb.size,xE HGL.out hb.size⟩
 have HEND:=hQ (HB1.out.trans (HB12.out.mono HB1.out.size));clear hva hvr hb2 hv0 hv2 hi0 hi2 p00 p01 p02 p20 p21 p22 c0 c1 c2 c3 cl hb0f hb2f hb0r hb2r hb0e hb2e hy0 hy2 hgB hgl hgg2;obtain ⟨l1,l2,l3,l4,l5,l6,l7,l8,l9,l10,l11,l12⟩:=LAY.out w2 (xC _ _);go_wp2_with fail
 go_at_call 45;have HB3:=hQ (Qas w2 (.cells #[.int .i64 2,.int .i64 0] 3));refine (Qwn _ f ⟨fk,fx,fla,fll,flc,fka,fkl,fkc⟩ (some ⟨w2.heap.size,0,none⟩) 2 [2,0] ⟨#[121]⟩ _ (HFV2.out.keep HB3.out) HS.out HW.out HZ.out (Ql2 w2 [2,0]) (by decide) (by decide)).mono ?_;rw [HBI.out];rintro e w4 ⟨hb4,rfl⟩;have HB4:=hQ (HB3.out.trans (hb4.mono HB3.out.size));clear l1 l2 l3 l4 l5 l6 l7 l8 l9 l10 l11 l12 hb4;obtain ⟨l1,l2,l3,l4,l5,l6,l7,l8,l9,l10,l11,l12⟩:=LAY.out w4 HB4.out;go_wp2_with fail
 go_at_call 23;have HB5:=hQ (HB4.out.trans ((Qas w4 (.cells #[.int .i64 0] 3)).mono HB4.out.size));refine (Qlm B0 (some ⟨w4.heap.size,0,none⟩) q0 1 [0] [0] _ (HI0.out.keep HB5.out) (Ql2 w4 [0]) (Nat.le_of_ble_eq_true rfl) (Nat.le_of_ble_eq_true rfl)).mono ?_;rw [show Qd8 [0] [0] = true from rfl];rintro e w6 ⟨rfl,hb6⟩;have HB6:=hQ (HB5.out.trans (hb6.mono HB5.out.size));clear l1 l2 l3 l4 l5 l6 l7 l8 l9 l10 l11 l12 hb6;obtain ⟨l1,l2,l3,l4,l5,l6,l7,l8,l9,l10,l11,l12⟩:=LAY.out w6 HB6.out;go_wp2_with fail
 go_at_call 23;have HB7:=hQ (HB6.out.trans ((Qas w6 (.cells #[.int .i64 2,.int .i64 1] 3)).mono HB6.out.size));refine (Qlm B2 (some ⟨w6.heap.size,0,none⟩) q2 2 [2,1] [2,1] _ (HI2.out.keep HB7.out) (Ql2 w6 [2,1]) (Nat.le_of_ble_eq_true rfl) (Nat.le_of_ble_eq_true rfl)).mono ?_;rw [show Qd8 [2,1] [2,1] = true from rfl];rintro e w8 ⟨rfl,hb8⟩;have HB8:=hQ (HB7.out.trans (hb8.mono HB7.out.size));clear l1 l2 l3 l4 l5 l6 l7 l8 l9 l10 l11 l12 hb8;obtain ⟨l1,l2,l3,l4,l5,l6,l7,l8,l9,l10,l11,l12⟩:=LAY.out w8 HB8.out;go_wp2_with fail
 go_at_call 46;have HB9:=hQ (HB8.out.trans ((Qas w8 (.cells #[.int .i64 2,.int .i64 1,.int .i64 1] 3)).mono HB8.out.size));refine (Qsy _ f ⟨fk,fx,fla,fll,flc,fka,fkl,fkc⟩ (some ⟨w8.heap.size,0,none⟩) 3 [2,1,1] _ (HFV2.out.keep HB9.out) HS.out HW.out HZ.out (Ql2 w8 [2,1,1]) (by decide) (by decide)).mono ?_;rintro e w10 ⟨r,rfl,hr,hb10⟩;have hlen:=HVI.out;obtain ⟨NA,nc,rfl⟩:=Qdq hr;rw [hlen];have HB10:=hQ (HB9.out.trans (hb10.mono HB9.out.size));clear hr hlen hb10;go_wp2_with fail
 go_ret
 exact ⟨rfl,HEND.out.trans (HB10.out.mono HEND.out.size)⟩
theorem Qkg {w:World} {B:Nat} {v:Value} {p:List Int} (h:IRow w B v p):p.length≤maxLen:=by
 rcases h.2 with ⟨_,h0⟩|⟨g,cap,cur,_,_,_,hnc,hm,_⟩
 ·rw [h0];exact xZ _
 ·exact xQ hnc hm
theorem Ze8 {w:World} {lo:Nat} {z:Vrb} {y:Value × Value × Bool} (h:z.2=none∧y.2.1 = .slice none 0 0∧y.2.2=true∨∃ q,z.2=some q∧IRow w lo y.2.1 q∧y.2.2=false) :
  ∃ A c,y.2.1 = .slice A (z.2.getD []).length c∧IntsAt w A (z.2.getD [])∧(z.2.getD []).length≤maxLen∧y.2.2=z.2.isNone:=by
 rcases h with ⟨a,b,c⟩|⟨q,a,b,c⟩
 ·rw [a,b,c];exact ⟨none,0,rfl,fun h=>absurd rfl h,xZ _,rfl⟩
 ·obtain ⟨A,n,cc,hv⟩:=b.slice;rw [hv] at b;obtain ⟨e,hi⟩:=b.ints;subst e;rw [a,c];exact ⟨A,cc,hv,hi,Qkg b,rfl⟩
theorem Zek (A B:Option Addr) (ca cb ba bb la lb:Nat) (xs ys:List (Value × Value × Bool)) (vs:List Vrb) (w:World) (ha:VRow w ba (.slice A vs.length ca) xs) (hva:VarsAt w la xs vs) (hb:VRow w bb (.slice B vs.length cb) ys) (hvb:VarsAt w lb ys vs) (hn:vs.length≤1000000) :
  Calls Tryz.prog 24 #[.slice A vs.length ca,.slice B vs.length cb] w fun e w'=>e = .returned (.bool true)∧Below w.heap.size w w':=by
 have HA:=hQ ha;have HVA:=hQ hva;have HB:=hQ hb;have HVB:=hQ hvb;have hni:(vs.length:Int)≤1000000:=by omega
 have mixedL:Tryz.prog.follows Departure.mixedOrders=true:=mixed;clear ha hva hb hvb hn
 go_enter Tryz.func24,Tryz.ntmps24
 go_wp2_with fail
 go_loopw [5] (fun i wr=>∃ k:Nat,i = .int .i64 (k:Int)∧k≤vs.length∧Below w.heap.size w wr) (fun i _=>vs.length-(intOf i).toNat)
 case atStart=>exact ⟨0,rfl,xZ _,xC _ _⟩
 case round =>
  obtain ⟨k,rfl,hk,hb⟩:=hrel;have HBR:=hQ hb;clear hb
  by_cases hkl:k<vs.length
  ·obtain ⟨z,hz⟩:∃ z,vs[k]? = some z:=⟨_,xF hkl⟩;obtain ⟨g,c,y,hv,_,gl,_,p0,p1,p2,hy⟩:=HA.out.at HVA.out hz;injection hv with hv1 hv2 hv3;subst hv1 hv3;clear hv2;obtain ⟨g',c',y',hv,_,gl',_,q0,q1,q2,hy'⟩:=HB.out.at HVB.out hz;injection hv with hv1 hv2 hv3;subst hv1 hv3;clear hv2;obtain ⟨PA,pn,pc,hpv⟩:=hy.1.slice;have hp:=hy.1;rw [hpv] at hp p0;have hpl:=Qkg hp;obtain ⟨e,hpi⟩:=hp.ints;subst e;obtain ⟨QA,qn,qc,hqv⟩:=hy'.1.slice;have hq:=hy'.1;rw [hqv] at hq q0;obtain ⟨e,hqi⟩:=hq.ints;subst e;obtain ⟨BA,bc,e1,hbi,hbl,e2⟩:=Ze8 hy.2;obtain ⟨CA,cc,e3,hci,_,e4⟩:=Ze8 hy'.2;rw [e1] at p1;rw [e2] at p2;rw [e3] at q1;rw [e4] at q2;have p0:=(HBR.out.cell (p:=⟨g,k*3,none⟩) gl).trans p0;have p1:=(HBR.out.cell (p:=⟨g,k*3+1,none⟩) gl).trans p1;have p2:=(HBR.out.cell (p:=⟨g,k*3+2,none⟩) gl).trans p2;have q0:=(HBR.out.cell (p:=⟨g',k*3,none⟩) gl').trans q0;have q1:=(HBR.out.cell (p:=⟨g',k*3+1,none⟩) gl').trans q1;have q2:=(HBR.out.cell (p:=⟨g',k*3+2,none⟩) gl').trans q2;have gl:=xE gl HBR.out.size;have gl':=xE gl' HBR.out.size;have HPI:=hQ (hpi.keep HBR.out);have HQI:=hQ (hqi.keep HBR.out);have HBI:=hQ (hbi.keep HBR.out);have HCI:=hQ (hci.keep HBR.out)
   have HS1:=hQ (show ∀ n,Calls Tryz.prog 23 #[.slice PA z.1.length pc,.slice QA z.1.length qc] (wr.drewN n) fun e w'=>e = .returned (.bool true)∧∃ m,w'=(wr.drewN n).drewN m from fun n=>by
    have h:=Qhk PA QA pc qc z.1 z.1 (wr.drewN n) (HPI.out.keep (Qbu wr n)) (HQI.out.keep (Qbu wr n)) hpl hpl;rw [Qh4] at h;exact h)
   have HS2:=hQ (show ∀ n,Calls Tryz.prog 23 #[.slice BA (z.2.getD []).length bc,.slice CA (z.2.getD []).length cc] (wr.drewN n) fun e w'=>e = .returned (.bool true)∧∃ m,w'=(wr.drewN n).drewN m from fun n=>by
    have h:=Qhk BA CA bc cc (z.2.getD []) (z.2.getD []) (wr.drewN n) (HBI.out.keep (Qbu wr n)) (HCI.out.keep (Qbu wr n)) hbl hbl;rw [Qh4] at h;exact h)
   have k0:(0:Int)≤(k:Int):=by omega
   have k1:(k:Int)<(vs.length:Int):=by omega
   have k2:(k:Int)+1≤1000001:=by omega
   obtain ⟨b,hbn⟩:∃ b,b=z.2.isNone:=⟨_,rfl⟩;rw [←hbn] at p2 q2;clear hpl hpi hqi hp hq hbi hci hbl e1 e2 e3 e4 hy hy' hpv hqv hz hbn;cases b
   all_goals
    go_wp2_with fail
    go_quiet (first | (go_at_call 23;with_reducible exact Calls.quiet_of (HS1.out _)) | (go_at_call 23;with_reducible exact Calls.quiet_of (HS2.out _)))
    clear p0 p1 p2 q0 q1 q2 gl gl';go_wp2_with fail
    go_roundw
    case measure=>first | (simp [intOf];done) | (simp [intOf];omega)
    case rel=>exact ⟨k+1,rfl,by omega,HBR.out.trans ((Qbu wr _).mono HBR.out.size)⟩
  ·obtain rfl:k=vs.length:=by omega
   go_wp2_with fail
   go_ret
   exact ⟨rfl,HBR.out⟩
theorem Qrl (A:Option Addr) (n c:Nat) (w:World):Calls Tryz.prog 15 #[.slice A n c] w fun e w'=>e = .returned (.bool (decide (n≤120)))∧w'=w:=by
 have h:(decide ((n:Int)≤120))=decide (n≤120):=by simp;omega
 go_enter Tryz.func15,Tryz.ntmps15
 go_wp2
 go_ret
 first | exact ⟨rfl,rfl⟩ | (rw [←h];exact ⟨rfl,rfl⟩) | (simp;done) | (simp;omega)
theorem Zb0 {ps:List Tr} (hlen:ps.length≤3) (hg:∀ t∈ps,Qna t) {f:Tr} (h:f∈Qpp ps):Qcf f=true∧Qdb f=true∧Qak f≤352∧f.kind=2:=by
 obtain ⟨T,h1,h2,h3⟩:=Qtr h;have hcnt:=Qu4 hlen hg;have hs:=Qmo _ (show Qry (Qnb ps)≤1048576 from by omega);have hw:=Qki _ (show Qry (Qnb ps)≤1048576 from by omega);obtain ⟨i,hi⟩:=List.mem_iff_getElem?.1 h1;obtain ⟨j,hj⟩:=List.mem_iff_getElem?.1 h2;have hi':(Qnb ps).kids[i]? = some T:=hi;have a1:=(Qfk ((Qfk hs).2.2 i T hi')).2.2 j f hj;have a2:=(Qfl ((Qfl hw).2.2 i T hi')).2.2 j f hj;have a3:=Qbe hj;have a4:=(hg T h1).2.2.1;exact ⟨a1,a2,by omega,h3⟩
theorem Zet {t:Tr}:(Qfo t).length≤Qak t:=by
 unfold Qfo
 split
 ·exact Qqj t [] []
 ·simp
theorem Zb1 {w w':World} {B:Nat} {v:Value} {ws:List (Value × Value × Bool)} (h:VRow w B v ws) (hb:Below w.heap.size w w'):VRow w' B v ws:=(Keeps.of_below (P:=fun _=>none) hb).row h fun _ _=>.inl rfl
theorem Zeu (A B:Option Addr) (ca cb ba bb la lb:Nat) (xs ys:List (Value × Value × Bool)) (vs:List Vrb) (n:Nat) (w:World) (hn:vs.length=n) (ha:VRow w ba (.slice A xs.length ca) xs) (hva:VarsAt w la xs vs) (hb:VRow w bb (.slice B ys.length cb) ys) (hvb:VarsAt w lb ys vs) (hl:n≤1000000) :
  Calls Tryz.prog 24 #[.slice A n ca,.slice B n cb] w fun e w'=>e = .returned (.bool true)∧Below w.heap.size w w':=by
 subst hn;rw [hva.1] at ha;rw [hvb.1] at hb;exact Zek A B ca cb ba bb la lb xs ys vs w ha hva hb hvb hl
theorem Zhe {ps:List Tr} (hlen:ps.length≤3) (hg:∀ t∈ps,Qna t) {f:Tr} (h:f∈Qpp ps):Qmn f=true:=by
 obtain ⟨T,h1,h2,h3⟩:=Qtr h;have hcnt:=Qu4 hlen hg;have hs:=Qy9 _ (show Qry (Qnb ps)≤1048576 from by omega);obtain ⟨i,hi⟩:=List.mem_iff_getElem?.1 h1;obtain ⟨j,hj⟩:=List.mem_iff_getElem?.1 h2;have hi':(Qnb ps).kids[i]? = some T:=hi;exact (Qih ((Qih hs).2.2 i T hi')).2.2 j f hj
theorem Zey {S:Nat→Prop} {w:World} {o:Tr} {x:TV} (y:ByteArray) (h:TrAt S w o x):TrAt S w (.mk o.kind y o.leads o.kids) ⟨x.kind,y,x.la,x.ll,x.lc,x.ka,x.kl,x.kc⟩:=by
 cases o
 unfold TrAt at h ⊢;obtain ⟨h1,h2,h3⟩:=h;exact ⟨h1,rfl,h3⟩
theorem Zb9 {o:Tr} (y:ByteArray) (h:Qmn o=true):Qmn (.mk o.kind y o.leads o.kids)=true:=by
 cases o
 unfold Qmn at h ⊢;exact h
theorem Qrt (S:Nat→Prop) (t o:Tr) (v:TV) (A:Option Addr) (c:Nat) (zs:List Int) (w:World) (h:TrAt S w t v) (hA:IntsAt w A zs) (hz:zs.length≤maxLen) (hf:Qmn t=true) (ho:Qaz t zs=some o) :
  Calls Tryz.prog 22 #[.agg #[.int .i64 v.kind,.string v.text,.slice v.la v.ll v.lc,.slice v.ka v.kl v.kc],.slice A zs.length c] w fun e w'=>∃ (u:TV) (S':Nat→Prop),e = .returned (.agg #[.int .i64 u.kind,.string u.text,.slice u.la u.ll u.lc,.slice u.ka u.kl u.kc])∧(∀ k,S' k→w.heap.size≤k∧k<w'.heap.size)∧TrAt S' w' ((Qpu zs t (.mk o.kind qx o.leads o.kids)).getD Qlq) u∧Below w.heap.size w w':=by
 have HF:=hQ hf;have HFO:=hQ (Zb9 qx (Qo8 zs t o hf ho).1);have HO:=hQ ho;have HZ:=hQ hz;have HW0:=hQ (((xC w.heap.size w).alloc (xA _) (trO v)).alloc (by rw [xI];omega) (.cells #[.int .i64 0,.string ⟨#[]⟩,.slice none 0 0,.slice none 0 0] 25));have HT:=hQ (h.keep HW0.out);have HA:=hQ (hA.keep HW0.out);obtain ⟨bx,br⟩:=Qxa w (trO v) (.cells #[.int .i64 0,.string ⟨#[]⟩,.slice none 0 0,.slice none 0 0] 25);have HX:=hQ bx;have HR:=hQ br;have k0:=Qab bx 0 _ rfl;have k1:=Qab bx 1 _ rfl;have k2:=Qab bx 2 _ rfl;have k3:=Qab bx 3 _ rfl;have kl:=Qaa bx;clear h hA hz hf ho bx br
 go_enter Tryz.func22,Tryz.ntmps22
 go_wp2_with fail
 go_at_call 49;refine (Zhz S t v A c zs _ HT.out HA.out HZ.out HF.out).mono ?_;rintro e w2 ⟨hb2,x,he,S2,hS2,hx⟩;rw [HO.out] at he hx;subst he;obtain ⟨xk,xx,xla,xll,xlc,xka,xkl,xkc⟩:=x;have HB2:=hQ (HW0.out.trans (hb2.mono HW0.out.size));have HT2:=hQ (HT.out.keep hb2);have HA2:=hQ (HA.out.keep hb2);have HX2:=hQ ((hb2.block w.heap.size (Qaa HX.out)).trans HX.out);have HR2:=hQ ((hb2.block (w.heap.size+1) (Qaa HR.out)).trans HR.out);have HO2:=hQ hx;have hx2:=HX2.out;clear hb2 hx k0 k1 k2 k3 kl;have k0:w2.cell? ⟨w.heap.size,0,none⟩=some (.int .i64 v.kind):=Qab hx2 0 _ rfl;have k1:w2.cell? ⟨w.heap.size,1,none⟩=some (.string v.text):=Qab hx2 1 _ rfl;have k2:w2.cell? ⟨w.heap.size,2,none⟩=some (.slice v.la v.ll v.lc):=Qab hx2 2 _ rfl;have k3:w2.cell? ⟨w.heap.size,3,none⟩=some (.slice v.ka v.kl v.kc):=Qab hx2 3 _ rfl;have kl:w.heap.size<w2.heap.size:=Qaa hx2;clear hx2;go_wp2_with fail
 go_at_call 50;have hba:=Qas w2 (trO ⟨xk,⟨#[113]⟩,xla,xll,xlc,xka,xkl,xkc⟩);refine (Qtg S S2 t (.mk o.kind qx o.leads o.kids) v ⟨xk,⟨#[113]⟩,xla,xll,xlc,xka,xkl,xkc⟩ A c zs _ (HT2.out.keep hba) (Zey qx (HO2.out.keep hba)) (HA2.out.keep hba) HZ.out HF.out HFO.out).mono ?_;rintro e w4 ⟨hb4,u,rfl,S4,hS4,hu⟩;have hb24:=hba.trans (hb4.mono hba.size);have HB4:=hQ (HB2.out.trans (hb24.mono HB2.out.size));have HS4:=hQ hS4;have HU:=hQ hu;have HLO:=hQ (show w.heap.size+1<w2.heap.size from Qaa HR2.out);have HL2:=hQ (show w2.heap.size<w4.heap.size from xE (by rw [xI];omega) hb4.size);obtain ⟨x0,x1,x2,x3,xl,xf⟩:=Qai ((hb24.block (w.heap.size+1) (Qaa HR2.out)).trans HR2.out);clear hba hb4 hb24 hS4 hu k0 k1 k2 k3 kl
 go_wp2
 refine bodyPost_ret (v:=.agg #[.int .i64 u.kind,.string u.text,.slice u.la u.ll u.lc,.slice u.ka u.kl u.kc]) (by simp [results,Tryz.results22,go_sem, *]) rfl ?_
 have hne:∀ b,S4 b→w.heap.size+1<b∧b<w4.heap.size:=fun b hb=>by
  have h1:=HS4.out b hb;have h2:=HLO.out;have h3:w2.heap.size≤b:=xQ (by rw [xI];omega) h1.2;exact ⟨by omega,h1.1⟩
 have hsz:((Qeg w4 (w.heap.size+1) u).alloc (trO u)).heap.size=w4.heap.size+1:=by rw [xI,Qb3]
 refine ⟨u,S4,rfl,fun k hk=>?_,?_,?_⟩
 ·have h1:=hne k hk;exact ⟨by omega,Nat.lt_of_lt_of_eq (by omega) hsz.symm⟩
 ·exact TrAt.move (fun b hb=>hb) (fun b hb _=>(Below.heap_alloc _ _ _ (by rw [Qb3];exact (hne b hb).2)).trans (Qa1 u (by have:=(hne b hb).1;omega))) _ _ HU.out
 ·exact HB4.out.trans (((Qbk w4 (w.heap.size+1) u).mono (Nat.le_succ _)).trans ((Qas (Qeg w4 (w.heap.size+1) u) (trO u)).mono (by rw [Qb3];have:=HLO.out;have:=HL2.out;omega)))
theorem Qru:(zs:List Int)→(t u:Tr)→Qe6 t=true→Qaz t zs=some u→Qe6 u=true
 | [],t,u,h,hf=>by
  unfold Qaz at hf;injection hf with hf;rw [←hf];exact h
 | z :: r,t,u,h,hf=>by
  unfold Qaz at hf
  cases hb:Qjn t z
  ·rw [hb] at hf;cases hf
  ·rw [hb,xO rfl] at hf;obtain ⟨-,-,h3⟩:=Qd7 hb;cases t with
   | mk k x ls ks=>exact Qru r _ u (Qir ks z.toNat _ (Qbz.1 h).2.2.2 h3) hf
theorem Zez {t:Tr} (h:Qe6 t=true):t.text≠qx:=by
 cases t with
 | mk k x ls ks=>exact Zih (Qbz.1 h).1
theorem Zhf {ps:List Tr} (hg:∀ t∈ps,Qna t) {f:Tr} (h:f∈Qpp ps):∀ r u,Qaz f r=some u→u.text≠qx:=by
 obtain ⟨T,h1,h2,h3⟩:=Qtr h;intro r u hu;obtain ⟨j,hj⟩:=List.mem_iff_getElem?.1 h2
 have ht:Qe6 f=true:=by
  have hT:=(hg T (by assumption)).2.1;cases T with
  | mk k x ls ks=>exact Qir ks j _ (Qbz.1 hT).2.2.2 hj
 exact Zez (Qru r f u ht hu)
theorem Zhg (k:Int) (h:k=4∨k=12∨k=20):Qbn (Qae k) qx=true:=by
 rcases h with rfl | rfl | rfl <;> kernel_rfl
end Go.Proofs.YtfjpemdejoejbaaGreat
