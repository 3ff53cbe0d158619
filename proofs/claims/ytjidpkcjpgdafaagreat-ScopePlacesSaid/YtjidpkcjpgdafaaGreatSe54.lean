/- Part 54 -/
import Derived.Test.YtjidpkcjpgdafaaGreatSe51
import Derived.Test.YtjidpkcjpgdafaaGreatSe53
set_option maxRecDepth 100000
set_option maxHeartbeats 4000000
namespace Go.Proofs.YtjidpkcjpgdafaaGreat
open Go.RowKit Go.Shelf
def Zhc:ByteArray:=⟨#[109,111,100,117,108,101,32,77,32,100,101,102,32,102,40,120,58,32,73,110,116,41,58,32,73,110,116,32,61,32,108,101,116,32,121,32,61,32,120,32,105,110,32,108,101,116,32,120,32,61,32,121,32,105,110,32,120]⟩
def scoTA:Tr:=((Qi0 200 Zhc).getD (Qkk,0,0)).1
def Qri:Tr:=Qhs scoTA 0
theorem sco_p:Qi0 200 Zhc=some (scoTA,0,0):=by kernel_rfl
theorem sco_k:scoTA.kids = [Qri]:=by kernel_rfl
theorem sco_s:Qcp Qri=true:=by kernel_rfl
theorem sco_w:Qdi Qri=true:=by kernel_rfl
theorem sco_z:decide (Qal Qri≤10000)=true:=by kernel_rfl
theorem sco_v:Qsr Qri = [([2,0],some [0]),([2,1,0],some [2]),([2,1,1],some [2,1])]:=by kernel_rfl
theorem sco_b:Qeh (Qbk Qri [2,0]) ⟨#[121]⟩=none:=by kernel_rfl
theorem sco_n:Qxb Qri [2,1,1] = [⟨#[120]⟩,⟨#[121]⟩]:=by kernel_rfl
theorem Zf4:∃ t f:Tr,Qi0 200 ⟨#[109,111,100,117,108,101,32,77,32,100,101,102,32,102,40,120,58,32,73,110,116,41,58,32,73,110,116,32,61,32,108,101,116,32,121,32,61,32,120,32,105,110,32,108,101,116,32,120,32,61,32,121,32,105,110,32,120]⟩=some (t,0,0)∧t.kids = [f]∧Qcp f=true∧Qdi f=true∧Qal f≤10000 ∧
  Qsr f = [([2,0],some [0]),([2,1,0],some [2]),([2,1,1],some [2,1])]∧Qeh (Qbk f [2,0]) ⟨#[121]⟩=none∧(Qxb f [2,1,1]).length=2 :=
 ⟨scoTA,Qri,sco_p,sco_k,sco_s,sco_w,of_decide_eq_true sco_z,sco_v,sco_b,by rw [sco_n];rfl⟩
theorem Ql7 (w:World) (p:List Int):IntsAt (w.alloc (.cells (p.map (Value.int .i64)).toArray 3)) (some ⟨w.heap.size,0,none⟩) p:=fun _ =>
 ⟨w.heap.size,0,rfl,by rw [xI];omega,fun i x hx=>by
  rw [Nat.zero_add,Lib.cell_of_heap (xH w _),List.getElem?_toArray,List.getElem?_map,hx];rfl⟩
theorem VRow.at {w:World} {B lo:Nat} {v:Value} {ws:List (Value × Value × Bool)} {vs:List Vrb} (h:VRow w B v ws) (hv:VarsAt w lo ws vs) {j:Nat} {z:Vrb} (hz:vs[j]? = some z):∃ (g c:Nat) (y:Value × Value × Bool),v = .slice (some ⟨g,0,none⟩) vs.length c∧B≤g∧g<w.heap.size∧ws[j]? = some y ∧
  w.cell? ⟨g,j*3,none⟩=some y.1∧w.cell? ⟨g,j*3+1,none⟩=some y.2.1∧w.cell? ⟨g,j*3+2,none⟩=some (.bool y.2.2)∧Zcf w lo y z:=by
 have hj:=(xP.1 hz).1;obtain ⟨y,hy⟩:∃ y,ws[j]? = some y:=⟨_,xF (by rw [hv.1];exact hj)⟩;obtain ⟨g,c,hgv,hg,hl⟩:=World.ownsRow.form h (by rw [hv.1];omega);subst hgv;have hcs:=h.cells (g:=g) rfl
 have hc:∀ (k:Nat) (x:Value),(Qhd ws)[k]? = some x→w.cell? ⟨g,k,none⟩=some x:=fun k x hx=>by
  have h:=hcs k x hx;rw [Addr.add_lit] at h;simp only [Nat.zero_add] at h;exact h
 have hget:∀ (ws:List (Value × Value × Bool)) (j:Nat) (y:Value × Value × Bool),ws[j]? = some y→(Qhd ws)[j*3]? = some y.1∧(Qhd ws)[j*3+1]? = some y.2.1∧(Qhd ws)[j*3+2]? = some (.bool y.2.2):=by
  intro ws
  induction ws with
  | nil=>intro j y h;simp at h
  | cons a r ih =>
   intro j y h
   match j,h with
   | 0,h =>
    injection h with h;subst h;exact ⟨rfl,rfl,rfl⟩
   | j+1,h =>
    have:=ih j y h
    unfold Qhd at this ⊢;rw [List.flatMap_cons,show (j+1)*3=j*3+3 from by omega,show j*3+3+1=j*3+1+3 from by omega,show j*3+3+2=j*3+2+3 from by omega,xX (by simp),xX (by simp),xX (by simp)]
    simpa using this
 obtain ⟨q0,q1,q2⟩:=hget ws j y hy;exact ⟨g,c,y,by rw [hv.1],hg,hl,hy,hc _ _ q0,hc _ _ q1,hc _ _ q2,hv.2 j y z hy hz⟩
theorem Qrj (w:World):Calls Tryz.prog 32 #[] w fun e w'=>e = .returned (.bool true)∧Below w.heap.size w w':=by
 obtain ⟨a,f,hpa,hk,hs,hw,hz,hv,hbi,hvi⟩:=Zf4;have HPA:=hQ hpa;have HK:=hQ hk;have HS:=hQ hs;have HW:=hQ hw;have HZ:=hQ hz;have HV:=hQ hv;have HBI:=hQ hbi;have HVI:=hQ hvi;have HSA:=hQ (show (⟨#[109,111,100,117,108,101,32,77,32,100,101,102,32,102,40,120,58,32,73,110,116,41,58,32,73,110,116,32,61,32,108,101,116,32,121,32,61,32,120,32,105,110,32,108,101,116,32,120,32,61,32,121,32,105,110,32,120]⟩:ByteArray).size≤maxLen from Nat.le_of_ble_eq_true rfl);clear hpa hk hs hw hz hv hbi hvi
 go_enter Tryz.func32,Tryz.ntmps32
 go_wp2_with fail
 go_at_call 44;refine (Qyl (n:=200) (Nat.le_of_ble_eq_true rfl) _ HSA.out HPA.out).mono ?_;rintro e w1 ⟨va,rfl,hta,hb1⟩;have hkl:=hta.kl.1;rw [HK.out] at hkl;obtain ⟨ga,oa,hka⟩:=hta.addr.resolve_left (by rw [HK.out];simp);obtain ⟨ak,ax,ala,all',alc,aka,akl,akc⟩:=va;simp only at hkl hka;subst hkl hka;obtain ⟨fv,c0,c1,c2,c3,hfv⟩:=hta.at (j:=0) rfl (show a.kids[0]? = some f from by rw [HK.out];rfl);simp only [Nat.zero_mul,Nat.add_zero,xD,xG,Nat.zero_add] at c0 c1 c2 c3 ⊢;have cl:=xK w1 _ c0;have HB1:=hQ hb1;have HFV:=hQ hfv;have HXA:=hQ (xH w1 (trO ⟨ak,ax,ala,all',alc,some ⟨ga,oa,none⟩,1,akc⟩));have HBA:=hQ (Qai w1 (trO ⟨ak,ax,ala,all',alc,some ⟨ga,oa,none⟩,1,akc⟩));clear hta hb1 hfv;go_wp2_with fail
 go_at_call 36;obtain ⟨fk,fx,fla,fll,flc,fka,fkl,fkc⟩:=fv;refine (Qnx _ f ⟨fk,fx,fla,fll,flc,fka,fkl,fkc⟩ _ (HFV.out.keep HBA.out) HS.out HW.out HZ.out).mono ?_;rintro e w2 ⟨r,ws,rfl,hvr,hva,hb2⟩;rw [HV.out] at hva;obtain ⟨g,vc,y0,rfl,hgB,hgl,hy0,p00,p01,p02,hv0⟩:=hvr.at hva (j:=0) rfl;obtain ⟨g2,vc2,y2,hgg,_,_,hy2,p20,p21,p22,hv2⟩:=hvr.at hva (j:=2) rfl;injection hgg with hgg1 hgg2 hgg3;injection hgg1 with hgg1;injection hgg1 with hgg1;subst hgg1 hgg3;have HB2:=hQ hb2;have HB12:=hQ (HBA.out.trans (hb2.mono HBA.out.size));have HX2:=hQ ((hb2.block _ (Qaa HXA.out)).trans HXA.out);have HFV2:=hQ (HFV.out.keep HB12.out)
 obtain ⟨b0v,hb0e,hb0r,hb0f⟩:∃ v,y0.2.1=v∧IRow w2 (w1.alloc (trO ⟨ak,ax,ala,all',alc,some ⟨ga,oa,none⟩,1,akc⟩)).heap.size v [0]∧y0.2.2=false:=by
  rcases hv0.2 with ⟨h,_⟩|⟨q,h1,h2,h3⟩
  ·cases h
  ·injection h1 with h1;subst h1;exact ⟨_,rfl,h2,h3⟩
 obtain ⟨b2v,hb2e,hb2r,hb2f⟩:∃ v,y2.2.1=v∧IRow w2 (w1.alloc (trO ⟨ak,ax,ala,all',alc,some ⟨ga,oa,none⟩,1,akc⟩)).heap.size v [2,1]∧y2.2.2=false:=by
  rcases hv2.2 with ⟨h,_⟩|⟨q,h1,h2,h3⟩
  ·cases h
  ·injection h1 with h1;subst h1;exact ⟨_,rfl,h2,h3⟩
 obtain ⟨B0,n0,q0,rfl⟩:=hb0r.slice;obtain ⟨B2,n2,q2,rfl⟩:=hb2r.slice;obtain ⟨hn0,hi0⟩:=hb0r.ints;obtain ⟨hn2,hi2⟩:=hb2r.ints;subst hn0 hn2;rw [hb0e] at p01;rw [hb2e] at p21;rw [hb0f] at p02;have HI0:=hQ hi0;have HI2:=hQ hi2;have HP01:=hQ p01;have HP02:=hQ p02;have HP21:=hQ p21;have HC0:=hQ c0;have HC1:=hQ c1;have HC2:=hQ c2;have HC3:=hQ c3;have HCL:=hQ cl;have HGL:=hQ hgl
 have LAY:Hid (∀ W:World,Below w2.heap.size w2 W→W.cell? ⟨w1.heap.size,3,none⟩=some (.slice (some ⟨ga,oa,none⟩) 1 akc)∧W.cell? ⟨ga,oa,none⟩=some (.int .i64 fk)∧W.cell? ⟨ga,oa+1,none⟩=some (.string fx)∧W.cell? ⟨ga,oa+2,none⟩=some (.slice fla fll flc)∧W.cell? ⟨ga,oa+3,none⟩=some (.slice fka fkl fkc) ∧
   W.cell? ⟨g,0,none⟩=some y0.1∧W.cell? ⟨g,1,none⟩=some (.slice B0 [(0:Int)].length q0)∧W.cell? ⟨g,2,none⟩=some (.bool false)∧W.cell? ⟨g,7,none⟩=some (.slice B2 [(2:Int),1].length q2)∧w1.heap.size<W.heap.size∧ga<W.heap.size∧g<W.heap.size):=hQ fun W hb=>by
  have hx:=(hb.block _ (Qaa HX2.out)).trans HX2.out;have hl2:=xE HCL.out HB12.out.size;have hk:∀ o v,w1.cell? ⟨ga,o,none⟩=some v→W.cell? ⟨ga,o,none⟩=some v:=fun o v hv=>(hb.cell (p:=⟨ga,o,none⟩) hl2).trans ((HB12.out.cell (p:=⟨ga,o,none⟩) HCL.out).trans hv)
  have hg:∀ o v,w2.cell? ⟨g,o,none⟩=some v→W.cell? ⟨g,o,none⟩=some v:=fun o v hv=>(hb.cell (p:=⟨g,o,none⟩) HGL.out).trans hv
  exact ⟨Qab hx 3 _ rfl,hk _ _ HC0.out,hk _ _ HC1.out,hk _ _ HC2.out,hk _ _ HC3.out,hg _ _ p00,hg _ _ HP01.out,hg _ _ HP02.out,hg _ _ HP21.out,Qaa hx,xE hl2 hb.size,xE HGL.out hb.size⟩
 have HEND:=hQ (HB1.out.trans (HB12.out.mono HB1.out.size));clear hva hvr hb2 hv0 hv2 hi0 hi2 p00 p01 p02 p20 p21 p22 c0 c1 c2 c3 cl hb0f hb2f hb0r hb2r hb0e hb2e hy0 hy2 hgB hgl hgg2;obtain ⟨l1,l2,l3,l4,l5,l6,l7,l8,l9,l10,l11,l12⟩:=LAY.out w2 (xC _ _);go_wp2_with fail
 go_at_call 33;have HB3:=hQ (Qai w2 (.cells #[.int .i64 2,.int .i64 0] 3));refine (Qoj _ f ⟨fk,fx,fla,fll,flc,fka,fkl,fkc⟩ (some ⟨w2.heap.size,0,none⟩) 2 [2,0] ⟨#[121]⟩ _ (HFV2.out.keep HB3.out) HS.out HW.out HZ.out (Ql7 w2 [2,0]) (by decide) (by decide)).mono ?_;rw [HBI.out];rintro e w4 ⟨hb4,rfl⟩;have HB4:=hQ (HB3.out.trans (hb4.mono HB3.out.size));clear l1 l2 l3 l4 l5 l6 l7 l8 l9 l10 l11 l12 hb4;obtain ⟨l1,l2,l3,l4,l5,l6,l7,l8,l9,l10,l11,l12⟩:=LAY.out w4 HB4.out;go_wp2_with fail
 go_at_call 31;have HB5:=hQ (HB4.out.trans ((Qai w4 (.cells #[.int .i64 0] 3)).mono HB4.out.size));refine (Qih B0 (some ⟨w4.heap.size,0,none⟩) q0 1 [0] [0] _ (HI0.out.keep HB5.out) (Ql7 w4 [0]) (Nat.le_of_ble_eq_true rfl) (Nat.le_of_ble_eq_true rfl)).mono ?_;rw [show Qek [0] [0] = true from rfl];rintro e w6 ⟨rfl,hb6⟩;have HB6:=hQ (HB5.out.trans (hb6.mono HB5.out.size));clear l1 l2 l3 l4 l5 l6 l7 l8 l9 l10 l11 l12 hb6;obtain ⟨l1,l2,l3,l4,l5,l6,l7,l8,l9,l10,l11,l12⟩:=LAY.out w6 HB6.out;go_wp2_with fail
 go_at_call 31;have HB7:=hQ (HB6.out.trans ((Qai w6 (.cells #[.int .i64 2,.int .i64 1] 3)).mono HB6.out.size));refine (Qih B2 (some ⟨w6.heap.size,0,none⟩) q2 2 [2,1] [2,1] _ (HI2.out.keep HB7.out) (Ql7 w6 [2,1]) (Nat.le_of_ble_eq_true rfl) (Nat.le_of_ble_eq_true rfl)).mono ?_;rw [show Qek [2,1] [2,1] = true from rfl];rintro e w8 ⟨rfl,hb8⟩;have HB8:=hQ (HB7.out.trans (hb8.mono HB7.out.size));clear l1 l2 l3 l4 l5 l6 l7 l8 l9 l10 l11 l12 hb8;obtain ⟨l1,l2,l3,l4,l5,l6,l7,l8,l9,l10,l11,l12⟩:=LAY.out w8 HB8.out;go_wp2_with fail
 go_at_call 39;have HB9:=hQ (HB8.out.trans ((Qai w8 (.cells #[.int .i64 2,.int .i64 1,.int .i64 1] 3)).mono HB8.out.size));refine (Qm4 _ f ⟨fk,fx,fla,fll,flc,fka,fkl,fkc⟩ (some ⟨w8.heap.size,0,none⟩) 3 [2,1,1] _ (HFV2.out.keep HB9.out) HS.out HW.out HZ.out (Ql7 w8 [2,1,1]) (by decide) (by decide)).mono ?_;rintro e w10 ⟨r,rfl,hr,hb10⟩;have hlen:=HVI.out;obtain ⟨NA,nc,rfl⟩:=Qca hr;rw [hlen];have HB10:=hQ (HB9.out.trans (hb10.mono HB9.out.size));clear hr hlen hb10;go_wp2_with fail
 go_ret
 exact ⟨rfl,HEND.out.trans (HB10.out.mono HEND.out.size)⟩
theorem Zdq {w:World} {B:Nat} {v:Value} {p:List Int} (h:IRow w B v p):p.length≤maxLen:=by
 rcases h.2 with ⟨_,h0⟩|⟨g,cap,cur,_,_,_,hnc,hm,_⟩
 ·rw [h0];exact xZ _
 ·exact xQ hnc hm
theorem Qrr (A:Option Addr) (n c:Nat) (w:World):Calls Tryz.prog 23 #[.slice A n c] w fun e w'=>e = .returned (.bool (decide (n≤120)))∧w'=w:=by
 have h:(decide ((n:Int)≤120))=decide (n≤120):=by simp;omega
 go_enter Tryz.func23,Tryz.ntmps23
 go_wp2
 go_ret
 first | exact ⟨rfl,rfl⟩ | (rw [←h];exact ⟨rfl,rfl⟩) | (simp;done) | (simp;omega)
theorem Zbg {ps:List Tr} (hlen:ps.length≤3) (hg:∀ t∈ps,Qnz t) {f:Tr} (h:f∈Qp4 ps):Qcp f=true∧Qdi f=true∧Qal f≤352∧f.kind=2:=by
 obtain ⟨T,h1,h2,h3⟩:=Zbe h;have hcnt:=Quo hlen hg;have hs:=Qmv _ (show Qrt (Qnp ps)≤1048576 from by omega);have hw:=Qkc _ (show Qrt (Qnp ps)≤1048576 from by omega);obtain ⟨i,hi⟩:=List.mem_iff_getElem?.1 h1;obtain ⟨j,hj⟩:=List.mem_iff_getElem?.1 h2;have hi':(Qnp ps).kids[i]? = some T:=hi;have a1:=(Qfj ((Qfj hs).2.2 i T hi')).2.2 j f hj;have a2:=(Qfk ((Qfk hw).2.2 i T hi')).2.2 j f hj;have a3:=Qbd hj;have a4:=(hg T h1).2.2.1;exact ⟨a1,a2,by omega,h3⟩
theorem Zgg {ps:List Tr} (hlen:ps.length≤3) (hg:∀ t∈ps,Qnz t) {f:Tr} (h:f∈Qp4 ps):Zbk f=true:=by
 obtain ⟨T,h1,h2,h3⟩:=Zbe h;have hcnt:=Quo hlen hg;have hs:=Qym _ (show Qrt (Qnp ps)≤1048576 from by omega);obtain ⟨i,hi⟩:=List.mem_iff_getElem?.1 h1;obtain ⟨j,hj⟩:=List.mem_iff_getElem?.1 h2;have hi':(Qnp ps).kids[i]? = some T:=hi;exact (Qj3 ((Qj3 hs).2.2 i T hi')).2.2 j f hj
theorem Qo2:(l:List ByteArray)→Qe3 l l=true
 | []=>rfl
 | a :: r=>by rw [Qld,Qo2 r];simp
theorem NRow.strs {w:World} {B n c:Nat} {A:Option Addr} {l:List ByteArray} (h:NRow w B (.slice A n c) l):StrsAt (fun b=>b<w.heap.size) w A l:=fun hne=>by
 obtain ⟨g,cap,hv,_,_⟩:=World.ownsRow.form h (List.length_pos_iff.2 hne);injection hv with hv1 hv2 hv3;subst hv1;obtain ⟨_,_,hl,_,_,_,hc⟩:=h.cells;exact ⟨g,0,rfl,hl,fun i x hx=>by rw [Nat.zero_add];exact hc i x hx⟩
theorem Qth {m:Nat} (h:m<3):∃ s:ByteArray,(#[.string ⟨#[120]⟩,.string ⟨#[121]⟩,.string ⟨#[122]⟩]:Array Value)[m]? = some (.string s):=by
 match m,h with
 | 0,_=>exact ⟨_,rfl⟩
 | 1,_=>exact ⟨_,rfl⟩
 | 2,_=>exact ⟨_,rfl⟩
def isB:Option (List Int)→Bool
 | none=>false
 | some _=>true
theorem InnPost.both {r:Option (List Int)} {w w':World} {e:Ending} (h:InnPost r w e w'):∃ (A:Option Addr) (c:Nat),e = .returned (.tuple #[.slice A (r.getD []).length c,.bool (isB r)])∧IntsAt w' A (r.getD [])∧(r.getD []).length≤maxLen∧Below w.heap.size w w':=by
 obtain ⟨hb,h⟩:=h;cases r with
 | none=>exact ⟨none,0,h,fun hn=>absurd rfl hn,xZ _,hb⟩
 | some q =>
  obtain ⟨v,e1,h1⟩:=h;obtain ⟨A,n,c,hv⟩:=h1.slice;rw [hv] at h1;obtain ⟨e2,hi⟩:=h1.ints;subst e2;rw [hv] at e1;exact ⟨A,c,e1,hi,Zdq h1,hb⟩
theorem Qxa (f:Tr) (q:List Int) (hz:Qal f≤352) (hl:q.length≤10000):(Qbk f q).length≤100000:=by
 by_cases hf:Qfb f=true
 ·have h:=congrArg List.length (Ql6 hf (show Qal f≤1000 by omega) q);rw [List.length_map,List.length_reverse] at h;rw [←h];have:=Qjj f (by omega) q hl
  omega
 ·rw [Qk3 (by simpa using hf)];simp
theorem Qti (A:Option Addr) (c:Nat) (xs:List Int) (w:World) (hx:IntsAt w A xs) :
  Calls Tryz.prog 11 #[.slice A xs.length c] w fun e w'=>e = .returned (.bool true)∧Below w.heap.size w w':=by
 by_cases hl:xs.length≤120
 ·have d0:=xS hl;have HP:=hQ (Qp3 A c xs w hx hl);clear hx hl
  go_enter Tryz.func11,Tryz.ntmps11
  go_wp2_with (first | (go_at_call 23;refine (Qrr _ _ _ _).mono ?_;rintro e w0 ⟨rfl,h0⟩;rw [h0];clear h0 w0) | fail)
  go_at_call 41;refine HP.out.mono ?_;rintro e w2 ⟨l2,w1,ps,rfl,hlen,hgood,hfr,hb12,hb2⟩;obtain ⟨FA,fc,rfl⟩:=hfr.slice;have HFR:=hQ hfr;have HB12:=hQ hb12;have HB2:=hQ hb2;have HFF:=hQ (fun f (h:f∈Qp4 ps)=>And.intro (Zbg hlen hgood h) (Zgg hlen hgood h));obtain ⟨fs,hfs⟩:∃ fs,fs=Qp4 ps:=⟨_,rfl⟩
  have hfl:fs.length≤1056:=by
   rw [hfs];have h1:=Qtf ps;have h2:=Qkf ps hgood;have h3:352*ps.length≤352*3:=Nat.mul_le_mul_left _ hlen;omega
  rw [←hfs] at HFR HFF ⊢;have hfi:(fs.length:Int)≤1056:=by omega
  clear hfr hb12 hb2 hlen hgood hfs hfl;go_wp2_with fail
  obtain ⟨W,hW⟩:∃ W,W=w2.alloc (.cells #[.string ⟨#[120]⟩,.string ⟨#[121]⟩,.string ⟨#[122]⟩] 62):=⟨_,rfl⟩;rw [←hW];obtain ⟨D,hD⟩:∃ D,D=w2.heap.size:=⟨_,rfl⟩;rw [←hD];have HBW:=hQ (show Below w2.heap.size w2 W from by rw [hW];exact Qai w2 _);have HXD:=hQ (show W.heap[D]? = some (.cells #[.string ⟨#[120]⟩,.string ⟨#[121]⟩,.string ⟨#[122]⟩] 62 (0,0)) from by rw [hW,hD];exact xH w2 _);have HFW:=hQ (HFR.out.later HBW.out);clear hW hD
  go_loopw [5] (fun i wr=>∃ q:Nat,i = .int .i64 (q:Int)∧q≤fs.length∧Below W.heap.size W wr) (fun i _=>fs.length-(intOf i).toNat)
  case atStart=>exact ⟨0,rfl,xZ _,xC _ _⟩
  case round =>
   obtain ⟨i,rfl,hq,hb⟩:=hrel;obtain ⟨wo,hwo⟩:∃ w',w'=wr:=⟨_,rfl⟩;subst hwo;have HBR:=hQ hb;clear hb
   by_cases hlt:i<fs.length
   ·obtain ⟨f,hf⟩:∃ f,fs[i]? = some f:=⟨_,xF hlt⟩;obtain ⟨⟨f1,f2,f3,-⟩,f4⟩:=HFF.out f (yA hf);obtain ⟨-,fb,-,rfl,-⟩:=(HFW.out.later HBR.out).at hf;obtain ⟨-,-,⟨uk,ux,ula,ull,ulc,uka,ukl,ukc⟩,c0,c1,c2,c3,hu⟩:=(HFW.out.later HBR.out).in hf;simp only at c0 c1 c2 c3;have cl:=xK wo _ c0;have HUO:=hQ hu;have F1:=hQ f1;have F2:=hQ f2;have F3:=hQ f3;have F4:=hQ f4;have i0:(0:Int)≤(i:Int):=by omega
    have i1:(i:Int)<(fs.length:Int):=by omega
    have i2:(i:Int)+1≤1057:=by omega
    have CO0:=hQ c0;have CO1:=hQ c1;have CO2:=hQ c2;have CO3:=hQ c3;have COL:=hQ cl;clear f1 f2 f3 f4 hu hf;go_wp2_with fail
    go_at_call 25;refine (Qwp _ f ⟨uk,ux,ula,ull,ulc,uka,ukl,ukc⟩ wo HUO.out F4.out (by have:=F3.out;omega)).mono ?_;rintro e w3 ⟨L,rfl,hps,hb3⟩;obtain ⟨qs,hqs⟩:∃ qs,qs=Qhi f []:=⟨_,rfl⟩;have hql:qs.length≤352:=by rw [hqs,Qk0];exact F3.out
    have hshort:∀ q∈qs,q.length≤10000:=fun q hq=>by
     rw [hqs,Qrf] at hq;obtain ⟨x,hx⟩:=List.mem_iff_getElem?.1 hq;have:=Zan _ f x q (xA _) hx
     have:=F3.out
     omega
    rw [←hqs] at hps;obtain ⟨LA0,lc0,rfl⟩:∃ A c,L = .slice A qs.length c:=by obtain ⟨vs,h1,_⟩:=hps;exact Qdv h1
    have HPS:=hQ hps;have HSH:=hQ hshort;have HB3:=hQ (HBR.out.trans (hb3.mono HBR.out.size));have HBO3:=hQ hb3;have hqi:(qs.length:Int)≤352:=by omega
    clear hps hqs hql hb3 hshort c0 c1 c2 c3 cl;go_wp2_with fail
    go_loopw [7] (fun k wr=>∃ q:Nat,k = .int .i64 (q:Int)∧q≤qs.length∧Below w3.heap.size w3 wr) (fun k _=>qs.length-(intOf k).toNat)
    case atStart=>exact ⟨0,rfl,xZ _,xC _ _⟩
    case round =>
     obtain ⟨k,rfl,hk,hb⟩:=hrel;obtain ⟨w5,hwo⟩:∃ w',w'=wr:=⟨_,rfl⟩;subst hwo;have HB5:=hQ hb;clear hb
     by_cases hkl:k<qs.length
     ·obtain ⟨q,hq⟩:∃ q,qs[k]? = some q:=⟨_,xF hkl⟩;obtain ⟨lg,QA,qc,rfl,gl,p0,hqi⟩:=(HPS.out.keep HB5.out).at hq;have HQC:=hQ (Qgk hqi);have HQI:=hQ (show IRow w5 _ _ _ from hqi).ints.2;have HQL:=hQ (HSH.out q (yA hq));have HBO5:=hQ (HBO3.out.trans (HB5.out.mono HBO3.out.size));have HU5:=hQ (HUO.out.keep HBO5.out)
      have HVL:=hQ (show (Qxb f q).length≤140737488355328 from by
       unfold Qxb;have h1:=Qkw ((Qbk f q).map (·.1));rw [List.length_map] at h1;have h2:=Qxa f q F3.out HQL.out;omega)
      have c0:=Qby HBO5.out COL.out CO0.out;have c1:=Qby HBO5.out COL.out CO1.out;have c2:=Qby HBO5.out COL.out CO2.out;have c3:=Qby HBO5.out COL.out CO3.out;have cl:=xE COL.out HBO5.out.size;have k0:(0:Int)≤(k:Int):=by omega
      have k1:(k:Int)<(qs.length:Int):=by omega
      have k2:(k:Int)+1≤353:=by omega
      have HBD:=hQ (show Below w5.heap.size w5 w5.drew from (xC _ _).drew);clear hq hqi;go_wp2_with fail
      go_region_held3 (fun w'=>w'.cell? ⟨fb,i*4,none⟩=some (.int .i64 uk)∧w'.cell? ⟨fb,i*4+1,none⟩=some (.string ux)∧w'.cell? ⟨fb,i*4+2,none⟩=some (.slice ula ull ulc)∧w'.cell? ⟨fb,i*4+3,none⟩=some (.slice uka ukl ukc)∧w'.cell? ⟨lg,k,none⟩=some (.slice QA q.length qc)) (first | with_reducible exact ⟨c0,c1,c2,c3,p0⟩ | go_keep) (first
       | (go_at_call 39;refine (Qm4 _ f ⟨uk,ux,ula,ull,ulc,uka,ukl,ukc⟩ QA qc q w5.drew (HU5.out.keep HBD.out) F1.out F2.out (by have:=F3.out;omega) (HQI.out.keep HBD.out) HQL.out HQC.out).mono ?_;rintro e w6 ⟨r,rfl,hr,hb6⟩;obtain ⟨NA,nc,rfl⟩:=Qca hr;have HNR:=hQ hr.strs;have HBX:=hQ (HBD.out.trans (hb6.mono HBD.out.size));have HB6:=hQ HBX.out;replace c0:=Qby HBX.out cl c0;replace c1:=Qby HBX.out cl c1;replace c2:=Qby HBX.out cl c2;replace c3:=Qby HBX.out cl c3;replace p0:=Qby HBX.out gl p0;replace cl:=xE cl HBX.out.size;replace gl:=xE gl HBX.out.size;clear HBX hr hb6)
       | (go_at_call 40;refine (Qtg _ f ⟨uk,ux,ula,ull,ulc,uka,ukl,ukc⟩ QA qc q w6 (HU5.out.keep HB6.out) F2.out (by have:=F3.out;omega) (HQI.out.keep HB6.out) HQL.out HQC.out).mono ?_;rintro e w7 ⟨r,rfl,hr,hb7⟩;obtain ⟨RA,rc,rfl⟩:=Qca hr;have HRR:=hQ hr.strs;have HBX:=hQ hb7;have HB67:=hQ hb7;have HB7:=hQ (HB6.out.trans (hb7.mono HB6.out.size));replace c0:=Qby HBX.out cl c0;replace c1:=Qby HBX.out cl c1;replace c2:=Qby HBX.out cl c2;replace c3:=Qby HBX.out cl c3;replace p0:=Qby HBX.out gl p0;replace cl:=xE cl HBX.out.size;replace gl:=xE gl HBX.out.size;clear HBX hr hb7)
       | (go_at_call 38;refine (Qvx _ _ NA RA nc rc (Qxb f q) (Qxb f q) w7 (HNR.out.keep HB67.out) HRR.out HVL.out).mono ?_;rw [Qo2];rintro e w8 ⟨rfl,hb8⟩;have HBX:=hQ hb8;have HB8:=hQ (HB7.out.trans (hb8.mono HB7.out.size));replace c0:=Qby HBX.out cl c0;replace c1:=Qby HBX.out cl c1;replace c2:=Qby HBX.out cl c2;replace c3:=Qby HBX.out cl c3;replace p0:=Qby HBX.out gl p0;replace cl:=xE cl HBX.out.size;replace gl:=xE gl HBX.out.size;clear HBX hb8))
      all_goals
       have HW8:=hQ (HB3.out.trans ((HB5.out.trans (HB8.out.mono HB5.out.size)).mono HB3.out.size));have HU8:=hQ (HU5.out.keep HB8.out);have HQI8:=hQ (HQI.out.keep HB8.out);have C0:=hQ c0;have C1:=hQ c1;have C2:=hQ c2;have C3:=hQ c3;have CL:=hQ cl;have P0:=hQ p0;have GL:=hQ gl;clear c0 c1 c2 c3 cl p0 gl;go_wp2_with fail
       go_loopw [8] (fun n wr=>∃ m:Nat,n = .int .i64 (m:Int)∧m≤3∧Below w8.heap.size w8 wr) (fun n _=>3-(intOf n).toNat)
       case atStart=>exact ⟨0,rfl,xZ _,xC _ _⟩
       case round =>
        obtain ⟨m,rfl,hm,hb⟩:=hrel;obtain ⟨w9,hwo⟩:∃ w',w'=wr:=⟨_,rfl⟩;subst hwo;have HB9:=hQ hb;clear hb
        by_cases hml:m<3
        ·obtain ⟨s,hs⟩:=Qth hml;have HXW9:=hQ (((HW8.out.trans (HB9.out.mono HW8.out.size)).block _ (Qaa HXD.out)).trans HXD.out);have s0:w9.cell? ⟨D,m,none⟩=some (.string s):=Qab HXW9.out m _ hs;have nl:=Qaa HXW9.out;have c0:=Qby HB9.out CL.out C0.out;have c1:=Qby HB9.out CL.out C1.out;have c2:=Qby HB9.out CL.out C2.out;have c3:=Qby HB9.out CL.out C3.out;have cl:=xE CL.out HB9.out.size;have p0:=Qby HB9.out GL.out P0.out;have gl:=xE GL.out HB9.out.size;have HU9:=hQ (HU8.out.keep HB9.out);have HQI9:=hQ (HQI8.out.keep HB9.out);have HBD9:=hQ (show Below w9.heap.size w9 w9.drew from (xC _ _).drew);have m0:(0:Int)≤(m:Int):=by omega
         have m1:(m:Int)<3:=by omega
         have m2:(m:Int)+1≤4:=by omega
         obtain ⟨r,hr⟩:∃ r,r=Qeh (Qbk f q) s:=⟨_,rfl⟩;clear hs;go_wp2_with fail
         go_region_held3 (fun w'=>w'.cell? ⟨fb,i*4,none⟩=some (.int .i64 uk)∧w'.cell? ⟨fb,i*4+1,none⟩=some (.string ux)∧w'.cell? ⟨fb,i*4+2,none⟩=some (.slice ula ull ulc)∧w'.cell? ⟨fb,i*4+3,none⟩=some (.slice uka ukl ukc)∧w'.cell? ⟨lg,k,none⟩=some (.slice QA q.length qc)∧w'.cell? ⟨D,m,none⟩=some (.string s)) (first | with_reducible exact ⟨c0,c1,c2,c3,p0,s0⟩ | go_keep) ((go_at_call 33;refine (Qoj _ f ⟨uk,ux,ula,ull,ulc,uka,ukl,ukc⟩ QA qc q s w9.drew (HU9.out.keep HBD9.out) F1.out F2.out (by have:=F3.out;omega) (HQI9.out.keep HBD9.out) HQL.out HQC.out).mono ?_;intro e w10 hp10;obtain ⟨BA,bc,rfl,hbi,hbl,hb10⟩:=hp10.both;have HBI:=hQ hbi;have HBL:=hQ hbl;have HBX:=hQ (HBD9.out.trans (hb10.mono HBD9.out.size));have HB10:=hQ HBX.out;replace c0:=Qby HBX.out cl c0;replace c1:=Qby HBX.out cl c1;replace c2:=Qby HBX.out cl c2;replace c3:=Qby HBX.out cl c3;replace p0:=Qby HBX.out gl p0;replace s0:=Qby HBX.out nl s0;replace cl:=xE cl HBX.out.size;replace gl:=xE gl HBX.out.size;replace nl:=xE nl HBX.out.size;clear HBX hp10 hbi hbl hb10))
         all_goals
          rw [←hr] at HBI HBL ⊢;have HBD10:=hQ (show Below w9.heap.size w9 w10.drew from HB10.out.drew);have HBE10:=hQ (show Below w10.heap.size w10 w10.drew from (xC _ _).drew);go_wp2_with fail
          go_region_held3 (fun w'=>w'.cell? ⟨fb,i*4,none⟩=some (.int .i64 uk)∧w'.cell? ⟨fb,i*4+1,none⟩=some (.string ux)∧w'.cell? ⟨fb,i*4+2,none⟩=some (.slice ula ull ulc)∧w'.cell? ⟨fb,i*4+3,none⟩=some (.slice uka ukl ukc)∧w'.cell? ⟨lg,k,none⟩=some (.slice QA q.length qc)∧w'.cell? ⟨D,m,none⟩=some (.string s)) (first | with_reducible exact ⟨c0,c1,c2,c3,p0,s0⟩ | go_keep) ((go_at_call 34;refine (Qwn _ f ⟨uk,ux,ula,ull,ulc,uka,ukl,ukc⟩ QA qc q s w10.drew (HU9.out.keep HBD10.out) F2.out (by have:=F3.out;omega) (HQI9.out.keep HBD10.out) HQL.out HQC.out).mono ?_;intro e w11 hp11;obtain ⟨CA,cc,rfl,hci,hcl,hb11⟩:=hp11.both;have HCI:=hQ hci;have HBX:=hQ (HBE10.out.trans (hb11.mono HBE10.out.size));have HB11:=hQ HBX.out;have HBM:=hQ (HBD10.out.trans (hb11.mono HB10.out.size));replace c0:=Qby HBX.out cl c0;replace c1:=Qby HBX.out cl c1;replace c2:=Qby HBX.out cl c2;replace c3:=Qby HBX.out cl c3;replace p0:=Qby HBX.out gl p0;replace s0:=Qby HBX.out nl s0;replace cl:=xE cl HBX.out.size;replace gl:=xE gl HBX.out.size;replace nl:=xE nl HBX.out.size;clear HBX hp11 hci hcl hb11))
          all_goals
           rw [←hr] at HCI ⊢;clear hr c0 c1 c2 c3 cl p0 gl s0 nl;cases hb:isB r
           all_goals
            clear hb;go_wp2_with fail
            go_at_call 31;refine (Qih BA CA bc cc (r.getD []) (r.getD []) w11 (HBI.out.keep HB11.out) HCI.out HBL.out HBL.out).mono ?_;rw [Qnj];rintro e w12 ⟨rfl,hb12⟩;have HB12':=hQ (HB9.out.trans ((HBM.out.trans (hb12.mono HBM.out.size)).mono HB9.out.size));clear hb12;go_wp2_with fail
            go_roundw
            case measure=>first | (simp [intOf];done) | (simp [intOf];omega)
            case rel=>exact ⟨m+1,rfl,by omega,HB12'.out⟩
        ·obtain rfl:m=3:=by omega
         go_wp2_with fail
         go_roundw
         case measure=>first | (simp [intOf];done) | (simp [intOf];omega)
         case rel=>exact ⟨k+1,rfl,by omega,HB5.out.trans ((HB8.out.trans (HB9.out.mono HB8.out.size)).mono HB5.out.size)⟩
     ·obtain rfl:k=qs.length:=by omega
      go_wp2_with fail
      go_roundw
      case measure=>first | (simp [intOf];done) | (simp [intOf];omega)
      case rel=>exact ⟨i+1,rfl,by omega,HB3.out.trans (HB5.out.mono HB3.out.size)⟩
   ·obtain rfl:i=fs.length:=by omega
    go_wp2_with fail
    go_at_call 32;refine (Qrj _).mono ?_;rintro e w9 ⟨rfl,hb9⟩;have HB9:=hQ (HB2.out.trans ((HBW.out.trans ((HBR.out.trans (hb9.mono HBR.out.size)).mono HBW.out.size)).mono HB2.out.size));clear hb9;go_wp2_with fail
    go_ret
    exact ⟨rfl,HB9.out⟩
 ·have d0:=xR hl;clear hx hl
  go_enter Tryz.func11,Tryz.ntmps11
  go_wp2_with (first | (go_at_call 23;refine (Qrr _ _ _ _).mono ?_;rintro e w0 ⟨rfl,h0⟩;rw [h0];clear h0 w0) | (go_at_call 32;refine (Qrj _).mono ?_;rintro e w9 ⟨rfl,hb9⟩;have HB9:=hQ hb9;clear hb9))
  go_ret
  exact ⟨rfl,HB9.out⟩
end Go.Proofs.YtjidpkcjpgdafaaGreat
