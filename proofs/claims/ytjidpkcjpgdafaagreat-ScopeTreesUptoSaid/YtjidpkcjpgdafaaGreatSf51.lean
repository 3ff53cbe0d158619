/- Part 51 -/
import Derived.Test.YtjidpkcjpgdafaaGreatSf46
set_option maxRecDepth 100000
set_option maxHeartbeats 4000000
namespace Go.Proofs.YtjidpkcjpgdafaaGreat
open Go.RowKit Go.Shelf
def Qz6:ByteArray:=⟨#[109,111,100,117,108,101,32,77,32,100,101,102,32,102,40,120,58,32,73,110,116,41,58,32,73,110,116,32,61,32,108,101,116,32,121,32,61,32,120,32,105,110,32,108,101,116,32,120,32,61,32,121,32,105,110,32,120]⟩
def scoTA:Tr:=((Qg9 200 Qz6).getD (Qik,0,0)).1
def Qob:Tr:=Qfm scoTA 0
theorem sco_p:Qg9 200 Qz6=some (scoTA,0,0):=by kernel_rfl
theorem sco_k:scoTA.kids = [Qob]:=by kernel_rfl
theorem sco_s:Qb7 Qob=true:=by kernel_rfl
theorem sco_w:Qc2 Qob=true:=by kernel_rfl
theorem sco_z:decide (Qam Qob≤10000)=true:=by kernel_rfl
theorem sco_v:Qgs Qob = [([2,0],some [0]),([2,1,0],some [2]),([2,1,1],some [2,1])]:=by kernel_rfl
theorem sco_b:Qcc (Qas Qob [2,0]) ⟨#[121]⟩=none:=by kernel_rfl
theorem sco_n:Qqn Qob [2,1,1] = [⟨#[120]⟩,⟨#[121]⟩]:=by kernel_rfl
theorem Qzc:∃ t f:Tr,Qg9 200 ⟨#[109,111,100,117,108,101,32,77,32,100,101,102,32,102,40,120,58,32,73,110,116,41,58,32,73,110,116,32,61,32,108,101,116,32,121,32,61,32,120,32,105,110,32,108,101,116,32,120,32,61,32,121,32,105,110,32,120]⟩=some (t,0,0)∧t.kids = [f]∧Qb7 f=true∧Qc2 f=true∧Qam f≤10000 ∧
  Qgs f = [([2,0],some [0]),([2,1,0],some [2]),([2,1,1],some [2,1])]∧Qcc (Qas f [2,0]) ⟨#[121]⟩=none∧(Qqn f [2,1,1]).length=2 :=
 ⟨scoTA,Qob,sco_p,sco_k,sco_s,sco_w,of_decide_eq_true sco_z,sco_v,sco_b,by rw [sco_n];rfl⟩
theorem Qjy (w:World) (p:List Int):IntsAt (w.alloc (.cells (p.map (Value.int .i64)).toArray 3)) (some ⟨w.heap.size,0,none⟩) p:=fun _ =>
 ⟨w.heap.size,0,rfl,by rw [xI];omega,fun i x hx=>by
  rw [Nat.zero_add,Lib.cell_of_heap (xH w _),List.getElem?_toArray,List.getElem?_map,hx]
  rfl⟩
theorem VRow.at {w:World} {B lo:Nat} {v:Value} {ws:List (Value × Value × Bool)} {vs:List Vrb} (h:VRow w B v ws) (hv:VarsAt w lo ws vs) {j:Nat} {z:Vrb} (hz:vs[j]? = some z):∃ (g c:Nat) (y:Value × Value × Bool),v = .slice (some ⟨g,0,none⟩) vs.length c∧B≤g∧g<w.heap.size∧ws[j]? = some y ∧
  w.cell? ⟨g,j*3,none⟩=some y.1∧w.cell? ⟨g,j*3+1,none⟩=some y.2.1∧w.cell? ⟨g,j*3+2,none⟩=some (.bool y.2.2)∧Qt2 w lo y z:=by
 have hj:=(xP.1 hz).1
 obtain ⟨y,hy⟩:∃ y,ws[j]? = some y:=⟨_,xF (by rw [hv.1];exact hj)⟩
 obtain ⟨g,c,hgv,hg,hl⟩:=World.ownsRow.form h (by rw [hv.1];omega)
 subst hgv
 have hcs:=h.cells (g:=g) rfl
 have hc:∀ (k:Nat) (x:Value),(Qdc ws)[k]? = some x→w.cell? ⟨g,k,none⟩=some x:=fun k x hx=>by
  have h:=hcs k x hx
  rw [Addr.add_lit] at h
  simp only [Nat.zero_add] at h
  exact h
 have hget:∀ (ws:List (Value × Value × Bool)) (j:Nat) (y:Value × Value × Bool),ws[j]? = some y→(Qdc ws)[j*3]? = some y.1∧(Qdc ws)[j*3+1]? = some y.2.1∧(Qdc ws)[j*3+2]? = some (.bool y.2.2):=by
  intro ws
  induction ws with
  | nil=>intro j y h;simp at h
  | cons a r ih =>
   intro j y h
   match j,h with
   | 0,h =>
    injection h with h
    subst h
    exact ⟨rfl,rfl,rfl⟩
   | j+1,h =>
    have:=ih j y h
    unfold Qdc at this ⊢
    rw [List.flatMap_cons,show (j+1)*3=j*3+3 from by omega,show j*3+3+1=j*3+1+3 from by omega,show j*3+3+2=j*3+2+3 from by omega,xX (by simp),xX (by simp),xX (by simp)]
    simpa using this
 obtain ⟨q0,q1,q2⟩:=hget ws j y hy
 exact ⟨g,c,y,by rw [hv.1],hg,hl,hy,hc _ _ q0,hc _ _ q1,hc _ _ q2,hv.2 j y z hy hz⟩
theorem Qii (w:World):Calls Tryz.prog 32 #[] w fun e w'=>e = .returned (.bool true)∧Below w.heap.size w w':=by
 obtain ⟨a,f,hpa,hk,hs,hw,hz,hv,hbi,hvi⟩:=Qzc
 have HPA:=hQ hpa
 have HK:=hQ hk
 have HS:=hQ hs
 have HW:=hQ hw
 have HZ:=hQ hz
 have HV:=hQ hv
 have HBI:=hQ hbi
 have HVI:=hQ hvi
 have HSA:=hQ (show (⟨#[109,111,100,117,108,101,32,77,32,100,101,102,32,102,40,120,58,32,73,110,116,41,58,32,73,110,116,32,61,32,108,101,116,32,121,32,61,32,120,32,105,110,32,108,101,116,32,120,32,61,32,121,32,105,110,32,120]⟩:ByteArray).size≤maxLen from Nat.le_of_ble_eq_true rfl)
 clear hpa hk hs hw hz hv hbi hvi
 go_enter Tryz.func32,Tryz.ntmps32
 go_wp2_with fail
 go_at_call 44
 refine (Qts (n:=200) (Nat.le_of_ble_eq_true rfl) _ HSA.out HPA.out).mono ?_
 rintro e w1 ⟨va,rfl,hta,hb1⟩
 have hkl:=hta.kl.1
 rw [HK.out] at hkl
 obtain ⟨ga,oa,hka⟩:=hta.addr.resolve_left (by rw [HK.out];simp)
 obtain ⟨ak,ax,ala,all',alc,aka,akl,akc⟩:=va
 simp only at hkl hka
 subst hkl hka
 obtain ⟨fv,c0,c1,c2,c3,hfv⟩:=hta.at (j:=0) rfl (show a.kids[0]? = some f from by rw [HK.out];rfl)
 simp only [Nat.zero_mul,Nat.add_zero,xD,xG,Nat.zero_add] at c0 c1 c2 c3 ⊢
 have cl:=xK w1 _ c0
 have HB1:=hQ hb1
 have HFV:=hQ hfv
 have HXA:=hQ (xH w1 (trO ⟨ak,ax,ala,all',alc,some ⟨ga,oa,none⟩,1,akc⟩))
 have HBA:=hQ (Qaf w1 (trO ⟨ak,ax,ala,all',alc,some ⟨ga,oa,none⟩,1,akc⟩))
 clear hta hb1 hfv
 go_wp2_with fail
 go_at_call 36
 obtain ⟨fk,fx,fla,fll,flc,fka,fkl,fkc⟩:=fv
 refine (Qfn _ f ⟨fk,fx,fla,fll,flc,fka,fkl,fkc⟩ _ (HFV.out.keep HBA.out) HS.out HW.out HZ.out).mono ?_
 rintro e w2 ⟨r,ws,rfl,hvr,hva,hb2⟩
 rw [HV.out] at hva
 obtain ⟨g,vc,y0,rfl,hgB,hgl,hy0,p00,p01,p02,hv0⟩:=hvr.at hva (j:=0) rfl
 obtain ⟨g2,vc2,y2,hgg,_,_,hy2,p20,p21,p22,hv2⟩:=hvr.at hva (j:=2) rfl
 injection hgg with hgg1 hgg2 hgg3
 injection hgg1 with hgg1
 injection hgg1 with hgg1
 subst hgg1 hgg3
 have HB2:=hQ hb2
 have HB12:=hQ (HBA.out.trans (hb2.mono HBA.out.size))
 have HX2:=hQ ((hb2.block _ (Qab HXA.out)).trans HXA.out)
 have HFV2:=hQ (HFV.out.keep HB12.out)
 obtain ⟨b0v,hb0e,hb0r,hb0f⟩:∃ v,y0.2.1=v∧IRow w2 (w1.alloc (trO ⟨ak,ax,ala,all',alc,some ⟨ga,oa,none⟩,1,akc⟩)).heap.size v [0]∧y0.2.2=false:=by
  rcases hv0.2 with ⟨h,_⟩|⟨q,h1,h2,h3⟩
  ·cases h
  ·injection h1 with h1
   subst h1
   exact ⟨_,rfl,h2,h3⟩
 obtain ⟨b2v,hb2e,hb2r,hb2f⟩:∃ v,y2.2.1=v∧IRow w2 (w1.alloc (trO ⟨ak,ax,ala,all',alc,some ⟨ga,oa,none⟩,1,akc⟩)).heap.size v [2,1]∧y2.2.2=false:=by
  rcases hv2.2 with ⟨h,_⟩|⟨q,h1,h2,h3⟩
  ·cases h
  ·injection h1 with h1
   subst h1
   exact ⟨_,rfl,h2,h3⟩
 obtain ⟨B0,n0,q0,rfl⟩:=hb0r.slice
 obtain ⟨B2,n2,q2,rfl⟩:=hb2r.slice
 obtain ⟨hn0,hi0⟩:=hb0r.ints
 obtain ⟨hn2,hi2⟩:=hb2r.ints
 subst hn0 hn2
 rw [hb0e] at p01
 rw [hb2e] at p21
 rw [hb0f] at p02
 have HI0:=hQ hi0
 have HI2:=hQ hi2
 have HP01:=hQ p01
 have HP02:=hQ p02
 have HP21:=hQ p21
 have HC0:=hQ c0
 have HC1:=hQ c1
 have HC2:=hQ c2
 have HC3:=hQ c3
 have HCL:=hQ cl
 have HGL:=hQ hgl
 have LAY:Hid (∀ W:World,Below w2.heap.size w2 W→W.cell? ⟨w1.heap.size,3,none⟩=some (.slice (some ⟨ga,oa,none⟩) 1 akc)∧W.cell? ⟨ga,oa,none⟩=some (.int .i64 fk)∧W.cell? ⟨ga,oa+1,none⟩=some (.string fx)∧W.cell? ⟨ga,oa+2,none⟩=some (.slice fla fll flc)∧W.cell? ⟨ga,oa+3,none⟩=some (.slice fka fkl fkc) ∧
   W.cell? ⟨g,0,none⟩=some y0.1∧W.cell? ⟨g,1,none⟩=some (.slice B0 [(0:Int)].length q0)∧W.cell? ⟨g,2,none⟩=some (.bool false)∧W.cell? ⟨g,7,none⟩=some (.slice B2 [(2:Int),1].length q2)∧w1.heap.size<W.heap.size∧ga<W.heap.size∧g<W.heap.size):=hQ fun W hb=>by
  have hx:=(hb.block _ (Qab HX2.out)).trans HX2.out
  have hl2:=xE HCL.out HB12.out.size
  have hk:∀ o v,w1.cell? ⟨ga,o,none⟩=some v→W.cell? ⟨ga,o,none⟩=some v:=fun o v hv=>(hb.cell (p:=⟨ga,o,none⟩) hl2).trans ((HB12.out.cell (p:=⟨ga,o,none⟩) HCL.out).trans hv)
  have hg:∀ o v,w2.cell? ⟨g,o,none⟩=some v→W.cell? ⟨g,o,none⟩=some v:=fun o v hv=>(hb.cell (p:=⟨g,o,none⟩) HGL.out).trans hv
  exact ⟨Qaa hx 3 _ rfl,hk _ _ HC0.out,hk _ _ HC1.out,hk _ _ HC2.out,hk _ _ HC3.out,hg _ _ p00,hg _ _ HP01.out,hg _ _ HP02.out,hg _ _ HP21.out,Qab hx,xE hl2 hb.size,xE HGL.out hb.size⟩
 have HEND:=hQ (HB1.out.trans (HB12.out.mono HB1.out.size))
 clear hva hvr hb2 hv0 hv2 hi0 hi2 p00 p01 p02 p20 p21 p22 c0 c1 c2 c3 cl hb0f hb2f hb0r hb2r hb0e hb2e hy0 hy2 hgB hgl hgg2
 obtain ⟨l1,l2,l3,l4,l5,l6,l7,l8,l9,l10,l11,l12⟩:=LAY.out w2 (xC _ _)
 go_wp2_with fail
 go_at_call 33
 have HB3:=hQ (Qaf w2 (.cells #[.int .i64 2,.int .i64 0] 3))
 refine (Qlt _ f ⟨fk,fx,fla,fll,flc,fka,fkl,fkc⟩ (some ⟨w2.heap.size,0,none⟩) 2 [2,0] ⟨#[121]⟩ _ (HFV2.out.keep HB3.out) HS.out HW.out HZ.out (Qjy w2 [2,0]) (by decide) (by decide)).mono ?_
 rw [HBI.out]
 rintro e w4 ⟨hb4,rfl⟩
 have HB4:=hQ (HB3.out.trans (hb4.mono HB3.out.size))
 clear l1 l2 l3 l4 l5 l6 l7 l8 l9 l10 l11 l12 hb4
 obtain ⟨l1,l2,l3,l4,l5,l6,l7,l8,l9,l10,l11,l12⟩:=LAY.out w4 HB4.out
 go_wp2_with fail
 go_at_call 31
 have HB5:=hQ (HB4.out.trans ((Qaf w4 (.cells #[.int .i64 0] 3)).mono HB4.out.size))
 refine (Qfh B0 (some ⟨w4.heap.size,0,none⟩) q0 1 [0] [0] _ (HI0.out.keep HB5.out) (Qjy w4 [0]) (Nat.le_of_ble_eq_true rfl) (Nat.le_of_ble_eq_true rfl)).mono ?_
 rw [show Qde [0] [0] = true from rfl]
 rintro e w6 ⟨rfl,hb6⟩
 have HB6:=hQ (HB5.out.trans (hb6.mono HB5.out.size))
 clear l1 l2 l3 l4 l5 l6 l7 l8 l9 l10 l11 l12 hb6
 obtain ⟨l1,l2,l3,l4,l5,l6,l7,l8,l9,l10,l11,l12⟩:=LAY.out w6 HB6.out
 go_wp2_with fail
 go_at_call 31
 have HB7:=hQ (HB6.out.trans ((Qaf w6 (.cells #[.int .i64 2,.int .i64 1] 3)).mono HB6.out.size))
 refine (Qfh B2 (some ⟨w6.heap.size,0,none⟩) q2 2 [2,1] [2,1] _ (HI2.out.keep HB7.out) (Qjy w6 [2,1]) (Nat.le_of_ble_eq_true rfl) (Nat.le_of_ble_eq_true rfl)).mono ?_
 rw [show Qde [2,1] [2,1] = true from rfl]
 rintro e w8 ⟨rfl,hb8⟩
 have HB8:=hQ (HB7.out.trans (hb8.mono HB7.out.size))
 clear l1 l2 l3 l4 l5 l6 l7 l8 l9 l10 l11 l12 hb8
 obtain ⟨l1,l2,l3,l4,l5,l6,l7,l8,l9,l10,l11,l12⟩:=LAY.out w8 HB8.out
 go_wp2_with fail
 go_at_call 39
 have HB9:=hQ (HB8.out.trans ((Qaf w8 (.cells #[.int .i64 2,.int .i64 1,.int .i64 1] 3)).mono HB8.out.size))
 refine (Qhk _ f ⟨fk,fx,fla,fll,flc,fka,fkl,fkc⟩ (some ⟨w8.heap.size,0,none⟩) 3 [2,1,1] _ (HFV2.out.keep HB9.out) HS.out HW.out HZ.out (Qjy w8 [2,1,1]) (by decide) (by decide)).mono ?_
 rintro e w10 ⟨r,rfl,hr,hb10⟩
 have hlen:=HVI.out
 obtain ⟨NA,nc,rfl⟩:=Qbe hr
 rw [hlen]
 have HB10:=hQ (HB9.out.trans (hb10.mono HB9.out.size))
 clear hr hlen hb10
 go_wp2_with fail
 go_ret
 exact ⟨rfl,HEND.out.trans (HB10.out.mono HEND.out.size)⟩
end Go.Proofs.YtjidpkcjpgdafaaGreat
