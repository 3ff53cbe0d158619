/- Part 54 -/
import Derived.Test.YtfjpemdejoejbaaGreatTt51
import Derived.Test.YtfjpemdejoejbaaGreatTt53
set_option maxRecDepth 100000
set_option maxHeartbeats 4000000
namespace Go.Proofs.YtfjpemdejoejbaaGreat
open Go.RowKit Go.Shelf
theorem Qpz (S:Nat→Prop) (A:Option Addr) (c:Nat) (ps:List Tr) (w:World) (h:TrAt S w (Qap ps) ⟨0,⟨#[]⟩,none,0,0,A,ps.length,c⟩) (hs:Qal (Qap ps)≤140737488355328) :
  Calls Tryz.prog 6 #[.slice A ps.length c] w fun e w'=>e = .returned (.bool (decide (Qal (Qap ps)≤300)))∧Below w.heap.size w w':=by
 have HC:=hQ (Qwa (SizeOf.sizeOf (Qap ps)) S (Qap ps) ⟨0,⟨#[]⟩,none,0,0,A,ps.length,c⟩ w (xA _) h hs);have HE:=hQ (show decide (((Qal (Qap ps):Nat):Int)≤300)=decide (Qal (Qap ps)≤300) from by simp;omega);clear h hs
 go_enter Tryz.func6,Tryz.ntmps6
 go_wp2_with fail
 go_at_call 25;refine HC.out.mono ?_;rintro e w1 ⟨rfl,hb1⟩;have HB1:=hQ hb1;clear hb1;go_wp2_with fail
 go_ret
 first | exact ⟨rfl,HB1.out⟩ | exact ⟨by rw [←HE.out];rfl,HB1.out⟩ | exact ⟨Qam (by simp;omega),HB1.out⟩
theorem Qn3 {w8 w':World} {p r:Nat} {x y:TV} (hb:Below w8.heap.size w8 w') (hx:w8.heap[p]? = some (trO x)) (hy:w8.heap[r]? = some (trO y)) :
  w'.cell? ⟨p,0,none⟩=some (.int .i64 x.kind)∧w'.cell? ⟨p,1,none⟩=some (.string x.text)∧w'.cell? ⟨p,2,none⟩=some (.slice x.la x.ll x.lc)∧w'.cell? ⟨p,3,none⟩=some (.slice x.ka x.kl x.kc) ∧
  w'.cell? ⟨r,0,none⟩=some (.int .i64 y.kind)∧w'.cell? ⟨r,1,none⟩=some (.string y.text)∧w'.cell? ⟨r,2,none⟩=some (.slice y.la y.ll y.lc)∧w'.cell? ⟨r,3,none⟩=some (.slice y.ka y.kl y.kc)∧p<w'.heap.size∧r<w'.heap.size:=by
 have hx2:=(hb.block _ (Qab hx)).trans hx;have hy2:=(hb.block _ (Qab hy)).trans hy;exact ⟨Qaa hx2 0 _ rfl,Qaa hx2 1 _ rfl,Qaa hx2 2 _ rfl,Qaa hx2 3 _ rfl,Qaa hy2 0 _ rfl,Qaa hy2 1 _ rfl,Qaa hy2 2 _ rfl,Qaa hy2 3 _ rfl,Qab hx2,Qab hy2⟩
def Qn4 (a b:TV):Obj:=.cells #[.int .i64 a.kind,.string a.text,.slice a.la a.ll a.lc,.slice a.ka a.kl a.kc,.int .i64 b.kind,.string b.text,.slice b.la b.ll b.lc,.slice b.ka b.kl b.kc] 25
theorem Zbp {S:Nat→Prop} {w:World} {t u:Tr} {a b:TV} (ht:TrAt S w t a) (hu:TrAt S w u b) (_hS:∀ k,S k→k<w.heap.size):TrAt (fun k=>S k∨k=w.heap.size) (w.alloc (Qn4 a b)) (Qap [t,u]) ⟨0,⟨#[]⟩,none,0,0,some ⟨w.heap.size,0,none⟩,[t,u].length,2⟩:=by
 have ha:=Qbq w (Qn4 a b);refine Qla (us:=[a,b]) 0 ⟨#[]⟩ rfl (fun i k v hk hv=>?_) (xH w (Qn4 a b)) (.inr rfl) 2 rfl
 match i,hk,hv with
 | 0,hk,hv =>
  injection hk with hk;injection hv with hv;subst hk hv;exact TrAt.move (fun _ h=>.inl h) (fun b hb hl=>ha.block b hl) _ _ ht
 | 1,hk,hv =>
  injection hk with hk;injection hv with hv;subst hk hv;exact TrAt.move (fun _ h=>.inl h) (fun b hb hl=>ha.block b hl) _ _ hu
 | i+2,hk,_=>simp at hk
theorem Qlm (ps:List Tr):Qal (Qap ps)=1+Qak ps:=by unfold Qap;rw [Qal]
theorem Qn5 (S0 S1 S2:Nat→Prop) (A:Option Addr) (c:Nat) (ps:List Tr) (m d:Int) (t u:Tr) (tv uv:TV) (w:World) (hp:TrAt S0 w (Qap ps) ⟨0,⟨#[]⟩,none,0,0,A,ps.length,c⟩) (ht:TrAt S1 w t tv) (hu:TrAt S2 w u uv)
  (hcp:Ql8 (Qap ps)≤1048576) (hct:Ql8 t≤1048576) (hcu:Ql8 u≤1048576) (wm:W64 m) (wd:W64 d) :
  Calls Tryz.prog 3 #[.slice A ps.length c,.int .i64 m,.int .i64 d,.agg #[.int .i64 tv.kind,.string tv.text,.slice tv.la tv.ll tv.lc,.slice tv.ka tv.kl tv.kc],.agg #[.int .i64 uv.kind,.string uv.text,.slice uv.la uv.ll uv.lc,.slice uv.ka uv.kl uv.kc]] w fun e w'=>e = .returned (.bool true)∧Below w.heap.size w w':=by
 have HB0:=hQ (Qc6 w (trO tv) (trO uv));have K0:=hQ (Qch w (trO tv) (trO uv));have HPL:=hQ (TrAt.low _ _ hp);have HTL:=hQ (TrAt.low _ _ ht);have HUL:=hQ (TrAt.low _ _ hu);have HF:=hQ (Qnd _ hcp);have HW:=hQ (Qi2 _ hcp);have HTF:=hQ (Qnd _ hct);have HTW:=hQ (Qi2 _ hct);have HUF:=hQ (Qnd _ hcu);have HUW:=hQ (Qi2 _ hcu);have WM:=hQ wm;have WD:=hQ wd;have HL1:=hQ (Qpz S0 A c ps _ (hp.keep HB0.out) (by have:=Qj7 (Qap ps);omega))
 have HL2:=hQ (fun (w':World) (hb:Below w.heap.size w w')=>show Calls Tryz.prog 6 #[.slice (some ⟨w'.heap.size,0,none⟩) 2 2] (w'.alloc (Qn4 tv uv)) fun e w''=>e = .returned (.bool (decide (Qal (Qap [t,u])≤300)))∧Below (w'.alloc (Qn4 tv uv)).heap.size (w'.alloc (Qn4 tv uv)) w'' from
  Qpz _ (some ⟨w'.heap.size,0,none⟩) 2 [t,u] (w'.alloc (Qn4 tv uv)) (Zbp (S:=fun k=>k<w.heap.size) (HTL.out.keep hb) (HUL.out.keep hb) (fun k hk=>xE hk hb.size)) (by rw [Qlm,Qak,Qak,Qak];have:=Qj7 t;have:=Qj7 u;omega))
 clear hp ht hu hcp hct hcu wm wd;obtain ⟨tk,tx,tla,tll,tlc,tka,tkl,tkc⟩:=tv;obtain ⟨uk,ux,ula,ull,ulc,uka,ukl,ukc⟩:=uv
 by_cases h1:Qal (Qap ps)≤300
 ·rw [xS h1] at HL1
  by_cases h2:Qal (Qap [t,u])≤300
  ·rw [xS h2] at HL2;have HZL:=hQ (show Qak ps≤300 from by rw [Qlm] at h1;omega)
   have HZ:=hQ (show ∀ t∈ps,Qal t≤1000 from fun t ht=>by
    obtain ⟨i,hi⟩:=List.getElem?_of_mem ht;have:=Qdn (show (Qap ps).kids[i]? = some t from hi)
    omega)
   rw [Qlm,Qak,Qak,Qak] at h2;have HTZ:=hQ (show Qal t≤1000 from by omega);have HUZ:=hQ (show Qal u≤1000 from by omega);have HL9:=hQ (show Qak ps≤90000 from by have:=HZL.out;omega);clear h1 h2
   go_enter Tryz.func3,Tryz.ntmps3
   go_wp2_with fail
   go_at_call 6;refine HL1.out.mono ?_;rintro e w1 ⟨rfl,hb1⟩;have HB1:=hQ (HB0.out.trans (hb1.mono HB0.out.size));have HT1:=hQ ((hb1.block _ (Qab K0.out.1)).trans K0.out.1);have HU1:=hQ ((hb1.block _ (Qab K0.out.2)).trans K0.out.2);have HLL:=hQ (HL2.out w1 HB1.out);obtain ⟨x0,x1,x2,x3,y0,y1,y2,y3,xl,yl⟩:=Qn3 (xC _ w1) HT1.out HU1.out;clear hb1;go_wp2_with fail
   go_at_call 6;refine HLL.out.mono ?_;rintro e w3 ⟨rfl,hb3⟩;have HA1:=hQ ((Qbq w1 (Qn4 ⟨tk,tx,tla,tll,tlc,tka,tkl,tkc⟩ ⟨uk,ux,ula,ull,ulc,uka,ukl,ukc⟩)).trans (hb3.mono (by rw [xI];omega)));have HB3:=hQ (HB1.out.trans (HA1.out.mono HB1.out.size));have HT3:=hQ ((HA1.out.block _ (Qab HT1.out)).trans HT1.out);have HU3:=hQ ((HA1.out.block _ (Qab HU1.out)).trans HU1.out);clear hb3 x0 x1 x2 x3 y0 y1 y2 y3 xl yl;obtain ⟨x0,x1,x2,x3,xl⟩:=Qdz HT3.out;go_wp2_with fail
   go_at_call 8;refine (Qjo _ _ A c ps m t ⟨tk,tx,tla,tll,tlc,tka,tkl,tkc⟩ w3 (HPL.out.keep HB3.out) HF.out HW.out HZ.out HL9.out (HTL.out.keep HB3.out) (Qdy _ HTF.out) HTW.out HTZ.out).mono ?_;rintro e w5 ⟨u5,rfl,hu5,hb5⟩;have HB5:=hQ (HB3.out.trans (hb5.mono HB3.out.size));obtain ⟨ak,ax,ala,all,alc,aka,akl,akc⟩:=u5;have HA6:=hQ (Qbq w5 (trO ⟨ak,ax,ala,all,alc,aka,akl,akc⟩));have HX6:=hQ (xH w5 (trO ⟨ak,ax,ala,all,alc,aka,akl,akc⟩));have HB6:=hQ (HB5.out.alloc HB5.out.size (trO ⟨ak,ax,ala,all,alc,aka,akl,akc⟩));have HU6:=hQ (hu5.keep HA6.out);have HT6:=hQ ((HA6.out.block _ (xE (Qab HT3.out) hb5.size)).trans ((hb5.block _ (Qab HT3.out)).trans HT3.out));have HV6:=hQ ((HA6.out.block _ (xE (Qab HU3.out) hb5.size)).trans ((hb5.block _ (Qab HU3.out)).trans HU3.out));clear hu5 hb5 x0 x1 x2 x3 xl;obtain ⟨w6,hw6⟩:∃ W,W=w5.alloc (trO ⟨ak,ax,ala,all,alc,aka,akl,akc⟩):=⟨_,rfl⟩
   go_upto_region 4 with fail
   rw [show w5.alloc (.cells #[.int .i64 ak,.string ax,.slice ala all alc,.slice aka akl akc] 25)=w6 from hw6.symm];rw [←hw6] at HA6 HX6 HB6 HU6 HT6 HV6;clear hw6;obtain ⟨x0,x1,x2,x3,xl⟩:=Qdz HT6.out;go_wp2_with fail
   go_at_call 9;refine (Qjq _ _ A c ps m t ⟨tk,tx,tla,tll,tlc,tka,tkl,tkc⟩ w6 (HPL.out.keep HB6.out) HF.out HW.out HZ.out HL9.out (HTL.out.keep HB6.out) HTF.out HTW.out HTZ.out).mono ?_;rintro e w7 ⟨u7,rfl,hu7,hb7⟩;have HB7:=hQ (HB6.out.trans (hb7.mono HB6.out.size));obtain ⟨bk,bx,bla,bll,blc,bka,bkl,bkc⟩:=u7;have HA8:=hQ (Qbq w7 (trO ⟨bk,bx,bla,bll,blc,bka,bkl,bkc⟩));have HY8:=hQ (xH w7 (trO ⟨bk,bx,bla,bll,blc,bka,bkl,bkc⟩));have HB8:=hQ (HB7.out.alloc HB7.out.size (trO ⟨bk,bx,bla,bll,blc,bka,bkl,bkc⟩));have HW8:=hQ (hu7.keep HA8.out);have HU8:=hQ ((HU6.out.keep hb7).keep HA8.out);have HX8:=hQ ((HA8.out.block _ (xE (Qab HX6.out) hb7.size)).trans ((hb7.block _ (Qab HX6.out)).trans HX6.out));have HT8:=hQ ((HA8.out.block _ (xE (Qab HT6.out) hb7.size)).trans ((hb7.block _ (Qab HT6.out)).trans HT6.out));have HV8:=hQ ((HA8.out.block _ (xE (Qab HV6.out) hb7.size)).trans ((hb7.block _ (Qab HV6.out)).trans HV6.out));clear hu7 hb7 x0 x1 x2 x3 xl;obtain ⟨w8,hw8⟩:∃ W,W=w7.alloc (trO ⟨bk,bx,bla,bll,blc,bka,bkl,bkc⟩):=⟨_,rfl⟩
   go_upto_region 5 with fail
   rw [show w7.alloc (.cells #[.int .i64 bk,.string bx,.slice bla bll blc,.slice bka bkl bkc] 25)=w8 from hw8.symm];rw [←hw8] at HA8 HY8 HB8 HW8 HU8 HX8 HT8 HV8;clear hw8;have HSAME:=hQ (fun (w':World) (hb:Below w8.heap.size w8 w')=>Qou _ _ _ (exT ps m t) (exT ps m t) ⟨ak,ax,ala,all,alc,aka,akl,akc⟩ ⟨bk,bx,bla,bll,blc,bka,bkl,bkc⟩ w' (xA _) (HU8.out.keep hb) (HW8.out.keep hb) (Qs3 _ _ _));rw [Zd9] at HSAME;have HCA:=hQ (fun (w':World) (hb:Below w8.heap.size w8 w')=>Qhc _ A c ps m d w' (HPL.out.keep (HB8.out.trans (hb.mono HB8.out.size))) HF.out HW.out HZ.out HL9.out WM.out WD.out);have HCR:=hQ (fun (w':World) (hb:Below w8.heap.size w8 w')=>Qpy _ A c ps m d w' (HPL.out.keep (HB8.out.trans (hb.mono HB8.out.size))) HF.out HW.out HZ.out HL9.out);have HEA:=hQ (fun (w':World) (hb:Below w8.heap.size w8 w')=>Qyj _ _ _ A c ps m d t u ⟨tk,tx,tla,tll,tlc,tka,tkl,tkc⟩ ⟨uk,ux,ula,ull,ulc,uka,ukl,ukc⟩ w' (HPL.out.keep (HB8.out.trans (hb.mono HB8.out.size))) HF.out HW.out HZ.out HL9.out (HTL.out.keep (HB8.out.trans (hb.mono HB8.out.size))) (Qdy _ HTF.out) HTW.out HTZ.out (HUL.out.keep (HB8.out.trans (hb.mono HB8.out.size))) (Qdy _ HUF.out) HUW.out HUZ.out);have HER:=hQ (fun (w':World) (hb:Below w8.heap.size w8 w')=>Qy2 _ _ _ A c ps m d t u ⟨tk,tx,tla,tll,tlc,tka,tkl,tkc⟩ ⟨uk,ux,ula,ull,ulc,uka,ukl,ukc⟩ w' (HPL.out.keep (HB8.out.trans (hb.mono HB8.out.size))) HF.out HW.out HZ.out HL9.out (HTL.out.keep (HB8.out.trans (hb.mono HB8.out.size))) HTF.out HTW.out HTZ.out (HUL.out.keep (HB8.out.trans (hb.mono HB8.out.size))) HUF.out HUW.out HUZ.out);obtain ⟨C,hC⟩:∃ C,C=Qh3 ps m d:=⟨_,rfl⟩;obtain ⟨E,hE⟩:∃ E,E=eqG ps m t d u:=⟨_,rfl⟩;obtain ⟨F,hF⟩:∃ F,F=(Qbv ps m t).1:=⟨_,rfl⟩;rw [←hC] at HCA HCR;rw [←hE] at HEA HER;rw [←hF];clear hC hE hF;have g0:(F==F)=true:=by simp
   have g1:(C==C)=true:=by simp
   have g2:(E==E)=true:=by simp
   have HLT:=hQ (fun (w':World) (hb:Below w8.heap.size w8 w')=>Qn3 hb HT8.out HV8.out);have HLX:=hQ (fun (w':World) (hb:Below w8.heap.size w8 w')=>Qn3 hb HX8.out HY8.out);obtain ⟨x0,x1,x2,x3,y0,y1,y2,y3,xl,yl⟩:=HLX.out w8 (xC _ _);obtain ⟨t0,t1,t2,t3,u0,u1,u2,u3,tl,ul⟩:=HLT.out w8 (xC _ _);have mixedL:Tryz.prog.follows Departure.mixedOrders=true:=mixed
   go_region_held3 (fun w'=>w'.cell? ⟨w5.heap.size,0,none⟩=some (.int .i64 ak)∧w'.cell? ⟨w5.heap.size,1,none⟩=some (.string ax)∧w'.cell? ⟨w5.heap.size,2,none⟩=some (.slice ala all alc)∧w'.cell? ⟨w5.heap.size,3,none⟩=some (.slice aka akl akc)∧w'.cell? ⟨w7.heap.size,0,none⟩=some (.int .i64 bk)∧w'.cell? ⟨w7.heap.size,1,none⟩=some (.string bx)∧w'.cell? ⟨w7.heap.size,2,none⟩=some (.slice bla bll blc)∧w'.cell? ⟨w7.heap.size,3,none⟩=some (.slice bka bkl bkc)∧w'.cell? ⟨w.heap.size,0,none⟩=some (.int .i64 tk)∧w'.cell? ⟨w.heap.size,1,none⟩=some (.string tx)∧w'.cell? ⟨w.heap.size,2,none⟩=some (.slice tla tll tlc)∧w'.cell? ⟨w.heap.size,3,none⟩=some (.slice tka tkl tkc)∧w'.cell? ⟨w.heap.size+1,0,none⟩=some (.int .i64 uk)∧w'.cell? ⟨w.heap.size+1,1,none⟩=some (.string ux)∧w'.cell? ⟨w.heap.size+1,2,none⟩=some (.slice ula ull ulc)∧w'.cell? ⟨w.heap.size+1,3,none⟩=some (.slice uka ukl ukc)) (first | with_reducible exact ⟨x0,x1,x2,x3,y0,y1,y2,y3,t0,t1,t2,t3,u0,u1,u2,u3⟩ | go_keep) (first
    | (go_at_call 7;refine (Qlk _).mono ?_;rintro e w9 ⟨rfl,hb9⟩;have HB9:=hQ ((show Below w8.heap.size w8 _ from (xC _ _).drew).trans hb9);clear hb9 x0 x1 x2 x3 y0 y1 y2 y3 t0 t1 t2 t3 u0 u1 u2 u3 xl yl tl ul;obtain ⟨x0,x1,x2,x3,y0,y1,y2,y3,xl,yl⟩:=HLX.out w9 HB9.out;obtain ⟨t0,t1,t2,t3,u0,u1,u2,u3,tl,ul⟩:=HLT.out w9 HB9.out)
    | (go_at_call 10;refine (HSAME.out _ HB9.out).mono ?_;rintro e w10 ⟨rfl,hb9⟩;have HB10:=hQ (HB9.out.trans (hb9.mono HB9.out.size));clear hb9 x0 x1 x2 x3 y0 y1 y2 y3 t0 t1 t2 t3 u0 u1 u2 u3 xl yl tl ul;obtain ⟨x0,x1,x2,x3,y0,y1,y2,y3,xl,yl⟩:=HLX.out w10 HB10.out;obtain ⟨t0,t1,t2,t3,u0,u1,u2,u3,tl,ul⟩:=HLT.out w10 HB10.out)
    | (go_at_call 11;refine (HCA.out _ HB10.out).mono ?_;rintro e w11 ⟨rfl,hb9⟩;have HB11:=hQ (HB10.out.trans (hb9.mono HB10.out.size));clear hb9 x0 x1 x2 x3 y0 y1 y2 y3 t0 t1 t2 t3 u0 u1 u2 u3 xl yl tl ul;obtain ⟨x0,x1,x2,x3,y0,y1,y2,y3,xl,yl⟩:=HLX.out w11 HB11.out;obtain ⟨t0,t1,t2,t3,u0,u1,u2,u3,tl,ul⟩:=HLT.out w11 HB11.out)
    | (go_at_call 12;refine (HCR.out _ HB11.out).mono ?_;rintro e w12 ⟨rfl,hb9⟩;have HB12:=hQ (HB11.out.trans (hb9.mono HB11.out.size));clear hb9 x0 x1 x2 x3 y0 y1 y2 y3 t0 t1 t2 t3 u0 u1 u2 u3 xl yl tl ul;obtain ⟨x0,x1,x2,x3,y0,y1,y2,y3,xl,yl⟩:=HLX.out w12 HB12.out;obtain ⟨t0,t1,t2,t3,u0,u1,u2,u3,tl,ul⟩:=HLT.out w12 HB12.out)
    | (go_at_call 13;refine (HEA.out _ HB12.out).mono ?_;rintro e w13 ⟨rfl,hb9⟩;have HB13:=hQ (HB12.out.trans (hb9.mono HB12.out.size));clear hb9 x0 x1 x2 x3 y0 y1 y2 y3 t0 t1 t2 t3 u0 u1 u2 u3 xl yl tl ul;obtain ⟨x0,x1,x2,x3,y0,y1,y2,y3,xl,yl⟩:=HLX.out w13 HB13.out;obtain ⟨t0,t1,t2,t3,u0,u1,u2,u3,tl,ul⟩:=HLT.out w13 HB13.out)
    | (go_at_call 14;refine (HER.out _ HB13.out).mono ?_;rintro e w14 ⟨rfl,hb9⟩;have HB14:=hQ (HB13.out.trans (hb9.mono HB13.out.size));clear hb9 x0 x1 x2 x3 y0 y1 y2 y3 t0 t1 t2 t3 u0 u1 u2 u3 xl yl tl ul;obtain ⟨x0,x1,x2,x3,y0,y1,y2,y3,xl,yl⟩:=HLX.out w14 HB14.out;obtain ⟨t0,t1,t2,t3,u0,u1,u2,u3,tl,ul⟩:=HLT.out w14 HB14.out))
   all_goals
    clear x0 x1 x2 x3 y0 y1 y2 y3 t0 t1 t2 t3 u0 u1 u2 u3
    go_wp2
    go_ret
    exact ⟨rfl,HB8.out.trans (HB14.out.mono HB8.out.size)⟩
  ·rw [xR h2] at HL2;clear h1 h2
   go_enter Tryz.func3,Tryz.ntmps3
   go_wp2_with fail
   go_at_call 6;refine HL1.out.mono ?_;rintro e w1 ⟨rfl,hb1⟩;have HB1:=hQ (HB0.out.trans (hb1.mono HB0.out.size));have HT1:=hQ ((hb1.block _ (Qab K0.out.1)).trans K0.out.1);have HU1:=hQ ((hb1.block _ (Qab K0.out.2)).trans K0.out.2);have HLL:=hQ (HL2.out w1 HB1.out);obtain ⟨x0,x1,x2,x3,y0,y1,y2,y3,xl,yl⟩:=Qn3 (xC _ w1) HT1.out HU1.out;clear hb1;go_wp2_with fail
   go_at_call 6;refine HLL.out.mono ?_;rintro e w3 ⟨rfl,hb3⟩;have HB3:=hQ (HB1.out.trans (((Qbq w1 (Qn4 ⟨tk,tx,tla,tll,tlc,tka,tkl,tkc⟩ ⟨uk,ux,ula,ull,ulc,uka,ukl,ukc⟩)).trans (hb3.mono (by rw [xI];omega))).mono HB1.out.size));clear hb3 x0 x1 x2 x3 y0 y1 y2 y3 xl yl;go_wp2_with fail
   go_at_call 7;refine (Qlk _).mono ?_;rintro e w4 ⟨rfl,hb4⟩;have HB4:=hQ (HB3.out.trans (hb4.mono HB3.out.size));clear hb4;go_wp2_with fail
   go_ret
   exact ⟨rfl,HB4.out⟩
 ·rw [xR h1] at HL1;clear h1
  go_enter Tryz.func3,Tryz.ntmps3
  go_wp2_with fail
  go_at_call 6;refine HL1.out.mono ?_;rintro e w1 ⟨rfl,hb1⟩;have HB1:=hQ (HB0.out.trans (hb1.mono HB0.out.size));clear hb1;go_wp2_with fail
  go_at_call 7;refine (Qlk _).mono ?_;rintro e w4 ⟨rfl,hb4⟩;have HB4:=hQ (HB1.out.trans (hb4.mono HB1.out.size));clear hb4;go_wp2_with fail
  go_ret
  exact ⟨rfl,HB4.out⟩
end Go.Proofs.YtfjpemdejoejbaaGreat
