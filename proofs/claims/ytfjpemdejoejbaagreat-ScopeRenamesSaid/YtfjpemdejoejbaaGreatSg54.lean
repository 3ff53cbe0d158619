/- Part 54 -/
import Derived.Test.YtfjpemdejoejbaaGreatSg53
set_option maxRecDepth 100000
set_option maxHeartbeats 4000000
namespace Go.Proofs.YtfjpemdejoejbaaGreat
open Go.RowKit Go.Shelf
def GBox (f:Tr) (b:List Int) (k:Nat) (w:World) (s9:Value) (wx:World):Prop:=∃ (g:Nat) (u:TV) (S:Nat→Prop),s9 = .pointer (some ⟨g,0,none⟩)∧w.heap.size≤g∧wx.heap[g]? = some (trO u)∧(∀ j,S j→j≠g)∧TrAt S wx (Qe4 (Qlp f b k) qx f []) u∧Below w.heap.size w wx
theorem Qxx {f:Tr} {q:List Int} {W w7:World} {u:TV} {S:Nat→Prop} {k:Nat} (hS:∀ j,S j→W.heap.size≤j∧j<w7.heap.size) (hu:TrAt S w7 (Qe4 (Qlp f q k) qx f []) u) (hb:Below W.heap.size W w7):GBox f q k W (.pointer (some ⟨w7.heap.size,0,none⟩)) (w7.alloc (trO u)) :=
 ⟨w7.heap.size,u,S,rfl,hb.size,xH _ _,fun j hj e=>by have:=(hS j hj).2;omega,hu.keep (Qas _ _),hb.alloc hb.size _⟩
theorem Zca {f:Tr} {q:List Int} {W w7:World} {u:TV} {S:Nat→Prop} {k:Nat} (hz:w7.heap[W.heap.size]? = some (trO ⟨0,⟨#[]⟩,none,0,0,none,0,0⟩)) (hS:∀ j,S j→W.heap.size+1≤j∧j<w7.heap.size) (hu:TrAt S w7 (Qe4 (Qlp f q k) qx f []) u) (hb:Below W.heap.size W w7):GBox f q k W (.pointer (some ⟨W.heap.size,0,none⟩)) (Qeg w7 W.heap.size u) :=
 ⟨W.heap.size,u,S,rfl,xA _,Qfw u hz,fun j hj e=>by have:=(hS j hj).1;omega,TrAt.move (fun b hb=>hb) (fun b hb _=>Qa1 u (by have:=(hS b hb).1;omega)) _ _ hu,hb.trans (Qbk w7 W.heap.size u)⟩
theorem Qrv {f:Tr} (h:0<(Qfo f).length):Qfx f=true:=by
 unfold Qfo at h
 split at h
 ·assumption
 ·simp at h
theorem Qtv {f o:Tr} {q:List Int} (ho:Qaz f q=some o):(Qpu q f (.mk o.kind qx o.leads o.kids)).getD Qlq=Qe4 (Qlp f q 0) qx f []:=by
 rw [Qtu qx q f o [] ho,Zb5];rfl
theorem Qrw (A:Option Addr) (c:Nat) (xs:List Int) (which:Int) (w:World) (hx:IntsAt w A xs) :
  Calls Tryz.prog 5 #[.slice A xs.length c,.int .i64 which] w fun e w'=>e = .returned (.bool true)∧Below w.heap.size w w':=by
 by_cases hl:xs.length≤120
 ·have d0:=xS hl;have HP:=hQ (Qpq A c xs w hx hl);have mixedL:Tryz.prog.follows Departure.mixedOrders=true:=mixed;clear hx hl
  go_enter Tryz.func5,Tryz.ntmps5
  go_wp2_with (first | (go_at_call 15;refine (Qrl _ _ _ _).mono ?_;rintro e w0 ⟨rfl,h0⟩;rw [h0];clear h0 w0) | fail)
  go_at_call 19;refine HP.out.mono ?_;rintro e w2 ⟨l2,w1,ps,rfl,hlen,hgood,hfr,hb12,hb2⟩;obtain ⟨FA,fc,rfl⟩:=hfr.slice;have HFR:=hQ hfr;have HB12:=hQ hb12;have HB2:=hQ hb2;have HFF:=hQ (fun f (h:f∈Qpp ps)=>And.intro (Zb0 hlen hgood h) (And.intro (Zhe hlen hgood h) (Zhf hgood h)));obtain ⟨fs,hfs⟩:∃ fs,fs=Qpp ps:=⟨_,rfl⟩
  have hfl:fs.length≤1056:=by
   rw [hfs];have h1:=Qtq ps;have h2:=Qkl ps hgood;have h3:352*ps.length≤352*3:=Nat.mul_le_mul_left _ hlen;omega
  rw [←hfs] at HFR HFF ⊢;have hfi:(fs.length:Int)≤1056:=by omega
  clear hfr hb12 hb2 hlen hgood hfs hfl;go_wp2_with fail
  go_loopw [6] (fun i wr=>∃ q:Nat,i = .int .i64 (q:Int)∧q≤fs.length∧Below w2.heap.size w2 wr) (fun i _=>fs.length-(intOf i).toNat)
  case atStart=>exact ⟨0,rfl,xZ _,xC _ _⟩
  case round =>
   obtain ⟨i,rfl,hq,hb⟩:=hrel;obtain ⟨wo,hwo⟩:∃ w',w'=wr:=⟨_,rfl⟩;subst hwo;have HBR:=hQ hb;clear hb
   by_cases hlt:i<fs.length
   ·obtain ⟨f,hf⟩:∃ f,fs[i]? = some f:=⟨_,xF hlt⟩;obtain ⟨⟨f1,f2,f3,f5⟩,f4,f6⟩:=HFF.out f (yA hf);obtain ⟨-,fb,-,rfl,-⟩:=(HFR.out.later HBR.out).at hf;obtain ⟨-,-,⟨uk,ux,ula,ull,ulc,uka,ukl,ukc⟩,c0,c1,c2,c3,hu⟩:=HFR.out.in hf;simp only at c0 c1 c2 c3;have cl0:=xK w2 _ c0;have HUO:=hQ (hu.keep HBR.out);have F1:=hQ f1;have F2:=hQ f2;have F3:=hQ f3;have F4:=hQ f4;have F6:=hQ f6;obtain ⟨n,hn⟩:∃ n,n=(Qfo f).length:=⟨_,rfl⟩;have HN:=hQ hn;have HNL:=hQ (show n≤352 from by rw [hn];have h1:=Zet (t:=f);omega);have hni:(n:Int)≤352:=by have:=HNL.out;omega
    have c0:=Qfz HBR.out cl0 c0;have c1:=Qfz HBR.out cl0 c1;have c2:=Qfz HBR.out cl0 c2;have c3:=Qfz HBR.out cl0 c3;have cl:=xE cl0 HBR.out.size;have i0:(0:Int)≤(i:Int):=by omega
    have i1:(i:Int)<(fs.length:Int):=by omega
    have i2:(i:Int)+1≤1057:=by omega
    clear f1 f2 f3 f4 f5 f6 hu hf hn cl0;go_wp2_with fail
    go_at_call 20;refine (Qg4 _ f ⟨uk,ux,ula,ull,ulc,uka,ukl,ukc⟩ wo HUO.out F1.out F2.out (by have:=F3.out;omega)).mono ?_;rintro e w3 ⟨r,ws,rfl,hvr,hva,hb3⟩;obtain ⟨VA,vc,rfl⟩:=Qdq hvr;have HVR:=hQ hvr;have HVA:=hQ hva;have HB3:=hQ hb3;rw [hva.1,←HN.out];have h0:=Qfz hb3 cl c0;have h1:=Qfz hb3 cl c1;have h2:=Qfz hb3 cl c2;have h3:=Qfz hb3 cl c3;have h4:=xE cl hb3.size;clear c0 c1 c2 c3 cl hvr hva hb3;have c0:=h0;have c1:=h1;have c2:=h2;have c3:=h3;have cl:=h4;clear h0 h1 h2 h3 h4
    by_cases hz:n=0
    ·subst hz;clear c0 c1 c2 c3 cl;go_wp2_with fail
     go_roundw
     case measure=>first | (simp [intOf];done) | (simp [intOf];omega)
     case rel=>exact ⟨i+1,rfl,by omega,HBR.out.trans (HB3.out.mono HBR.out.size)⟩
    ·have n0:(0:Int)<(n:Int):=by omega
     have hz2:decide ((n:Int)=0)=false:=xR (by omega);obtain ⟨m1,m2⟩:=Qs5 which (m:=(n:Int)) n0;obtain ⟨M,hM⟩:∃ M:Nat,(M:Int)=Ze7 which n:=⟨(Ze7 which n).toNat,by omega⟩;have HMM:=hQ hM;have hMn:M<n:=by omega
     obtain ⟨z,hzz⟩:∃ z,(Qfo f)[M]? = some z:=⟨_,xF (by rw [←HN.out];exact hMn)⟩;obtain ⟨gv,gc,⟨y1,y2,y3⟩,hgv,-,gl,-,p0,p1,p2,hz1,hz2'⟩:=HVR.out.at HVA.out hzz;injection hgv with e1 e2 e3;subst e1;subst e3;clear e2;obtain ⟨PA,pn,pc,hy1⟩:=IRow.slice hz1;simp only at hy1 hz1 hz2' p0 p1 p2;subst hy1;have HZZ:=hQ hzz;have M0:(0:Int)≤(M:Int):=by omega
     have M1:(M:Int)<(n:Int):=by omega
     clear hzz hz1 m1 m2 hM
     rcases hz2' with ⟨hz3,rfl,rfl⟩|⟨q,hz3,hqr,rfl⟩
     ·clear c0 c1 c2 c3 cl hz3;go_wp2_with (go_at_call 21;refine (Qs6 which n w3 n0 (by omega)).mono ?_;rintro e w4 ⟨rfl,rfl⟩;rw [←HMM.out])
      go_roundw
      case measure=>first | (simp [intOf];done) | (simp [intOf];omega)
      case rel=>exact ⟨i+1,rfl,by omega,HBR.out.trans ((HB3.out.trans ((xC _ _).alloc HB3.out.size _)).mono HBR.out.size)⟩
     ·obtain ⟨QA,qn,qc,hy2⟩:=IRow.slice hqr;subst hy2;obtain ⟨rfl,hqi⟩:=hqr.ints;go_wp2_with (go_at_call 21;refine (Qs6 which n w3 n0 (by omega)).mono ?_;rintro e w4 ⟨rfl,rfl⟩;rw [←HMM.out])
      obtain ⟨u9,-,-,-,hbk⟩:=Qk2 (by have:=F3.out;omega) (yA HZZ.out);obtain ⟨o,ho,-,hok⟩:=hbk q hz3;have HOK:=hQ (show ∃ k,Qaz f q=some k∧(k.kind=4∨k.kind=20) from ⟨o,ho,hok⟩);have HNF:=hQ (Qtv ho);have hql:=Qkg hqr;obtain ⟨W,hW⟩:∃ W,W=w3.alloc (.cells #[.slice PA pn pc,.slice QA q.length qc,.bool false] 42):=⟨_,rfl⟩;rw [←hW];obtain ⟨D,hD⟩:∃ D,D=w3.heap.size:=⟨_,rfl⟩;rw [←hD];have HBW:=hQ (show Below w3.heap.size w3 W from by rw [hW];exact Qas w3 _);have hxd:W.heap[D]? = some (.cells #[.slice PA pn pc,.slice QA q.length qc,.bool false] 42 (0,0)):=by rw [hW,hD];exact xH w3 _
      have HXD:=hQ hxd;have HDL:=hQ (show w3.heap.size≤D from by rw [hD];exact xA _);have b1:W.cell? ⟨D,1,none⟩=some (.slice QA q.length qc):=Qab hxd 1 _ rfl;have bl:=Qaa hxd;have HBO:=hQ (HB3.out.trans (HBW.out.mono HB3.out.size));have HU6:=hQ (HUO.out.keep HBO.out);have HQ6:=hQ (hqi.keep HBW.out);have HQL:=hQ hql;have HCA:=hQ (fun (w':World) (hb:Below W.heap.size W w')=>Qrt _ f o ⟨uk,ux,ula,ull,ulc,uka,ukl,ukc⟩ QA qc q w' (HU6.out.keep hb) (HQ6.out.keep hb) hql F4.out ho);have HB66:=hQ (xC W.heap.size W);have h0:=Qfz HBW.out cl c0;have h1:=Qfz HBW.out cl c1;have h2:=Qfz HBW.out cl c2;have h3:=Qfz HBW.out cl c3;have h4:=xE cl HBW.out.size;clear c0 c1 c2 c3 cl hxd hW hD hbk u9 ho hok hql hqi hqr p0 p1 p2 gl;have c0:=h0;have c1:=h1;have c2:=h2;have c3:=h3;have cl:=h4;clear h0 h1 h2 h3 h4;have HZ3:=hQ hz3;have nw0:=World.new_ne W _ c0;have nw1:=World.new_ne W _ b1;clear hz3
      go_cut [9] (fun s9 wx=>GBox f q 0 W s9 wx)
      case first =>
       go_region_held3 (fun w'=>w'.cell? ⟨fb,i*4,none⟩=some (.int .i64 uk)∧w'.cell? ⟨fb,i*4+1,none⟩=some (.string ux)∧w'.cell? ⟨fb,i*4+2,none⟩=some (.slice ula ull ulc)∧w'.cell? ⟨fb,i*4+3,none⟩=some (.slice uka ukl ukc)∧w'.cell? ⟨D,1,none⟩=some (.slice QA q.length qc)) (first | with_reducible exact ⟨c0,c1,c2,c3,b1⟩ | go_keep) (first
        | (go_at_call 22;refine (HCA.out ((W.alloc (.cells #[.int .i64 0,.string ⟨#[]⟩,.slice none 0 0,.slice none 0 0] 25)).drew) ((HB66.out.alloc HB66.out.size _).drew)).mono ?_;rintro e w7 ⟨u,S7,rfl,hS7,hu7,hb7⟩;rw [HNF.out] at hu7;have HU7:=hQ hu7;have HS7:=hQ (show ∀ j,S7 j→W.heap.size+1≤j∧j<w7.heap.size from fun j hj=>⟨by have h:=(hS7 j hj).1;rw [show ((W.alloc (.cells #[.int .i64 0,.string ⟨#[]⟩,.slice none 0 0,.slice none 0 0] 25)).drew).heap.size=W.heap.size+1 from xI W _] at h;exact h,(hS7 j hj).2⟩);have HB7:=hQ (show Below W.heap.size W w7 from (((xC W.heap.size W).alloc (xA _) (.cells #[.int .i64 0,.string ⟨#[]⟩,.slice none 0 0,.slice none 0 0] 25)).drew).trans (hb7.mono (by show _≤(W.alloc _).heap.size;rw [xI];omega)));have hzb:=(show w7.heap[W.heap.size]? = some (.cells #[.int .i64 0,.string ⟨#[]⟩,.slice none 0 0,.slice none 0 0] 25 (0,0)) from (hb7.block _ (by show _<(W.alloc _).heap.size;rw [xI];omega)).trans (xH W _));have HZB:=hQ hzb;have zf:∀ o,w7.frozen? ⟨W.heap.size,o,none⟩=false:=(fun o=>xL hzb _);have zl:=Qaa hzb;have z0:w7.cell? ⟨W.heap.size,0,none⟩=some (.int .i64 0):=Qab hzb 0 _ rfl;have z1:w7.cell? ⟨W.heap.size,1,none⟩=some (.string ⟨#[]⟩):=Qab hzb 1 _ rfl;have z2:w7.cell? ⟨W.heap.size,2,none⟩=some (.slice none 0 0):=Qab hzb 2 _ rfl;have z3:w7.cell? ⟨W.heap.size,3,none⟩=some (.slice none 0 0):=Qab hzb 3 _ rfl;replace c0:=Qfz HB7.out cl c0;replace c1:=Qfz HB7.out cl c1;replace c2:=Qfz HB7.out cl c2;replace c3:=Qfz HB7.out cl c3;replace b1:=Qfz HB7.out bl b1;replace cl:=xE cl HB7.out.size;replace bl:=xE bl HB7.out.size;clear hb7 hu7 hS7 hzb)
        | (go_at_call 22;refine (HCA.out W.drew (HB66.out.drew)).mono ?_;rintro e w7 ⟨u,S7,rfl,hS7,hu7,hb7⟩;rw [HNF.out] at hu7;have HU7:=hQ hu7;have HS7:=hQ hS7;have HB7:=hQ (show Below W.heap.size W w7 from (show Below W.heap.size W W.drew from (xC _ _).drew).trans hb7);replace c0:=Qfz HB7.out cl c0;replace c1:=Qfz HB7.out cl c1;replace c2:=Qfz HB7.out cl c2;replace c3:=Qfz HB7.out cl c3;replace b1:=Qfz HB7.out bl b1;replace cl:=xE cl HB7.out.size;replace bl:=xE bl HB7.out.size;clear hb7 hu7 hS7))
       all_goals
        go_wp2_with fail
        go_meet
        first
         | (have hh:=HZB.out;clear hh;exact Zca HZB.out HS7.out HU7.out HB7.out)
         | exact Qxx HS7.out HU7.out HB7.out
      case rest =>
       obtain ⟨w6,hww⟩:∃ w',w'=wc:=⟨_,rfl⟩;subst hww;obtain ⟨g,u1,S7,rfl,hgl,hgb,hSg,hgt,hb6⟩:=hcut;have HGL:=hQ hgl;have HG0:=hQ (show w6.heap[g]? = some (trO u1)∧(∀ x,S7 x→x≠g)∧TrAt S7 w6 (Qe4 (Qlp f q 0) qx f []) u1∧Below W.heap.size W w6 from ⟨hgb,hSg,hgt,hb6⟩);clear hgl hgb hSg hgt hb6 c0 c1 c2 c3 b1 cl bl nw0 nw1;go_wp2_with fail
       go_loopw [10] (fun k wr=>∃ (j:Nat) (u2:TV) (S8:Nat→Prop),k = .int .i64 (j:Int)∧j≤n∧wr.heap[g]? = some (trO u2)∧(∀ x,S8 x→x≠g)∧TrAt S8 wr (Qe4 (Qlp f q j) qx f []) u2∧Below W.heap.size W wr) (fun k _=>n-(intOf k).toNat)
       case atStart=>exact ⟨0,u1,S7,rfl,xZ _,HG0.out.1,HG0.out.2.1,HG0.out.2.2.1,HG0.out.2.2.2⟩
       case round =>
        obtain ⟨k,u2,S8,rfl,hk,hgb,hSg,hgt,hb⟩:=hrel;obtain ⟨wa,hwo⟩:∃ w',w'=wr:=⟨_,rfl⟩;subst hwo;have HGB:=hQ hgb;have HSG:=hQ hSg;have HGT:=hQ hgt;have HBA:=hQ hb;have HB3A:=hQ (HBW.out.trans (hb.mono HBW.out.size));have a0:wa.cell? ⟨g,0,none⟩=some (.int .i64 u2.kind):=Qab hgb 0 _ rfl;have a1:wa.cell? ⟨g,1,none⟩=some (.string u2.text):=Qab hgb 1 _ rfl;have a2:wa.cell? ⟨g,2,none⟩=some (.slice u2.la u2.ll u2.lc):=Qab hgb 2 _ rfl;have a3:wa.cell? ⟨g,3,none⟩=some (.slice u2.ka u2.kl u2.kc):=Qab hgb 3 _ rfl;have al:=Qaa hgb;have af:∀ o,wa.frozen? ⟨g,o,none⟩=false:=fun o=>xL hgb _
        clear hgb hSg hgt hb
        by_cases hkn:k<n
        ·obtain ⟨y,hyy⟩:∃ y,(Qfo f)[k]? = some y:=⟨_,xF (by rw [←HN.out];exact hkn)⟩;obtain ⟨gv',gc',⟨x1,x2,x3⟩,hgv,-,gl,-,p0,p1,p2,hx1,hx2⟩:=HVR.out.at HVA.out hyy;injection hgv with e1 e2 e3;injection e1 with e1;injection e1 with e1 e4 e5;subst e1;subst e3;clear e2 e4 e5;obtain ⟨XA,xn,xc,hxx⟩:=IRow.slice hx1;simp only at hxx hx1 hx2 p0 p1 p2;subst hxx;obtain ⟨rfl,hxi⟩:=hx1.ints;have hxl:=Qkg hx1;have HXI:=hQ (hxi.keep HB3A.out);have HXL:=hQ hxl;have HYY:=hQ hyy;have HRN:=hQ (Zb6 (b:=q) hyy);have p0:=Qfz HB3A.out gl p0;have p1:=Qfz HB3A.out gl p1;have p2:=Qfz HB3A.out gl p2;have pl:=xE gl HB3A.out.size;have hxd:=(HBA.out.block _ (Qaa HXD.out)).trans HXD.out;have b1:wa.cell? ⟨D,1,none⟩=some (.slice QA q.length qc):=Qab hxd 1 _ rfl;have bl:=Qaa hxd;have HQA:=hQ (HQ6.out.keep HBA.out);have k0:(0:Int)≤(k:Int):=by omega
         have k1:(k:Int)<(n:Int):=by omega
         have k2:(k:Int)+1≤353:=by omega
         clear hyy hx1 hxi hxl gl hxd
         rcases hx2 with ⟨hx3,rfl,rfl⟩|⟨r,hx3,hrr,rfl⟩
         ·have HRK:=hQ (show Qlp f q (k+1)=Qlp f q k from by rw [HRN.out,xN (by rw [hx3];simp)]);clear hx3;go_wp2_with fail
          go_quiet (fail)
          clear p0 p1 p2 b1 a0 a1 a2 a3 al bl af pl;go_wp2_with fail
          go_roundw
          case measure=>first | (simp [intOf];done) | (simp [intOf];omega)
          case rel=>exact ⟨k+1,u2,S8,rfl,by omega,HGB.out,HSG.out,by rw [HRK.out];exact HGT.out.keep (Qbu wa _),HBA.out.trans ((Qbu wa _).mono HBA.out.size)⟩
         ·obtain ⟨RA,rn,rc,hrv⟩:=IRow.slice hrr;subst hrv;obtain ⟨rfl,hri⟩:=hrr.ints;have hrl:=Qkg hrr;have hri2:=hri.keep HB3A.out
          by_cases hrq:r=q
          ·subst hrq
           have HSP:=hQ (show ∀ n',Calls Tryz.prog 23 #[.slice RA r.length rc,.slice QA r.length qc] (wa.drewN n') fun e w'=>e = .returned (.bool true)∧∃ m,w'=(wa.drewN n').drewN m from fun n'=>by
            have h:=Qhk RA QA rc qc r r (wa.drewN n') (hri2.keep (Qbu wa n')) (HQA.out.keep (Qbu wa n')) hrl hrl;rw [Qh4] at h;exact h)
           have HRK:=hQ (show Qlp f r (k+1)=fun p=>Qlp f r k p || decide (p=y.1) from by rw [HRN.out,xO hx3]);clear hrr hri hrl hri2 hx3;go_wp2_with fail
           go_quiet ((go_at_call 23;with_reducible exact Calls.quiet_of (HSP.out _)))
           go_wp2_with fail
           obtain ⟨u9,hu9,-,-,-⟩:=Qk2 (t:=f) (by have:=F3.out;omega) (yA HYY.out);obtain ⟨o,ho⟩:=Zb8 (P:=Qlp f r k) (y:=qx) hu9;have HNR:=hQ (show (Qpu y.1 (Qe4 (Qlp f r k) qx f []) (.mk o.kind qx o.leads o.kids)).getD Qlq=Qe4 (Qlp f r (k+1)) qx f [] from by rw [Zb7 ho,HRK.out];rfl);obtain ⟨WB,hWB⟩:∃ WB,WB=wa.drewN nq:=⟨_,rfl⟩;rw [←hWB];have HBB:=hQ (show Below wa.heap.size wa WB from by rw [hWB];exact Qbu wa nq);have HZB:=hQ (show WB.heap.size=wa.heap.size from by rw [hWB];rfl);have HCB:=hQ (fun (w':World) (hb:Below wa.heap.size wa w')=>Qrt S8 (Qe4 (Qlp f r k) qx f []) o u2 XA xc y.1 w' (HGT.out.keep hb) (HXI.out.keep hb) HXL.out (by rw [Zb4];exact F4.out) ho);have hgw:=(HBB.out.block g al).trans HGB.out;have HGW:=hQ hgw;have h0:=Qfz HBB.out pl p0;have hpl:=xE pl HBB.out.size;clear p0 p1 p2 b1 a0 a1 a2 a3 al bl af pl hu9 ho hWB;have p0:=h0;have pl:=hpl;have a0:WB.cell? ⟨g,0,none⟩=some (.int .i64 u2.kind):=Qab hgw 0 _ rfl;have a1:WB.cell? ⟨g,1,none⟩=some (.string u2.text):=Qab hgw 1 _ rfl;have a2:WB.cell? ⟨g,2,none⟩=some (.slice u2.la u2.ll u2.lc):=Qab hgw 2 _ rfl;have a3:WB.cell? ⟨g,3,none⟩=some (.slice u2.ka u2.kl u2.kc):=Qab hgw 3 _ rfl;have al:=Qaa hgw;clear h0 hpl hgw
           go_region_law (first
            | (go_simp;go_at_call 22;(first | refine (HCB.out _ HBB.out.drew).mono ?_ | refine (HCB.out _ HBB.out).mono ?_);rintro e w8 ⟨u8,S9,rfl,hS9,hu8,hb8⟩;rw [HNR.out] at hu8;have HU8:=hQ hu8;have HS9:=hQ (show ∀ j,S9 j→wa.heap.size≤j∧j<w8.heap.size from fun j hj=>⟨by have h:=(hS9 j hj).1;first | exact xQ HBB.out.size h,(hS9 j hj).2⟩);have HB8:=hQ (show Below WB.heap.size WB w8 from (by first | exact hb8 | exact (show Below WB.heap.size WB WB.drew from (xC _ _).drew).trans hb8));have hg8:=(HB8.out.block g al).trans HGW.out;have HG8:=hQ hg8;clear a0 a1 a2 a3 al p0 pl hS9 hu8 hb8;have a0:w8.cell? ⟨g,0,none⟩=some (.int .i64 u2.kind):=Qab hg8 0 _ rfl;have a1:w8.cell? ⟨g,1,none⟩=some (.string u2.text):=Qab hg8 1 _ rfl;have a2:w8.cell? ⟨g,2,none⟩=some (.slice u2.la u2.ll u2.lc):=Qab hg8 2 _ rfl;have a3:w8.cell? ⟨g,3,none⟩=some (.slice u2.ka u2.kl u2.kc):=Qab hg8 3 _ rfl;have al:=Qaa hg8;have af:∀ o,w8.frozen? ⟨g,o,none⟩=false:=(fun o=>xL hg8 _);clear hg8))
           all_goals
            go_simp
            go_wp2_with fail
            go_roundw
            case measure=>first | (simp [intOf];done) | (simp [intOf];omega)
            case rel=>exact ⟨k+1,u8,S9,rfl,by omega,Qfw u8 HG8.out,fun j hj e=>by have h1:=(HS9.out j hj).1;have h2:=Qaa HGB.out;omega,TrAt.move (fun b hb=>hb) (fun b hb _=>Qa1 u8 (by have h1:=(HS9.out b hb).1;have h2:=Qaa HGB.out;omega)) _ _ HU8.out,HBA.out.trans ((HBB.out.trans (HB8.out.mono HBB.out.size)).mono HBA.out.size |>.trans ((Qbk w8 g u8).mono HGL.out))⟩
          ·have HSP:=hQ (show ∀ n',Calls Tryz.prog 23 #[.slice RA r.length rc,.slice QA q.length qc] (wa.drewN n') fun e w'=>e = .returned (.bool false)∧∃ m,w'=(wa.drewN n').drewN m from fun n'=>by
            have h:=Qhk RA QA rc qc r q (wa.drewN n') (hri2.keep (Qbu wa n')) (HQA.out.keep (Qbu wa n')) hrl HQL.out;rw [show Qd8 r q=false from by rw [Bool.eq_false_iff];exact fun h=>hrq ((Qk3 r q).1 h)] at h;exact h)
           have HRK:=hQ (show Qlp f q (k+1)=Qlp f q k from by rw [HRN.out,xN (by rw [hx3];exact fun e=>hrq (Option.some.inj e))]);clear hrr hri hrl hri2 hx3 hrq;go_wp2_with fail
           go_quiet ((go_at_call 23;with_reducible exact Calls.quiet_of (HSP.out _)))
           clear p0 p1 p2 b1 a0 a1 a2 a3 al bl af pl;go_wp2_with fail
           go_roundw
           case measure=>first | (simp [intOf];done) | (simp [intOf];omega)
           case rel=>exact ⟨k+1,u2,S8,rfl,by omega,HGB.out,HSG.out,by rw [HRK.out];exact HGT.out.keep (Qbu wa _),HBA.out.trans ((Qbu wa _).mono HBA.out.size)⟩
        ·obtain rfl:k=n:=by omega
         have HVE:=hQ (show Qfo (Qe4 (Qlp f q k) qx f [])=Qfo f from by
          have h:=(Zew (Qrv (by rw [←HN.out];omega)) (by have:=F3.out;omega) F6.out Zhg HOK.out).2;rw [←Zex,←HN.out] at h;exact h)
         clear af
         go_wp2_with (first
          | (go_at_call 20;refine (Qg4 S8 (Qe4 (Qlp f q k) qx f []) u2 wa HGT.out (by rw [Qrr];exact F1.out) (Qrs _ (by decide) f [] F2.out) (by rw [Qpt];have:=F3.out;omega)).mono ?_;rintro e w8 ⟨r8,ws8,rfl,hv8,ha8,hb8⟩;obtain ⟨VB,vcb,rfl⟩:=Qdq hv8;rw [HVE.out] at ha8;rw [ha8.1,←HN.out];have HV8:=hQ hv8;have HA8:=hQ ha8;have HB8:=hQ hb8;clear hv8 ha8 hb8)
          | (go_at_call 24;refine (Zeu VB (some ⟨gv,0,none⟩) vcb vc _ _ _ _ ws8 ws (Qfo f) k w8 HN.out.symm HV8.out HA8.out (Zb1 HVR.out (HB3A.out.trans (HB8.out.mono HB3A.out.size))) (HVA.out.step fun v p h=>h.keep (HB3A.out.trans (HB8.out.mono HB3A.out.size))) (by have:=HNL.out;omega)).mono ?_;rintro e w9 ⟨rfl,hb9⟩;have HB9:=hQ hb9;clear hb9))
         clear a0 a1 a2 a3 al
         go_roundw
         case measure=>first | (simp [intOf];done) | (simp [intOf];omega)
         case rel=>exact ⟨i+1,rfl,by omega,HBR.out.trans ((HB3.out.trans ((HB3A.out.trans ((HB8.out.trans (HB9.out.mono HB8.out.size)).mono HB3A.out.size)).mono HB3.out.size)).mono HBR.out.size)⟩
   ·obtain rfl:i=fs.length:=by omega
    go_wp2_with fail
    go_at_call 18;refine (Qrd _).mono ?_;rintro e w9 ⟨rfl,hb9⟩;have HB9:=hQ (HB2.out.trans ((HBR.out.trans (hb9.mono HBR.out.size)).mono HB2.out.size));clear hb9;go_wp2_with fail
    go_ret
    exact ⟨rfl,HB9.out⟩
 ·have d0:=xR hl;clear hx hl
  go_enter Tryz.func5,Tryz.ntmps5
  go_wp2_with (first | (go_at_call 15;refine (Qrl _ _ _ _).mono ?_;rintro e w0 ⟨rfl,h0⟩;rw [h0];clear h0 w0) | (go_at_call 18;refine (Qrd _).mono ?_;rintro e w9 ⟨rfl,hb9⟩;have HB9:=hQ hb9;clear hb9))
  go_ret
  exact ⟨rfl,HB9.out⟩
end Go.Proofs.YtfjpemdejoejbaaGreat
