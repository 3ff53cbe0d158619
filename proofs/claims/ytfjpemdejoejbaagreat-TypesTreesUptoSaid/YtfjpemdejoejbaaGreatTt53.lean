/- Part 53 -/
import Derived.Test.YtfjpemdejoejbaaGreatTt50
import Derived.Test.YtfjpemdejoejbaaGreatTt52
set_option maxRecDepth 100000
set_option maxHeartbeats 4000000
namespace Go.Proofs.YtfjpemdejoejbaaGreat
open Go.RowKit Go.Shelf
theorem bneZ {a b:Int} (h:a=b):(a != b)=false:=by simpa using h
def Zd7 (t:Tr) (w8:World) (s9:Value) (wx:World):Prop:=∃ (g:Nat) (y:TV),s9 = .pointer (some ⟨g,0,none⟩)∧wx.heap[g]? = some (trO y)∧y.kind=t.kind∧y.text=t.text∧Below w8.heap.size w8 wx
theorem Qy0 {t:Tr} {w8 w3:World} {y:TV} (hz:w3.heap[w8.heap.size]? = some (trO ⟨0,⟨#[]⟩,none,0,0,none,0,0⟩)) (h1:y.kind=t.kind) (h2:y.text=t.text) (hb:Below w8.heap.size w8 w3):Zd7 t w8 (.pointer (some ⟨w8.heap.size,0,none⟩)) (Qhu w3 w8.heap.size y) :=
 ⟨w8.heap.size,y,rfl,Qg5 y hz,h1,h2,hb.trans (Qb6 w3 w8.heap.size y)⟩
theorem Quw {t:Tr} {w8 w3:World} {y:TV} (h1:y.kind=t.kind) (h2:y.text=t.text) (hb:Below w8.heap.size w8 w3):Zd7 t w8 (.pointer (some ⟨w3.heap.size,0,none⟩)) (w3.alloc (trO y)) :=
 ⟨w3.heap.size,y,rfl,xH _ _,h1,h2,hb.alloc hb.size _⟩
abbrev set2 (w:World) (b:Nat) (x y:Int):World:=(w.setCell ⟨b,0,none⟩ (.int .i64 x)).setCell ⟨b,1,none⟩ (.int .i64 y)
theorem Qy1 {w:World} {b:Nat} {a:Pr} (x y:Int) (h:w.heap[b]? = some (arO a)):(set2 w b x y).heap[b]? = some (arO (x,y)):=Qa5 (Qa5 h rfl) rfl
theorem Qux {w:World} {b k:Nat} (x y:Int) (h:k≠b):(set2 w b x y).heap[k]? = w.heap[k]?:=(Qcy h).trans (Qcy h)
def CrL (ps:List Tr) (L:List Pr) (a0:Pr) (w:World) (ab:Nat) (v8:Value) (wr:World):Prop :=
 ∃ (f M D mc:Nat) (MA:Option Addr) (met:List Pr) (t2 k2:Tr),v8 = .slice MA met.length mc∧wr.heap[ab]? = some (arO ((M:Int),(D:Int)))∧ps[M]? = some t2∧t2.kids[D]? = some k2∧k2.kind=3∧MRow wr w.heap.size (.slice MA met.length mc) met∧(Value.slice MA met.length mc).ownBlock≠some ab ∧
  Qfz (Qdc ps) f (Qdc ps ((M:Int),(D:Int))) met=some L∧a0 ∉ met∧f+met.length=Qak ps+1∧Below w.heap.size w wr
theorem Zfl {w8 w':World} {ab pb po qb qo sb so:Nat} {p3:TV} {x y:Value} {a:Pr} (hb:Below w8.heap.size w8 w') (ha:w8.heap[ab]? = some (arO a)) (hd:w8.cell? ⟨pb,po,none⟩=some x) (he:w8.cell? ⟨qb,qo,none⟩=some y)
  (hf:w8.cell? ⟨sb,so,none⟩=some (.int .i64 p3.kind)∧w8.cell? ⟨sb,so+1,none⟩=some (.string p3.text)∧w8.cell? ⟨sb,so+2,none⟩=some (.slice p3.la p3.ll p3.lc)∧w8.cell? ⟨sb,so+3,none⟩=some (.slice p3.ka p3.kl p3.kc)) :
  w'.cell? ⟨ab,0,none⟩=some (.int .i64 a.1)∧w'.cell? ⟨ab,1,none⟩=some (.int .i64 a.2)∧w'.cell? ⟨pb,po,none⟩=some x∧w'.cell? ⟨qb,qo,none⟩=some y ∧
  w'.cell? ⟨sb,so,none⟩=some (.int .i64 p3.kind)∧w'.cell? ⟨sb,so+1,none⟩=some (.string p3.text)∧w'.cell? ⟨sb,so+2,none⟩=some (.slice p3.la p3.ll p3.lc)∧w'.cell? ⟨sb,so+3,none⟩=some (.slice p3.ka p3.kl p3.kc) ∧
  ab<w'.heap.size∧pb<w'.heap.size∧qb<w'.heap.size∧sb<w'.heap.size:=by
 have ha2:=(hb.block _ (Qab ha)).trans ha;have g1:=xK w8 _ hd;have g2:=xK w8 _ he;have g3:=xK w8 _ hf.1
 exact ⟨Qaa ha2 0 _ rfl,Qaa ha2 1 _ rfl,Qas hb g1 hd,Qas hb g2 he,Qas hb g3 hf.1,Qas hb g3 hf.2.1,Qas hb g3 hf.2.2.1,Qas hb g3 hf.2.2.2,
  Qab ha2,xE g1 hb.size,xE g2 hb.size,xE g3 hb.size⟩
theorem Qpy (S:Nat→Prop) (A:Option Addr) (c0:Nat) (ps:List Tr) (m d:Int) (w:World) (hp:TrAt S w (Qap ps) ⟨0,⟨#[]⟩,none,0,0,A,ps.length,c0⟩) (hf:Qe9 (Qap ps)=true) (hw:Qaz (Qap ps)=true)
  (hz:∀ t∈ps,Qal t≤1000) (hl:Qak ps≤90000) :
  Calls Tryz.prog 12 #[.slice A ps.length c0,.int .i64 m,.int .i64 d] w fun e w'=>e = .returned (.bool (Qh3 ps m d))∧Below w.heap.size w w':=by
 have HPL:=hQ hp;have HF:=hQ hf;have HW:=hQ hw;have HZ:=hQ hz;have HL:=hQ hl;have HP0:=hQ (Qk4 S A c0 ps w hp (Qdy _ hf) hz hw);clear hp hf hw hz hl;cases hg:Qb4 ps with
 | false =>
  have HV:=hQ (Qjp (m:=m) (d:=d) (.inl hg));rw [hg] at HP0;rw [HV.out];clear hg
  go_enter Tryz.func12,Tryz.ntmps12
  go_wp2_with fail
  go_at_call 29;refine HP0.out.mono ?_;rintro e w1 ⟨rfl,hb1⟩;have HB1:=hQ hb1;clear hb1;go_wp2_with fail
  go_ret
  exact ⟨rfl,HB1.out⟩
 | true =>
  rw [hg] at HP0;have HG:=hQ hg;clear hg
  by_cases h1:m<0
  ·have HV:=hQ (Qjp (ps:=ps) (m:=m) (d:=d) (.inr (Qi4 (.inl h1))));rw [HV.out]
   go_enter Tryz.func12,Tryz.ntmps12
   go_wp2_with fail
   go_at_call 29;refine HP0.out.mono ?_;rintro e w1 ⟨rfl,hb1⟩;have HB1:=hQ hb1;clear hb1;go_wp2_with fail
   go_ret
   exact ⟨rfl,HB1.out⟩
  ·by_cases h2:(ps.length:Int)≤m
   ·have HV:=hQ (Qjp (ps:=ps) (m:=m) (d:=d) (.inr (Qi4 (.inr (.inr (Zbo (by omega)))))));rw [HV.out]
    go_enter Tryz.func12,Tryz.ntmps12
    go_wp2_with fail
    go_at_call 29;refine HP0.out.mono ?_;rintro e w1 ⟨rfl,hb1⟩;have HB1:=hQ hb1;clear hb1;go_wp2_with fail
    go_ret
    exact ⟨rfl,HB1.out⟩
   ·obtain ⟨M,rfl⟩:∃ M:Nat,m=(M:Int):=⟨m.toNat,by omega⟩;have hM:M<ps.length:=by omega
    have h3:(M:Int)<(ps.length:Int):=by omega
    have h0:(0:Int)≤(M:Int):=by omega
    obtain ⟨t2,ht2⟩:∃ t,ps[M]? = some t:=⟨_,xF hM⟩;obtain ⟨pb,po,hpa⟩:∃ b off,A=some ⟨b,off,none⟩:=HPL.out.addr.resolve_left (by show ¬ ps.length=0;omega);subst hpa
    by_cases h4:d<0
    ·have HV:=hQ (Qjp (ps:=ps) (m:=(M:Int)) (d:=d) (.inr (Qi4 (.inr (.inl h4)))));rw [HV.out]
     go_enter Tryz.func12,Tryz.ntmps12
     go_wp2_with fail
     go_at_call 29;refine HP0.out.mono ?_;rintro e w1 ⟨rfl,hb1⟩;have HB1:=hQ hb1;clear hb1;go_wp2_with fail
     go_ret
     exact ⟨rfl,HB1.out⟩
    ·by_cases h5:(t2.kids.length:Int)≤d
     ·have HV:=hQ (Qjp (ps:=ps) (m:=(M:Int)) (d:=d) (.inr (Qi4 (.inr (.inr (Qyy (by rw [Int.toNat_natCast];exact ht2) (by omega)))))));rw [HV.out];have HT2:=hQ ht2;clear ht2
      go_enter Tryz.func12,Tryz.ntmps12
      go_wp2_with fail
      go_at_call 29;refine HP0.out.mono ?_;rintro e w1 ⟨rfl,hb1⟩;have HB1:=hQ hb1;clear hb1;obtain ⟨p1,_,_,_,d3,hd⟩:=(HPL.out.keep HB1.out).at rfl (show (Qap ps).kids[M]? = some t2 from HT2.out);have dl:=xK w1 _ d3;rw [hd.kl.1] at d3;clear hd;go_wp2_with fail
      go_ret
      exact ⟨rfl,HB1.out⟩
     ·obtain ⟨D,rfl⟩:∃ D:Nat,d=(D:Int):=⟨d.toNat,by omega⟩;have hD:D<t2.kids.length:=by omega
      have h6:(D:Int)<(t2.kids.length:Int):=by omega
      have h7:(0:Int)≤(D:Int):=by omega
      obtain ⟨k2,hk2⟩:∃ k,t2.kids[D]? = some k:=⟨_,xF hD⟩;have HT2:=hQ ht2;have HK2:=hQ hk2;clear ht2 hk2
      by_cases h8:k2.kind=3
      ·have HK3:=hQ h8;have n3:=bneZ h8;have HGO:=hQ (Qn0 ps ((M:Int),(D:Int)));obtain ⟨L,hL⟩:∃ L,L=Qyl ps ((M:Int),(D:Int)):=⟨_,rfl⟩;rw [←hL] at HGO;have HV:=hQ (show Qh3 ps (M:Int) (D:Int)=decide (((M:Int),(D:Int))∈L) from by unfold Qh3;rw [HG.out,hL];rfl);rw [HV.out];have v1:decide ((M:Int)<0)=false:=xR (by omega);have v2:decide (ps.length≤M)=false:=xR (by omega);have v3:decide ((D:Int)<0)=false:=xR (by omega);have v4:decide (t2.kids.length≤D)=false:=xR (by omega);clear hL h8
       go_enter Tryz.func12,Tryz.ntmps12
       go_wp2_with fail
       go_at_call 29;refine HP0.out.mono ?_;rintro e w1 ⟨rfl,hb1⟩;have HB1:=hQ hb1;clear hb1;obtain ⟨p1,_,_,_,d3,hd⟩:=(HPL.out.keep HB1.out).at rfl (show (Qap ps).kids[M]? = some t2 from HT2.out);obtain ⟨qb,qo,hqa⟩:∃ b off,p1.ka=some ⟨b,off,none⟩:=hd.addr.resolve_left (by omega);obtain ⟨p2,e0,_,_,_,he⟩:=hd.at hqa HK2.out;have dl:=xK w1 _ d3;have el:=xK w1 _ e0;rw [hqa,hd.kl.1] at d3;rw [he.kl.2.2.1] at e0;clear hd he hqa;go_wp2_with fail
       have HA1:=hQ (xH w1 (arO ((M:Int),(D:Int))));have HBA:=hQ (HB1.out.alloc HB1.out.size (arO ((M:Int),(D:Int))));clear d3 e0 dl el
       go_loopw [8] (fun v8 wr=>CrL ps L ((M:Int),(D:Int)) w w1.heap.size v8 wr) (fun v8 _=>Qak ps+1-lenV v8)
       case atStart=>exact ⟨Qak ps+1,M,D,0,none,[],t2,k2,rfl,HA1.out,HT2.out,HK2.out,HK3.out,MRow.nil _ _,(fun e=>by cases e),HGO.out,by simp,rfl,HBA.out⟩
       case round =>
        obtain ⟨f,M2,D2,mc,MA,met,t3,k3,rfl,hab,ht3,hk3,hk33,hm,hoa,hgo,hna,hfm,hb⟩:=hrel;obtain ⟨w8,hw8⟩:∃ w',w'=wr:=⟨_,rfl⟩;subst hw8;have HAB:=hQ hab;have HT3:=hQ ht3;have HK3':=hQ hk3;have HMR:=hQ hm;have HOA:=hQ hoa;have HNA:=hQ hna;have HFM:=hQ hfm;have HBR:=hQ hb;have HAL:=hQ (show w.heap.size≤w1.heap.size from HB1.out.size);obtain ⟨ta,hka,hty2,hlf,hta1,hta2,hta3⟩:=Qnv HZ.out HG.out ht3 hk3 hk33;have HS3:=hQ (show (Qg9 ps M2 D2).kind=3 from by rw [Qiz ht3 hk3];exact hk33);have hM2:=(xP.1 ht3).1;have hD2:=(xP.1 hk3).1;obtain ⟨p1,_,_,_,d3,hd⟩:=(HPL.out.keep HBR.out).at rfl (show (Qap ps).kids[M2]? = some t3 from ht3);obtain ⟨qb,qo,hqa⟩:∃ b off,p1.ka=some ⟨b,off,none⟩:=hd.addr.resolve_left (by omega);obtain ⟨p2,_,_,_,e3,he⟩:=hd.at hqa hk3;obtain ⟨sb,so,hsa⟩:∃ b off,p2.ka=some ⟨b,off,none⟩:=he.addr.resolve_left (by rw [hka];simp);obtain ⟨p3,f0,f1,f2,f3,hx⟩:=he.at hsa (show k3.kids[0]? = some ta from by rw [hka];rfl);have el1:=hd.kl.1;have el2:=he.kl.1;rw [hka] at el2;rw [hqa,el1] at d3;rw [hsa,el2] at e3;simp only [Nat.zero_mul,Nat.add_zero,List.length_singleton] at f0 f1 f2 f3 e3;have haj:k3.kids[0]? = some ta:=by rw [hka];rfl
        have HWA:=hQ ((Qa1 ((Qa1 ((Qa1 HW.out).2.2 M2 t3 ht3)).2.2 D2 k3 hk3)).2.2 0 ta haj);have HLA:=hQ (show LsT ta from ⟨hta1,hta2⟩);have HTA3:=hQ hta3;have HLE:=hQ hlf;have HGR:=hQ hgo;have HLF:=hQ (fun (w':World) (hb:Below w8.heap.size w8 w')=>Qn1 _ ta p3 w' (hx.keep hb) ⟨hta1,hta2⟩);have HLAY:=hQ (fun (w':World) (hb:Below w8.heap.size w8 w')=>Zfl (a:=((M2:Int),(D2:Int))) hb HAB.out d3 e3 ⟨f0,f1,f2,f3⟩);have i0:(0:Int)≤(M2:Int):=by omega
        have i1:(M2:Int)<(ps.length:Int):=by omega
        have i2:(0:Int)≤(D2:Int):=by omega
        have i3:(D2:Int)<(t3.kids.length:Int):=by omega
        have a0:w8.cell? ⟨w1.heap.size,0,none⟩=some (.int .i64 M2):=Qaa HAB.out 0 _ rfl;have a1:w8.cell? ⟨w1.heap.size,1,none⟩=some (.int .i64 D2):=Qaa HAB.out 1 _ rfl;have abl:=Qab HAB.out;have dl:=xK w8 _ d3;have el:=xK w8 _ e3;have fl:=xK w8 _ f0;clear hx he hd hqa hsa el1 el2 hab ht3 hk3 hk33 hm hoa hgo hna hfm hb hka hty2 hlf hta1 hta2 hta3 haj;have mixedL:Tryz.prog.follows Departure.mixedOrders=true:=mixed;have n0:=World.new_ne w8 _ a0;have n1:=World.new_ne w8 _ d3;have n2:=World.new_ne w8 _ e3;have n4:=World.new_ne w8 _ f0
        go_upto_region 5 with fail
        go_cut [9] (fun s9 wx=>Zd7 (Qav ta) w8 s9 wx)
        case first =>
         go_region_held3 (fun w'=>w'.cell? ⟨w1.heap.size,0,none⟩=some (.int .i64 M2)∧w'.cell? ⟨w1.heap.size,1,none⟩=some (.int .i64 D2)∧w'.cell? ⟨pb,po+M2*4+3,none⟩=some (.slice (some ⟨qb,qo,none⟩) t3.kids.length p1.kc)∧w'.cell? ⟨qb,qo+D2*4+3,none⟩=some (.slice (some ⟨sb,so,none⟩) 1 p2.kc)∧w'.cell? ⟨sb,so,none⟩=some (.int .i64 p3.kind)∧w'.cell? ⟨sb,so+1,none⟩=some (.string p3.text)∧w'.cell? ⟨sb,so+2,none⟩=some (.slice p3.la p3.ll p3.lc)∧w'.cell? ⟨sb,so+3,none⟩=some (.slice p3.ka p3.kl p3.kc)) (first | with_reducible exact ⟨a0,a1,d3,e3,f0,f1,f2,f3⟩ | go_keep) (first
          | (go_at_call 38;refine (HLF.out w8.drew (xC _ _).drew).mono ?_;rintro e w3 ⟨y,rfl,hy,hb3⟩;have HY1:=hQ hy.kl.2.2.1;have HY2:=hQ hy.kl.2.2.2;have HB3:=hQ (show Below w8.heap.size w8 w3 from (show Below w8.heap.size w8 w8.drew from (xC _ _).drew).trans hb3);clear a0 a1 d3 e3 f0 f1 f2 f3 abl dl el fl;obtain ⟨a0,a1,d3,e3,f0,f1,f2,f3,abl,dl,el,fl⟩:=HLAY.out w3 HB3.out;clear hb3 hy)
          | (go_at_call 38;refine (HLF.out ((w8.alloc (.cells #[.int .i64 0,.string ⟨#[]⟩,.slice none 0 0,.slice none 0 0] 25)).drew) ((xC _ _).alloc (xA _) _).drew).mono ?_;rintro e w3 ⟨y,rfl,hy,hb3⟩;have HY1:=hQ hy.kl.2.2.1;have HY2:=hQ hy.kl.2.2.2;have HB3:=hQ (show Below w8.heap.size w8 w3 from (((xC w8.heap.size w8).alloc (xA _) (.cells #[.int .i64 0,.string ⟨#[]⟩,.slice none 0 0,.slice none 0 0] 25)).drew).trans (hb3.mono (by show _≤(w8.alloc _).heap.size;rw [xI];omega)));have hzb:=(show w3.heap[w8.heap.size]? = some (.cells #[.int .i64 0,.string ⟨#[]⟩,.slice none 0 0,.slice none 0 0] 25 (0,0)) from (hb3.block _ (by show _<(w8.alloc _).heap.size;rw [xI];omega)).trans (xH w8 _));have HZB:=hQ hzb;have zf:∀ o,w3.frozen? ⟨w8.heap.size,o,none⟩=false:=(fun o=>xL hzb _);have zl:=Qab hzb;have z0:w3.cell? ⟨w8.heap.size,0,none⟩=some (.int .i64 0):=Qaa hzb 0 _ rfl;have z1:w3.cell? ⟨w8.heap.size,1,none⟩=some (.string ⟨#[]⟩):=Qaa hzb 1 _ rfl;have z2:w3.cell? ⟨w8.heap.size,2,none⟩=some (.slice none 0 0):=Qaa hzb 2 _ rfl;have z3:w3.cell? ⟨w8.heap.size,3,none⟩=some (.slice none 0 0):=Qaa hzb 3 _ rfl;clear a0 a1 d3 e3 f0 f1 f2 f3 abl dl el fl;obtain ⟨a0,a1,d3,e3,f0,f1,f2,f3,abl,dl,el,fl⟩:=HLAY.out w3 HB3.out;clear hb3 hy hzb)
          | fail)
         all_goals
          go_wp2_with fail
          go_meet
          first
           | (have hh:=HZB.out;clear hh;exact Qy0 HZB.out HY1.out HY2.out HB3.out)
           | exact Quw HY1.out HY2.out HB3.out
        case rest =>
         obtain ⟨w9,hww⟩:∃ w',w'=wc:=⟨_,rfl⟩;subst hww;obtain ⟨g9,y9,rfl,hyb,hyk,hyx,hbc⟩:=hcut;have HB9:=hQ (HBR.out.trans (hbc.mono HBR.out.size));have HB89:=hQ hbc;have HA9:=hQ ((hbc.block _ (Qab HAB.out)).trans HAB.out);clear a0 a1 abl d3 e3 f0 f1 f2 f3 dl el fl n0 n1 n2 n4 mixedL;have y0:w9.cell? ⟨g9,0,none⟩=some (.int .i64 (Qav ta).kind):=by rw [←hyk];exact Qaa hyb 0 _ rfl
         have y1:w9.cell? ⟨g9,1,none⟩=some (.string (Qav ta).text):=by rw [←hyx];exact Qaa hyb 1 _ rfl
         have ybl:=Qab hyb;have a0:w9.cell? ⟨w1.heap.size,0,none⟩=some (.int .i64 M2):=Qaa HA9.out 0 _ rfl;have abl:=Qab HA9.out;clear hyb hyk hyx hbc;have hcs:=Qe3 _ ta (xA _) HLA.out.1 HLA.out.2
         by_cases h9:(Qav ta).kind=9
         ·have n9:((Qav ta).kind != 9)=false:=by rw [h9];rfl
          have HRO:=hQ (Qfd (i:=M2) HZ.out HG.out hcs.2.2.2 h9 (xQ (Qpm _ ta (xA _) HLA.out.1 HLA.out.2) HTA3.out));have HXS:=hQ (show (Qav ta).text.size≤maxLen from Nat.le_of_lt (Qa1 (Qhl (fun t=>Qaz t=true) Qgd _ ta (xA _) HLA.out.1 HLA.out.2 HWA.out)).1);have H9:=hQ (show (Qc0 (Qg9 ps M2 D2)).kind=9 from by rw [HLE.out];exact h9);clear hcs h9;go_wp2_with fail
          go_at_call 39;refine (Qsn _ _ c0 ps M2 (Qav ta).text w9 (HPL.out.keep HB9.out) HF.out HXS.out hM2).mono ?_;rintro e w10 ⟨rfl,hb10⟩;have HB10:=hQ (HB9.out.trans (hb10.mono HB9.out.size));have HB810:=hQ (HB89.out.trans (hb10.mono HB89.out.size));have HA10:=hQ ((hb10.block _ (Qab HA9.out)).trans HA9.out);clear hb10 y0 y1 ybl a0 abl n9;have a0:w10.cell? ⟨w1.heap.size,0,none⟩=some (.int .i64 M2):=Qaa HA10.out 0 _ rfl;have a1:w10.cell? ⟨w1.heap.size,1,none⟩=some (.int .i64 D2):=Qaa HA10.out 1 _ rfl;have abl:=Qab HA10.out;have af:∀ o,w10.frozen? ⟨w1.heap.size,o,none⟩=false:=fun o=>xL HA10.out _
          rcases HRO.out with ⟨_,hr⟩|⟨M3,D3,t4,k4,hr,ht4,hk4,hk43⟩
          ·rw [hr];have HSN:=hQ (Qyw (by rw [HLE.out];exact hr));have hgr:=HGR.out;rw [HSN.out] at hgr;have HV2:=hQ (show decide (((M:Int),(D:Int))∈L)=false from xR (by rw [Qgf hgr];exact HNA.out));clear hr hgr;go_wp2_with fail
           go_ret
           rw [HV2.out];exact ⟨rfl,HB10.out.trans ((Qc9 w10 w1.heap.size 0 0).mono HAL.out)⟩
          ·rw [hr];have hst:=Qyx (r:=((M3:Int),(D3:Int))) HS3.out H9.out (by rw [HLE.out];exact hr);have hgr:=HGR.out;rw [hst] at hgr;have HGS:=hQ hgr;have HT4:=hQ ht4;have HK4:=hQ hk4;have HK43:=hQ hk43;clear hr hst hgr ht4 hk4 hk43
           go_upto_region 12 with fail
           obtain ⟨w11,hw11⟩:∃ W,W=set2 w10 w1.heap.size (M3:Int) (D3:Int):=⟨_,rfl⟩;have HA11:=hQ (show w11.heap[w1.heap.size]? = some (arO ((M3:Int),(D3:Int))) from by rw [hw11];exact Qy1 _ _ HA10.out);have HK11:=hQ (show ∀ k,k≠w1.heap.size→w11.heap[k]? = w10.heap[k]? from fun k hk=>by rw [hw11];exact Qux _ _ hk);have HB11:=hQ (show Below w.heap.size w w11 from by rw [hw11];exact HB10.out.trans ((Qc9 w10 w1.heap.size _ _).mono HAL.out));have HM11:=hQ (show MRow w11 w.heap.size (.slice MA met.length mc) met from Qys (b:=w1.heap.size) (Qe4 HMR.out HB810.out) HOA.out HK11.out);rw [show (w10.setCell ⟨w1.heap.size,0,none⟩ (.int .i64 (M3:Int))).setCell ⟨w1.heap.size,1,none⟩ (.int .i64 (D3:Int))=w11 from hw11.symm];clear hw11 a0 a1 abl af;have a0:w11.cell? ⟨w1.heap.size,0,none⟩=some (.int .i64 M3):=Qaa HA11.out 0 _ rfl;have a1:w11.cell? ⟨w1.heap.size,1,none⟩=some (.int .i64 D3):=Qaa HA11.out 1 _ rfl;have abl:=Qab HA11.out;have hG:=fun (w:World) (p q:Operand)=>run_eqGuard_agg w .eql 67 p q #[.int .i64 (M3:Int),.int .i64 (D3:Int)] #[.int .i64 (M:Int),.int .i64 (D:Int)] Qs2
           have hE:=fun (w:World)=>Zby (M3:Int) (D3:Int) (M:Int) (D:Int) w
           by_cases he:((M3:Int),(D3:Int))=((M:Int),(D:Int))
           ·have hq:((M3:Int)==(M:Int) && (D3:Int)==(D:Int))=true:=by injection he with e1 e2;rw [e1,e2];simp
            have HV2:=hQ (show decide (((M:Int),(D:Int))∈L)=true from xS (by rw [←he];exact Qyu HGS.out (by rw [he];exact HNA.out)));clear he;go_wp2_with fail
            go_ret
            rw [HV2.out];exact ⟨rfl,HB11.out⟩
           ·have hq:((M3:Int)==(M:Int) && (D3:Int)==(D:Int))=false:=Qxb (fun e=>he e.symm);have hmz:met.length≤1000000:=by have:=HFM.out;have:=HL.out;omega
            by_cases hmem:((M3:Int),(D3:Int))∈met
            ·have HCN:=hQ (Qn2 w.heap.size mc MA met M3 D3 w11 HM11.out hmz);rw [xS hmem] at HCN;have HV2:=hQ (show decide (((M:Int),(D:Int))∈L)=false from xR (by rw [Qli HGS.out hmem];exact HNA.out));clear hmem hmz he;go_wp2_with fail
             go_at_call 40;refine HCN.out.mono ?_;rintro e w12 ⟨rfl,hb12⟩;have HB12:=hQ (HB11.out.trans (hb12.mono HB11.out.size));clear hb12;go_wp2_with fail
             go_ret
             rw [HV2.out];exact ⟨rfl,HB12.out⟩
            ·have HCN:=hQ (Qn2 w.heap.size mc MA met M3 D3 w11 HM11.out hmz);rw [xR hmem] at HCN;obtain ⟨f',hf',hgo'⟩:=Qhm HGS.out hmem;have HF':=hQ hf';have HGN:=hQ hgo'
             have HNX:=hQ (show ((M:Int),(D:Int)) ∉ met ++ [((M3:Int),(D3:Int))] from fun h=>by
              rcases List.mem_append.1 h with h | h
              ·exact HNA.out h
              ·simp only [List.mem_singleton] at h;exact he h.symm)
             obtain ⟨ia,hia,az0,az1,az2⟩:=info_parts Qyn;have HM1:=hQ (show met.length+1≤maxLen from by unfold maxLen;omega);have HM2:=hQ (show (met.length+1)*16≤140737488355328 from by omega);have HON:=hQ (show ∀ u∈[Value.int .i64 (M3:Int),.int .i64 (D3:Int)],u.oneCell'=true from by intro u hu;simp at hu;rcases hu with rfl | rfl <;> rfl);clear hmem hmz he hf' hgo';go_wp2_with fail
             go_at_call 40;refine HCN.out.mono ?_;rintro e w12 ⟨rfl,hb12⟩;have HB12:=hQ (HB11.out.trans (hb12.mono HB11.out.size));have HA12:=hQ ((hb12.block _ abl).trans HA11.out);have HBA12:=hQ (Qbq w12 (arO ((M3:Int),(D3:Int))));have HRW:=hQ (MRow.keep (HM11.out.keep hb12) HBA12.out);have HNW:=hQ (xM (xH w12 (arO ((M3:Int),(D3:Int)))));have HSZ:=hQ (show w.heap.size≤(w12.alloc (arO ((M3:Int),(D3:Int)))).heap.size from by have h1:=HB12.out.size;rw [xI];omega);clear hb12 a0 a1 abl;have a0:w12.cell? ⟨w1.heap.size,0,none⟩=some (.int .i64 M3):=Qaa HA12.out 0 _ rfl;have a1:w12.cell? ⟨w1.heap.size,1,none⟩=some (.int .i64 D3):=Qaa HA12.out 1 _ rfl;have abl:=Qab HA12.out;go_wp2_with (at_builtin;refine Qec _ rfl _ _ 68 rfl w.heap.size 67 ia _ 2 16 Tryz.underlying68 hia az0 az1 az2 rfl (by decide) _ met.length (Qds met) rfl HRW.out ⟨w12.heap.size,0,none⟩ 1 1 [.int .i64 (M3:Int),.int .i64 (D3:Int)] rfl rfl HNW.out HON.out (by decide) HM1.out HM2.out HSZ.out ?_;intro g6 c6 w6 hown6 hk6 hg6 hlt6;have HO6:=hQ hown6;have HK6:=hQ hk6;have HG6:=hQ hg6;clear hown6 hk6 hg6 hlt6)
             go_roundw
             case measure =>
              show Qak ps+1-(met.length+1)<Qak ps+1-met.length
              have h1:=HFM.out;have h2:=HF'.out;omega
             case rel =>
              have hg6:(Value.slice MA met.length mc).ownBlock=some g6∨(w12.alloc (arO ((M3:Int),(D3:Int)))).heap.size≤g6:=HG6.out;have h1:=HFM.out;have h2:=HF'.out;have hle:(met ++ [((M3:Int),(D3:Int))]).length=met.length+1:=by rw [xB];rfl
              refine ⟨f',M3,D3,c6,some ⟨g6,0,none⟩,met ++ [((M3:Int),(D3:Int))],t4,k4,by rw [hle],Qge HK6.out HOA.out HA12.out,HT4.out,HK4.out,HK43.out,?_,?_,HGN.out,HNX.out,by rw [hle];omega,Qjn HB12.out HK6.out fun k hk=>(World.ownsRow.lt HRW.out k hk).1⟩
              ·unfold MRow;rw [hle,Qez];exact HO6.out
              ·intro e;have e2:g6=w1.heap.size:=by simpa [Value.ownBlock] using e
               rcases hg6 with h | h
               ·exact HOA.out (h.trans (by rw [e2]))
               ·have h5:=Qab HA12.out;rw [xI] at h;omega
         ·have b9:=Zdw h9;have HSN:=hQ (Qyv (ps:=ps) (M:=M2) (D:=D2) (by rw [HLE.out];exact h9));have hgr:=HGR.out;rw [HSN.out] at hgr;have HV2:=hQ (show decide (((M:Int),(D:Int))∈L)=false from xR (by rw [Qgf hgr];exact HNA.out));clear hgr hcs h9;go_wp2_with fail
          go_ret
          rw [HV2.out];exact ⟨rfl,HB9.out⟩
      ·have HV:=hQ (Qjp (ps:=ps) (m:=(M:Int)) (d:=(D:Int)) (.inr (Qi4 (.inr (.inr (by rw [Int.toNat_natCast,Int.toNat_natCast,Qiz HT2.out HK2.out];exact h8))))));have n3:=Zdw h8;rw [HV.out]
       go_enter Tryz.func12,Tryz.ntmps12
       go_wp2_with fail
       go_at_call 29;refine HP0.out.mono ?_;rintro e w1 ⟨rfl,hb1⟩;have HB1:=hQ hb1;clear hb1;obtain ⟨p1,_,_,_,d3,hd⟩:=(HPL.out.keep HB1.out).at rfl (show (Qap ps).kids[M]? = some t2 from HT2.out);obtain ⟨qb,qo,hqa⟩:∃ b off,p1.ka=some ⟨b,off,none⟩:=hd.addr.resolve_left (by omega);obtain ⟨p2,e0,_,_,_,he⟩:=hd.at hqa HK2.out;have dl:=xK w1 _ d3;have el:=xK w1 _ e0;rw [hqa,hd.kl.1] at d3;rw [he.kl.2.2.1] at e0;clear hd he hqa h8;go_wp2_with fail
       go_ret
       exact ⟨rfl,HB1.out⟩
end Go.Proofs.YtfjpemdejoejbaaGreat
