/- Part 44 -/
import Derived.Test.YtfjpemdejoejbaaGreatTp43
set_option maxRecDepth 100000
set_option maxHeartbeats 4000000
namespace Go.Proofs.YtfjpemdejoejbaaGreat
open Go.Proofs.Tryz Go.RowKit
theorem Qtd{f:Pr->Option Pr}:(n:Nat)->(oa:Option Pr)->(met L:List Pr)->Qhf f n oa met=some L->∀ x∈met,x∈L
 | 0,_,_,_,h=>by rw[Qhf]at h;cases h
 | n+1,none,met,L,h=>fun x hx=>by rw[Qh0 h];exact hx
 | n+1,some a,met,L,h=>fun x hx=>by
  by_cases hm:a∈met
  ·rw[Qn6 h hm];exact hx
  ·obtain⟨n',hn,h'⟩:=Qjg h hm;injection hn with hn;subst hn;exact Qtd n _ _ L h' x (List.mem_append_left _ hx)
theorem Ze0{f:Pr->Option Pr}{n:Nat}{a:Pr}{met L:List Pr}(h:Qhf f n (some a) met=some L)(hm:a ∉ met):a∈L:=by
 obtain⟨n',_,h'⟩:=Qjg h hm;exact Qtd n' _ _ L h' a (by simp)
theorem Ql3{ps:List Tr}{m d:Int}(h:Qc1 ps=false\/Qec ps (m,d)=none):Qjl ps m d=false:=by
 unfold Qjl
 rcases h with h | h
 ·rw[h];rfl
 ·have hg:=Qq2 ps (m,d);rw[h]at hg;rw[Qh0 hg];simp
theorem Qlc{ps:List Tr}{m d:Int}(h:m<0\/d<0\/(Qjj ps m.toNat d.toNat).kind≠3):Qec ps (m,d)=none:=by
 unfold Qec;rw[xN];rintro⟨h1,h2,h3,_⟩;simp only at h1 h2 h3
 rcases h with h | h | h
 ·omega
 ·omega
 ·exact h h3
theorem Ze1{ps:List Tr}{M D:Nat}(h9:(Qd4 (Qjj ps M D)).kind≠9):Qec ps ((M:Int),(D:Int))=none:=by
 unfold Qec;rw[xN];rintro⟨_,_,_,h,_⟩;exact h9 h
theorem Ze2{ps:List Tr}{M D:Nat}(hf:Qbb ps M (Qd4 (Qjj ps M D)).text=(0,0,false)):Qec ps ((M:Int),(D:Int))=none:=by
 unfold Qec;rw[xN];rintro⟨_,_,_,_,h⟩;simp only[Int.toNat_natCast]at h;rw[hf]at h;cases h
theorem Ze3{ps:List Tr}{M D:Nat}{r:Int × Int}(h3:(Qjj ps M D).kind=3)(h9:(Qd4 (Qjj ps M D)).kind=9)(hf:Qbb ps M (Qd4 (Qjj ps M D)).text=(r.1,r.2,true)):Qec ps ((M:Int),(D:Int))=some r:=by
 unfold Qec;simp only[Int.toNat_natCast];rw[hf,xO ⟨by omega,by omega,h3,h9,rfl⟩]
theorem Zh7{ps:List Tr}{m d:Nat}(h:ps.length<=m):(Qjj ps m d).kind≠3:=by
 unfold Qjj;rw[List.getElem?_eq_none h];show((noTr.kids)[d]?.getD noTr).kind≠3
 have e:noTr.kids = []:=rfl;rw[e];show noTr.kind≠3
 decide
theorem Ze4{ps:List Tr}{m d:Nat}{t:Tr}(ht:ps[m]? = some t)(h:t.kids.length<=d):(Qjj ps m d).kind≠3:=by
 unfold Qjj;rw[ht,Option.getD_some,List.getElem?_eq_none h];show noTr.kind≠3
 decide
end Go.Proofs.YtfjpemdejoejbaaGreat
namespace Go.Proofs.YtfjpemdejoejbaaGreat
open Go.Proofs.Tryz Go.RowKit Go.Shelf
theorem bneZ{a b:Int}(h:a=b):(a != b)=false:=by simpa using h
def Zk9(t:Tr)(w8:World)(s9:Value)(wx:World):Prop:=∃ (g:Nat) (y:TV),s9 = .pointer (some ⟨g,0,none⟩)/\wx.heap[g]? = some (trO y)/\y.kind=t.kind/\y.text=t.text/\Below w8.heap.size w8 wx
theorem Ze6{t:Tr}{w8 w3:World}{y:TV}(hz:w3.heap[w8.heap.size]? = some (trO ⟨0,⟨#[]⟩,none,0,0,none,0,0⟩))(h1:y.kind=t.kind)(h2:y.text=t.text)(hb:Below w8.heap.size w8 w3):Zk9 t w8 (.pointer (some ⟨w8.heap.size,0,none⟩)) (Qek w3 w8.heap.size y) :=
 ⟨w8.heap.size,y,rfl,Qf2 y hz,h1,h2,hb.trans (Qb6 w3 w8.heap.size y)⟩
theorem Qzm{t:Tr}{w8 w3:World}{y:TV}(h1:y.kind=t.kind)(h2:y.text=t.text)(hb:Below w8.heap.size w8 w3):Zk9 t w8 (.pointer (some ⟨w3.heap.size,0,none⟩)) (w3.alloc (trO y)) :=
 ⟨w3.heap.size,y,rfl,xH _ _,h1,h2,hb.alloc hb.size _⟩
abbrev Znt(w:World)(b:Nat)(x y:Int):World:=(w.setCell ⟨b,0,none⟩ (.int .i64 x)).setCell ⟨b,1,none⟩ (.int .i64 y)
theorem Ze7{w:World}{b:Nat}{a:Pr}(x y:Int)(h:w.heap[b]? = some (arO a)):(Znt w b x y).heap[b]? = some (arO (x,y)):=Qa1 (Qa1 h rfl) rfl
theorem Qzn{w:World}{b k:Nat}(x y:Int)(h:k≠b):(Znt w b x y).heap[k]? = w.heap[k]?:=(Qaq h).trans (Qaq h)
def CrL(ps:List Tr)(L:List Pr)(a0:Pr)(w:World)(ab:Nat)(v8:Value)(wr:World):Prop :=
 ∃ (f M D mc:Nat) (MA:yE) (met:List Pr) (t2 k2:Tr),v8 = .slice MA met.length mc/\wr.heap[ab]? = some (arO ((M:Int),(D:Int)))/\ps[M]? = some t2/\t2.kids[D]? = some k2/\k2.kind=3/\MRow wr w.heap.size (.slice MA met.length mc) met/\(Value.slice MA met.length mc).ownBlock≠some ab /\
  Qhf (Qec ps) f (Qec ps ((M:Int),(D:Int))) met=some L/\a0 ∉ met/\f+met.length=Qal ps+1/\Below w.heap.size w wr
theorem Zmx{w8 w':World}{ab pb po qb qo sb so:Nat}{p3:TV}{x y:Value}{a:Pr}(hb:Below w8.heap.size w8 w')(ha:w8.heap[ab]? = some (arO a))(hd:w8.cell? ⟨pb,po,none⟩=some x)(he:w8.cell? ⟨qb,qo,none⟩=some y)
  (hf:w8.cell? ⟨sb,so,none⟩=some (.int .i64 p3.kind)/\w8.cell? ⟨sb,so+1,none⟩=some (.string p3.text)/\w8.cell? ⟨sb,so+2,none⟩=some (.slice p3.la p3.ll p3.lc)/\w8.cell? ⟨sb,so+3,none⟩=some (.slice p3.ka p3.kl p3.kc)) :
  w'.cell? ⟨ab,0,none⟩=some (.int .i64 a.1)/\w'.cell? ⟨ab,1,none⟩=some (.int .i64 a.2)/\w'.cell? ⟨pb,po,none⟩=some x/\w'.cell? ⟨qb,qo,none⟩=some y /\
  w'.cell? ⟨sb,so,none⟩=some (.int .i64 p3.kind)/\w'.cell? ⟨sb,so+1,none⟩=some (.string p3.text)/\w'.cell? ⟨sb,so+2,none⟩=some (.slice p3.la p3.ll p3.lc)/\w'.cell? ⟨sb,so+3,none⟩=some (.slice p3.ka p3.kl p3.kc) /\
  ab<w'.heap.size/\pb<w'.heap.size/\qb<w'.heap.size/\sb<w'.heap.size:=by
 have ha2:=(hb.block _ (Qaa ha)).trans ha;have g1:=xK w8 _ hd;have g2:=xK w8 _ he;have g3:=xK w8 _ hf.1
 exact⟨Qab ha2 0 _ rfl,Qab ha2 1 _ rfl,Qaw hb g1 hd,Qaw hb g2 he,Qaw hb g3 hf.1,Qaw hb g3 hf.2.1,Qaw hb g3 hf.2.2.1,Qaw hb g3 hf.2.2.2,
  Qaa ha2,xE g1 hb.size,xE g2 hb.size,xE g3 hb.size⟩
theorem Qte(S:Nat->Prop)(A:yE)(c0:Nat)(ps:List Tr)(m d:Int)(w:World)(hp:TrAt S w (Qa9 ps) ⟨0,⟨#[]⟩,none,0,0,A,ps.length,c0⟩)(hf:Qgm (Qa9 ps)=true)(hw:Qbg (Qa9 ps)=true)
  (hz:∀ t∈ps,Qai t<=1000) (hl:Qal ps<=90000) :
  Calls prog 12 #[.slice A ps.length c0,.int .i64 m,.int .i64 d] w fun e w'=>e = .returned (.bool (Qjl ps m d))/\Below w.heap.size w w':=by
 have HPL:=hQ hp;have HF:=hQ hf;have HW:=hQ hw;have HZ:=hQ hz;have HL:=hQ hl;have HP0:=hQ (Qnq S A c0 ps w hp (Qf9 _ hf) hz hw);clear hp hf hw hz hl;cases hg:Qc1 ps with
 | false =>
  have HV:=hQ (Ql3 (m:=m) (d:=d) (.inl hg));rw[hg]at HP0;rw[HV.out];clear hg;go_enter func12,ntmps12;go_wp2_with fail;go_at_call 29;refine HP0.out.mono ?_;rintro e w1⟨rfl,hb1⟩;have HB1:=hQ hb1;clear hb1;go_wp2_with fail;go_ret;exact⟨rfl,HB1.out⟩
 | true =>
  rw[hg]at HP0;have HG:=hQ hg;clear hg
  by_cases h1:m<0
  ·have HV:=hQ (Ql3 (ps:=ps) (m:=m) (d:=d) (.inr (Qlc (.inl h1))));rw[HV.out];go_enter func12,ntmps12;go_wp2_with fail;go_at_call 29;refine HP0.out.mono ?_;rintro e w1⟨rfl,hb1⟩;have HB1:=hQ hb1;clear hb1;go_wp2_with fail;go_ret;exact⟨rfl,HB1.out⟩
  ·by_cases h2:(ps.length:Int)<=m
   ·have HV:=hQ (Ql3 (ps:=ps) (m:=m) (d:=d) (.inr (Qlc (.inr (.inr (Zh7 (by omega)))))));rw[HV.out];go_enter func12,ntmps12;go_wp2_with fail;go_at_call 29;refine HP0.out.mono ?_;rintro e w1⟨rfl,hb1⟩;have HB1:=hQ hb1;clear hb1;go_wp2_with fail;go_ret;exact⟨rfl,HB1.out⟩
   ·obtain⟨M,rfl⟩:∃ M:Nat,m=(M:Int):=⟨m.toNat,by omega⟩;have hM:M<ps.length:=by omega
    have h3:(M:Int)<(ps.length:Int):=by omega
    have h0:(0:Int)<=(M:Int):=by omega
    obtain⟨t2,ht2⟩:∃ t,ps[M]? = some t:=⟨_,xF hM⟩;obtain⟨pb,po,hpa⟩:∃ b off,A=some ⟨b,off,none⟩:=HPL.out.addr.resolve_left (by show ¬ ps.length=0;omega);subst hpa
    by_cases h4:d<0
    ·have HV:=hQ (Ql3 (ps:=ps) (m:=(M:Int)) (d:=d) (.inr (Qlc (.inr (.inl h4)))));rw[HV.out];go_enter func12,ntmps12;go_wp2_with fail;go_at_call 29;refine HP0.out.mono ?_;rintro e w1⟨rfl,hb1⟩;have HB1:=hQ hb1;clear hb1;go_wp2_with fail;go_ret;exact⟨rfl,HB1.out⟩
    ·by_cases h5:(t2.kids.length:Int)<=d
     ·have HV:=hQ (Ql3 (ps:=ps) (m:=(M:Int)) (d:=d) (.inr (Qlc (.inr (.inr (Ze4 (by rw[Int.toNat_natCast];exact ht2) (by omega)))))));rw[HV.out];have HT2:=hQ ht2;clear ht2;go_enter func12,ntmps12;go_wp2_with fail;go_at_call 29;refine HP0.out.mono ?_;rintro e w1⟨rfl,hb1⟩;have HB1:=hQ hb1;clear hb1;obtain⟨p1,_,_,_,d3,hd⟩:=(HPL.out.keep HB1.out).at rfl (show(Qa9 ps).kids[M]? = some t2 from HT2.out);have dl:=xK w1 _ d3;rw[hd.kl.1]at d3;clear hd;go_wp2_with fail;go_ret;exact⟨rfl,HB1.out⟩
     ·obtain⟨D,rfl⟩:∃ D:Nat,d=(D:Int):=⟨d.toNat,by omega⟩;have hD:D<t2.kids.length:=by omega
      have h6:(D:Int)<(t2.kids.length:Int):=by omega
      have h7:(0:Int)<=(D:Int):=by omega
      obtain⟨k2,hk2⟩:∃ k,t2.kids[D]? = some k:=⟨_,xF hD⟩;have HT2:=hQ ht2;have HK2:=hQ hk2;clear ht2 hk2
      by_cases h8:k2.kind=3
      ·have HK3:=hQ h8;have n3:=bneZ h8;have HGO:=hQ (Qq2 ps ((M:Int),(D:Int)));obtain⟨L,hL⟩:∃ L,L=Zd5 ps ((M:Int),(D:Int)):=⟨_,rfl⟩;rw[<-hL]at HGO;have HV:=hQ (show Qjl ps (M:Int) (D:Int)=decide (((M:Int),(D:Int))∈L) from by unfold Qjl;rw[HG.out,hL];rfl);rw[HV.out];have v1:decide ((M:Int)<0)=false:=xR (by omega);have v2:decide (ps.length<=M)=false:=xR (by omega);have v3:decide ((D:Int)<0)=false:=xR (by omega);have v4:decide (t2.kids.length<=D)=false:=xR (by omega);clear hL h8;go_enter func12,ntmps12;go_wp2_with fail;go_at_call 29;refine HP0.out.mono ?_;rintro e w1⟨rfl,hb1⟩;have HB1:=hQ hb1;clear hb1;obtain⟨p1,_,_,_,d3,hd⟩:=(HPL.out.keep HB1.out).at rfl (show(Qa9 ps).kids[M]? = some t2 from HT2.out);obtain⟨qb,qo,hqa⟩:∃ b off,p1.ka=some ⟨b,off,none⟩:=hd.addr.resolve_left (by omega);obtain⟨p2,e0,_,_,_,he⟩:=hd.at hqa HK2.out;have dl:=xK w1 _ d3;have el:=xK w1 _ e0;rw[hqa,hd.kl.1]at d3;rw[he.kl.2.2.1]at e0;clear hd he hqa;go_wp2_with fail;have HA1:=hQ (xH w1 (arO ((M:Int),(D:Int))));have HBA:=hQ (HB1.out.alloc HB1.out.size (arO ((M:Int),(D:Int))));clear d3 e0 dl el
       go_loopw [8] (fun v8 wr=>CrL ps L ((M:Int),(D:Int)) w w1.heap.size v8 wr) (fun v8 _=>Qal ps+1-Zmy v8)
       case atStart=>exact⟨Qal ps+1,M,D,0,none,[],t2,k2,rfl,HA1.out,HT2.out,HK2.out,HK3.out,MRow.nil _ _,(fun e=>by cases e),HGO.out,by simp,rfl,HBA.out⟩
       case round =>
        obtain⟨f,M2,D2,mc,MA,met,t3,k3,rfl,hab,ht3,hk3,hk33,hm,hoa,hgo,hna,hfm,hb⟩:=hrel;obtain⟨w8,hw8⟩:∃ w',w'=wr:=⟨_,rfl⟩;subst hw8;have HAB:=hQ hab;have HT3:=hQ ht3;have HK3':=hQ hk3;have HMR:=hQ hm;have HOA:=hQ hoa;have HNA:=hQ hna;have HFM:=hQ hfm;have HBR:=hQ hb;have HAL:=hQ (show w.heap.size<=w1.heap.size from HB1.out.size);obtain⟨ta,hka,hty2,hlf,hta1,hta2,hta3⟩:=Quv HZ.out HG.out ht3 hk3 hk33;have HS3:=hQ (show(Qjj ps M2 D2).kind=3 from by rw[Qk4 ht3 hk3];exact hk33);have hM2:=(xP.1 ht3).1;have hD2:=(xP.1 hk3).1;obtain⟨p1,_,_,_,d3,hd⟩:=(HPL.out.keep HBR.out).at rfl (show(Qa9 ps).kids[M2]? = some t3 from ht3);obtain⟨qb,qo,hqa⟩:∃ b off,p1.ka=some ⟨b,off,none⟩:=hd.addr.resolve_left (by omega);obtain⟨p2,_,_,_,e3,he⟩:=hd.at hqa hk3;obtain⟨sb,so,hsa⟩:∃ b off,p2.ka=some ⟨b,off,none⟩:=he.addr.resolve_left (by rw[hka];simp);obtain⟨p3,f0,f1,f2,f3,hx⟩:=he.at hsa (show k3.kids[0]? = some ta from by rw[hka];rfl);have el1:=hd.kl.1;have el2:=he.kl.1;rw[hka]at el2;rw[hqa,el1]at d3;rw[hsa,el2]at e3;simp only[Nat.zero_mul,Nat.add_zero,List.length_singleton]at f0 f1 f2 f3 e3;have haj:k3.kids[0]? = some ta:=by rw[hka];rfl
        have HWA:=hQ ((Qa7 ((Qa7 ((Qa7 HW.out).2.2 M2 t3 ht3)).2.2 D2 k3 hk3)).2.2 0 ta haj);have HLA:=hQ (show LsT ta from⟨hta1,hta2⟩);have HTA3:=hQ hta3;have HLE:=hQ hlf;have HGR:=hQ hgo;have HLF:=hQ (fun(w':World) (hb:Below w8.heap.size w8 w')=>Qq3 _ ta p3 w' (hx.keep hb) ⟨hta1,hta2⟩);have HLAY:=hQ (fun(w':World) (hb:Below w8.heap.size w8 w')=>Zmx (a:=((M2:Int),(D2:Int))) hb HAB.out d3 e3 ⟨f0,f1,f2,f3⟩);have i0:(0:Int)<=(M2:Int):=by omega
        have i1:(M2:Int)<(ps.length:Int):=by omega
        have i2:(0:Int)<=(D2:Int):=by omega
        have i3:(D2:Int)<(t3.kids.length:Int):=by omega
        have a0:w8.cell? ⟨w1.heap.size,0,none⟩=some (.int .i64 M2):=Qab HAB.out 0 _ rfl;have a1:w8.cell? ⟨w1.heap.size,1,none⟩=some (.int .i64 D2):=Qab HAB.out 1 _ rfl;have abl:=Qaa HAB.out;have dl:=xK w8 _ d3;have el:=xK w8 _ e3;have fl:=xK w8 _ f0;clear hx he hd hqa hsa el1 el2 hab ht3 hk3 hk33 hm hoa hgo hna hfm hb hka hty2 hlf hta1 hta2 hta3 haj;have mixedL:prog.follows Departure.mixedOrders=true:=mixed;have n0:=World.new_ne w8 _ a0;have n1:=World.new_ne w8 _ d3;have n2:=World.new_ne w8 _ e3;have n4:=World.new_ne w8 _ f0;go_upto_region 5 with fail
        go_cut [9] (fun s9 wx=>Zk9 (Qbd ta) w8 s9 wx)
        case first =>
         go_region_held3 (fun w'=>w'.cell? ⟨w1.heap.size,0,none⟩=some (.int .i64 M2)/\w'.cell? ⟨w1.heap.size,1,none⟩=some (.int .i64 D2)/\w'.cell? ⟨pb,po+M2*4+3,none⟩=some (.slice (some ⟨qb,qo,none⟩) t3.kids.length p1.kc)/\w'.cell? ⟨qb,qo+D2*4+3,none⟩=some (.slice (some ⟨sb,so,none⟩) 1 p2.kc)/\w'.cell? ⟨sb,so,none⟩=some (.int .i64 p3.kind)/\w'.cell? ⟨sb,so+1,none⟩=some (.string p3.text)/\w'.cell? ⟨sb,so+2,none⟩=some (.slice p3.la p3.ll p3.lc)/\w'.cell? ⟨sb,so+3,none⟩=some (.slice p3.ka p3.kl p3.kc)) (first | with_reducible exact⟨a0,a1,d3,e3,f0,f1,f2,f3⟩ | go_keep) (first
          | (go_at_call 38;refine(HLF.out w8.drew (xC _ _).drew).mono ?_;rintro e w3⟨y,rfl,hy,hb3⟩;have HY1:=hQ hy.kl.2.2.1;have HY2:=hQ hy.kl.2.2.2;have HB3:=hQ (show Below w8.heap.size w8 w3 from(show Below w8.heap.size w8 w8.drew from(xC _ _).drew).trans hb3);clear a0 a1 d3 e3 f0 f1 f2 f3 abl dl el fl;obtain⟨a0,a1,d3,e3,f0,f1,f2,f3,abl,dl,el,fl⟩:=HLAY.out w3 HB3.out;clear hb3 hy)
          | (go_at_call 38;refine(HLF.out ((w8.alloc (.cells #[.int .i64 0,.string ⟨#[]⟩,.slice none 0 0,.slice none 0 0] 25)).drew) ((xC _ _).alloc (xA _) _).drew).mono ?_;rintro e w3⟨y,rfl,hy,hb3⟩;have HY1:=hQ hy.kl.2.2.1;have HY2:=hQ hy.kl.2.2.2;have HB3:=hQ (show Below w8.heap.size w8 w3 from(((xC w8.heap.size w8).alloc (xA _) (.cells #[.int .i64 0,.string ⟨#[]⟩,.slice none 0 0,.slice none 0 0] 25)).drew).trans (hb3.mono (by show _<=(w8.alloc _).heap.size;rw[xI];omega)));have hzb:=(show w3.heap[w8.heap.size]? = some (.cells #[.int .i64 0,.string ⟨#[]⟩,.slice none 0 0,.slice none 0 0] 25 (0,0)) from(hb3.block _ (by show _<(w8.alloc _).heap.size;rw[xI];omega)).trans (xH w8 _));have HZB:=hQ hzb;have zf:∀ o,w3.frozen? ⟨w8.heap.size,o,none⟩=false:=(fun o=>xL hzb _);have zl:=Qaa hzb;have z0:w3.cell? ⟨w8.heap.size,0,none⟩=some (.int .i64 0):=Qab hzb 0 _ rfl;have z1:w3.cell? ⟨w8.heap.size,1,none⟩=some (.string ⟨#[]⟩):=Qab hzb 1 _ rfl;have z2:w3.cell? ⟨w8.heap.size,2,none⟩=some (.slice none 0 0):=Qab hzb 2 _ rfl;have z3:w3.cell? ⟨w8.heap.size,3,none⟩=some (.slice none 0 0):=Qab hzb 3 _ rfl;clear a0 a1 d3 e3 f0 f1 f2 f3 abl dl el fl;obtain⟨a0,a1,d3,e3,f0,f1,f2,f3,abl,dl,el,fl⟩:=HLAY.out w3 HB3.out;clear hb3 hy hzb)
          | fail)
         all_goals
          go_wp2_with fail;go_meet
          first
           | (have hh:=HZB.out;clear hh;exact Ze6 HZB.out HY1.out HY2.out HB3.out)
           | exact Qzm HY1.out HY2.out HB3.out
        case rest =>
         obtain⟨w9,hww⟩:∃ w',w'=wc:=⟨_,rfl⟩;subst hww;obtain⟨g9,y9,rfl,hyb,hyk,hyx,hbc⟩:=hcut;have HB9:=hQ (HBR.out.trans (hbc.mono HBR.out.size));have HB89:=hQ hbc;have HA9:=hQ ((hbc.block _ (Qaa HAB.out)).trans HAB.out);clear a0 a1 abl d3 e3 f0 f1 f2 f3 dl el fl n0 n1 n2 n4 mixedL;have y0:w9.cell? ⟨g9,0,none⟩=some (.int .i64 (Qbd ta).kind):=by rw[<-hyk];exact Qab hyb 0 _ rfl
         have y1:w9.cell? ⟨g9,1,none⟩=some (.string (Qbd ta).text):=by rw[<-hyx];exact Qab hyb 1 _ rfl
         have ybl:=Qaa hyb;have a0:w9.cell? ⟨w1.heap.size,0,none⟩=some (.int .i64 M2):=Qab HA9.out 0 _ rfl;have abl:=Qaa HA9.out;clear hyb hyk hyx hbc;have hcs:=Qhu _ ta (xA _) HLA.out.1 HLA.out.2
         by_cases h9:(Qbd ta).kind=9
         ·have n9:((Qbd ta).kind != 9)=false:=by rw[h9];rfl
          have HRO:=hQ (Qje (i:=M2) HZ.out HG.out hcs.2.2.2 h9 (xQ (Qss _ ta (xA _) HLA.out.1 HLA.out.2) HTA3.out));have HXS:=hQ (show(Qbd ta).text.size<=maxLen from Nat.le_of_lt (Qa7 (Qjf (fun t=>Qbg t=true) Qhy _ ta (xA _) HLA.out.1 HLA.out.2 HWA.out)).1);have H9:=hQ (show(Qd4 (Qjj ps M2 D2)).kind=9 from by rw[HLE.out];exact h9);clear hcs h9;go_wp2_with fail;go_at_call 39;refine(Qwa _ _ c0 ps M2 (Qbd ta).text w9 (HPL.out.keep HB9.out) HF.out HXS.out hM2).mono ?_;rintro e w10⟨rfl,hb10⟩;have HB10:=hQ (HB9.out.trans (hb10.mono HB9.out.size));have HB810:=hQ (HB89.out.trans (hb10.mono HB89.out.size));have HA10:=hQ ((hb10.block _ (Qaa HA9.out)).trans HA9.out);clear hb10 y0 y1 ybl a0 abl n9;have a0:w10.cell? ⟨w1.heap.size,0,none⟩=some (.int .i64 M2):=Qab HA10.out 0 _ rfl;have a1:w10.cell? ⟨w1.heap.size,1,none⟩=some (.int .i64 D2):=Qab HA10.out 1 _ rfl;have abl:=Qaa HA10.out;have af:∀ o,w10.frozen? ⟨w1.heap.size,o,none⟩=false:=fun o=>xL HA10.out _
          rcases HRO.out with⟨_,hr⟩|⟨M3,D3,t4,k4,hr,ht4,hk4,hk43⟩
          ·rw[hr];have HSN:=hQ (Ze2 (by rw[HLE.out];exact hr));have hgr:=HGR.out;rw[HSN.out]at hgr;have HV2:=hQ (show decide (((M:Int),(D:Int))∈L)=false from xR (by rw[Qh0 hgr];exact HNA.out));clear hr hgr;go_wp2_with fail;go_ret;rw[HV2.out];exact⟨rfl,HB10.out.trans ((Qd9 w10 w1.heap.size 0 0).mono HAL.out)⟩
          ·rw[hr];have hst:=Ze3 (r:=((M3:Int),(D3:Int))) HS3.out H9.out (by rw[HLE.out];exact hr);have hgr:=HGR.out;rw[hst]at hgr;have HGS:=hQ hgr;have HT4:=hQ ht4;have HK4:=hQ hk4;have HK43:=hQ hk43;clear hr hst hgr ht4 hk4 hk43;go_upto_region 12 with fail
           obtain⟨w11,hw11⟩:∃ W,W=Znt w10 w1.heap.size (M3:Int) (D3:Int):=⟨_,rfl⟩;have HA11:=hQ (show w11.heap[w1.heap.size]? = some (arO ((M3:Int),(D3:Int))) from by rw[hw11];exact Ze7 _ _ HA10.out);have HK11:=hQ (show ∀ k,k≠w1.heap.size->w11.heap[k]? = w10.heap[k]? from fun k hk=>by rw[hw11];exact Qzn _ _ hk);have HB11:=hQ (show Below w.heap.size w w11 from by rw[hw11];exact HB10.out.trans ((Qd9 w10 w1.heap.size _ _).mono HAL.out));have HM11:=hQ (show MRow w11 w.heap.size (.slice MA met.length mc) met from Zey (b:=w1.heap.size) (Qf8 HMR.out HB810.out) HOA.out HK11.out);rw[show(w10.setCell ⟨w1.heap.size,0,none⟩ (.int .i64 (M3:Int))).setCell ⟨w1.heap.size,1,none⟩ (.int .i64 (D3:Int))=w11 from hw11.symm];clear hw11 a0 a1 abl af;have a0:w11.cell? ⟨w1.heap.size,0,none⟩=some (.int .i64 M3):=Qab HA11.out 0 _ rfl;have a1:w11.cell? ⟨w1.heap.size,1,none⟩=some (.int .i64 D3):=Qab HA11.out 1 _ rfl;have abl:=Qaa HA11.out;have hG:=fun(w:World) (p q:Operand)=>run_eqGuard_agg w .eql 67 p q #[.int .i64 (M3:Int),.int .i64 (D3:Int)] #[.int .i64 (M:Int),.int .i64 (D:Int)] Qwu
           have hE:=fun(w:World)=>Zin (M3:Int) (D3:Int) (M:Int) (D:Int) w
           by_cases he:((M3:Int),(D3:Int))=((M:Int),(D:Int))
           ·have hq:((M3:Int)==(M:Int) && (D3:Int)==(D:Int))=true:=by injection he with e1 e2;rw[e1,e2];simp
            have HV2:=hQ (show decide (((M:Int),(D:Int))∈L)=true from xS (by rw[<-he];exact Ze0 HGS.out (by rw[he];exact HNA.out)));clear he;go_wp2_with fail;go_ret;rw[HV2.out];exact⟨rfl,HB11.out⟩
           ·have hq:((M3:Int)==(M:Int) && (D3:Int)==(D:Int))=false:=Zcs (fun e=>he e.symm);have hmz:met.length<=1000000:=by have:=HFM.out;have:=HL.out;omega
            by_cases hmem:((M3:Int),(D3:Int))∈met
            ·have HCN:=hQ (Qq4 w.heap.size mc MA met M3 D3 w11 HM11.out hmz);rw[xS hmem]at HCN;have HV2:=hQ (show decide (((M:Int),(D:Int))∈L)=false from xR (by rw[Qn6 HGS.out hmem];exact HNA.out));clear hmem hmz he;go_wp2_with fail;go_at_call 40;refine HCN.out.mono ?_;rintro e w12⟨rfl,hb12⟩;have HB12:=hQ (HB11.out.trans (hb12.mono HB11.out.size));clear hb12;go_wp2_with fail;go_ret;rw[HV2.out];exact⟨rfl,HB12.out⟩
            ·have HCN:=hQ (Qq4 w.heap.size mc MA met M3 D3 w11 HM11.out hmz);rw[xR hmem]at HCN;obtain⟨f',hf',hgo'⟩:=Qjg HGS.out hmem;have HF':=hQ hf';have HGN:=hQ hgo'
             have HNX:=hQ (show((M:Int),(D:Int)) ∉ met ++ [((M3:Int),(D3:Int))] from fun h=>by
              rcases List.mem_append.1 h with h | h
              ·exact HNA.out h
              ·simp only[List.mem_singleton]at h;exact he h.symm)
             obtain⟨ia,hia,az0,az1,az2⟩:=info_parts Zet;have HM1:=hQ (show met.length+1<=maxLen from by unfold maxLen;omega);have HM2:=hQ (show(met.length+1)*16<=140737488355328 from by omega);have HON:=hQ (show ∀ u∈[Value.int .i64 (M3:Int),.int .i64 (D3:Int)],u.oneCell'=true from by intro u hu;simp at hu;rcases hu with rfl | rfl <;> rfl);clear hmem hmz he hf' hgo';go_wp2_with fail;go_at_call 40;refine HCN.out.mono ?_;rintro e w12⟨rfl,hb12⟩;have HB12:=hQ (HB11.out.trans (hb12.mono HB11.out.size));have HA12:=hQ ((hb12.block _ abl).trans HA11.out);have HBA12:=hQ (Qcs w12 (arO ((M3:Int),(D3:Int))));have HRW:=hQ (MRow.keep (HM11.out.keep hb12) HBA12.out);have HNW:=hQ (xM (xH w12 (arO ((M3:Int),(D3:Int)))));have HSZ:=hQ (show w.heap.size<=(w12.alloc (arO ((M3:Int),(D3:Int)))).heap.size from by have h1:=HB12.out.size;rw[xI];omega);clear hb12 a0 a1 abl;have a0:w12.cell? ⟨w1.heap.size,0,none⟩=some (.int .i64 M3):=Qab HA12.out 0 _ rfl;have a1:w12.cell? ⟨w1.heap.size,1,none⟩=some (.int .i64 D3):=Qab HA12.out 1 _ rfl;have abl:=Qaa HA12.out;go_wp2_with (at_builtin;refine Qep _ rfl _ _ 68 rfl w.heap.size 67 ia _ 2 16 underlying68 hia az0 az1 az2 rfl (by decide) _ met.length (Qeu met) rfl HRW.out ⟨w12.heap.size,0,none⟩ 1 1 [.int .i64 (M3:Int),.int .i64 (D3:Int)] rfl rfl HNW.out HON.out (by decide) HM1.out HM2.out HSZ.out ?_;intro g6 c6 w6 hown6 hk6 hg6 hlt6;have HO6:=hQ hown6;have HK6:=hQ hk6;have HG6:=hQ hg6;clear hown6 hk6 hg6 hlt6)
             go_roundw
             case measure =>
              show Qal ps+1-(met.length+1)<Qal ps+1-met.length
              have h1:=HFM.out;have h2:=HF'.out;omega
             case rel =>
              have hg6:(Value.slice MA met.length mc).ownBlock=some g6\/(w12.alloc (arO ((M3:Int),(D3:Int)))).heap.size<=g6:=HG6.out;have h1:=HFM.out;have h2:=HF'.out;have hle:(met ++ [((M3:Int),(D3:Int))]).length=met.length+1:=by rw[xB];rfl
              refine⟨f',M3,D3,c6,some ⟨g6,0,none⟩,met ++ [((M3:Int),(D3:Int))],t4,k4,by rw[hle],Qhz HK6.out HOA.out HA12.out,HT4.out,HK4.out,HK43.out,?_,?_,HGN.out,HNX.out,by rw[hle];omega,Qlx HB12.out HK6.out fun k hk=>(World.ownsRow.lt HRW.out k hk).1⟩
              ·unfold MRow;rw[hle,Qfz];exact HO6.out
              ·intro e;have e2:g6=w1.heap.size:=by simpa [Value.ownBlock] using e
               rcases hg6 with h | h
               ·exact HOA.out (h.trans (by rw[e2]))
               ·have h5:=Qaa HA12.out;rw[xI]at h;omega
         ·have b9:=Zlc h9;have HSN:=hQ (Ze1 (ps:=ps) (M:=M2) (D:=D2) (by rw[HLE.out];exact h9));have hgr:=HGR.out;rw[HSN.out]at hgr;have HV2:=hQ (show decide (((M:Int),(D:Int))∈L)=false from xR (by rw[Qh0 hgr];exact HNA.out));clear hgr hcs h9;go_wp2_with fail;go_ret;rw[HV2.out];exact⟨rfl,HB9.out⟩
      ·have HV:=hQ (Ql3 (ps:=ps) (m:=(M:Int)) (d:=(D:Int)) (.inr (Qlc (.inr (.inr (by rw[Int.toNat_natCast,Int.toNat_natCast,Qk4 HT2.out HK2.out];exact h8))))));have n3:=Zlc h8;rw[HV.out];go_enter func12,ntmps12;go_wp2_with fail;go_at_call 29;refine HP0.out.mono ?_;rintro e w1⟨rfl,hb1⟩;have HB1:=hQ hb1;clear hb1;obtain⟨p1,_,_,_,d3,hd⟩:=(HPL.out.keep HB1.out).at rfl (show(Qa9 ps).kids[M]? = some t2 from HT2.out);obtain⟨qb,qo,hqa⟩:∃ b off,p1.ka=some ⟨b,off,none⟩:=hd.addr.resolve_left (by omega);obtain⟨p2,e0,_,_,_,he⟩:=hd.at hqa HK2.out;have dl:=xK w1 _ d3;have el:=xK w1 _ e0;rw[hqa,hd.kl.1]at d3;rw[he.kl.2.2.1]at e0;clear hd he hqa h8;go_wp2_with fail;go_ret;exact⟨rfl,HB1.out⟩
theorem Qq5(A:yE)(c:Nat)(xs:List Int)(w:World)(hx:Ql9 w A xs) :
  Calls prog 4 #[.slice A xs.length c] w fun e w'=>e = .returned (.bool true)/\Below w.heap.size w w':=by
 by_cases hl:xs.length<=120
 ·have d0:=xS hl;have HP:=hQ (Qu4 A c xs w hx hl);clear hx hl;go_enter func4,ntmps4;go_wp2_with (first | (go_at_call 15;refine(Qs8 _ _ _ _).mono ?_;rintro e w0⟨rfl,h0⟩;rw[h0];clear h0 w0) | fail)
  go_at_call 16;refine HP.out.mono ?_;rintro e w1⟨r,ps,rfl,hm,hlen,hgood,hb⟩;obtain⟨A1,c1,us,rfl,hc1,hus,hrow,hat⟩:=hm;have HB:=hQ hb;have hcnt:=Zhz hlen hgood;have HR:=hQ (TrAt.low _ _ (Zeq hc1 hus hrow hat));have HF:=hQ (Za1 _ (show Qt6 (Qa9 ps)<=1048576 from by omega));have HW:=hQ (Qk8 _ (show Qt6 (Qa9 ps)<=1048576 from by omega));have HZ3:=hQ (fun t ht=>(hgood t ht).2.2.1);have HZ:=hQ (fun t ht=>xQ (hgood t ht).2.2.1 (show 352<=1000 from by decide));have HG:=hQ (Zes hgood)
  have HZT:=hQ (show Qal ps<=1056 from by
   have h1:=Qoc ps hgood;have h2:352*ps.length<=352*3:=Nat.mul_le_mul_left _ hlen;omega)
  have HZL:=hQ (show Qal ps<=90000 from xQ HZT.out (by decide));have hnl:(ps.length:Int)<=3:=by omega
  clear hrow hat hgood hb hcnt hc1 hus;go_wp2_with fail
  go_loopw [4] (fun i wr=>∃ q:Nat,i = .int .i64 (q:Int)/\q<=ps.length/\Below w1.heap.size w1 wr) (fun i _=>ps.length-(intOf i).toNat)
  case atStart=>exact⟨0,rfl,xZ _,xC _ _⟩
  case round =>
   obtain⟨q,rfl,hq,hb⟩:=hrel;obtain⟨wo,hwo⟩:∃ w',w'=wr:=⟨_,rfl⟩;subst hwo;have HBR:=hQ hb;clear hb
   by_cases hlt:q<ps.length
   ·obtain⟨T,hT⟩:∃ T,ps[q]? = some T:=⟨_,xF hlt⟩;obtain⟨b,off,hka⟩:∃ b off,A1=some ⟨b,off,none⟩:=HR.out.addr.resolve_left (by show ¬ ps.length=0;omega);subst hka;obtain⟨tv,c0,c1',c2,c3,htv⟩:=(HR.out.keep HBR.out).at rfl (show(Qa9 ps).kids[q]? = some T from hT);have cl:=xK wo _ c0;have q0:(0:Int)<=(q:Int):=by omega
    have q1:(q:Int)<(ps.length:Int):=by omega
    have q2:(q:Int)+1<=3:=by omega
    have HT:=hQ hT;have HTZ:=hQ (show Qai T<=352 from HZ3.out T (yA hT));have HTF:=hQ ((Qb2 HF.out).2.2 q T hT);have HTW:=hQ ((Qa7 HW.out).2.2 q T hT);have HTV:=hQ htv;rw[htv.kl.1]at c3;have C3:=hQ c3;have HC0:=hQ (show wo.cell? ⟨b,off+q*4,none⟩=some (.int .i64 tv.kind)/\wo.cell? ⟨b,off+q*4+1,none⟩=some (.string tv.text)/\wo.cell? ⟨b,off+q*4+2,none⟩=some (.slice tv.la tv.ll tv.lc) from⟨c0,c1',c2⟩);have HCL:=hQ cl
    have HKN:=hQ (show(T.kids.length:Int)<=352 from by
     have h1:=Qa0 T.kids;have h2:=Qa5 T;have h3:=HTZ.out;omega)
    have HKE:=hQ htv.kl.1;clear htv hT c0 c1' c2;go_wp2_with fail
    go_loopw [5] (fun i wr=>∃ d:Nat,i = .int .i64 (d:Int)/\d<=T.kids.length/\Below wo.heap.size wo wr) (fun i _=>T.kids.length-(intOf i).toNat)
    case atStart=>exact⟨0,rfl,xZ _,xC _ _⟩
    case round =>
     obtain⟨d,rfl,hd,hb⟩:=hrel;have HBD:=hQ hb;have e3:=Qaw hb HCL.out C3.out;have el:=xK wr _ e3;clear hb c3 cl
     by_cases hdl:d<T.kids.length
     ·have d1:(0:Int)<=(d:Int):=by omega
      have d2:(d:Int)<(T.kids.length:Int):=by omega
      have d3:(d:Int)+1<=352:=by have:=HKN.out;omega
      have HB2:=hQ (HBR.out.trans (HBD.out.mono HBR.out.size));go_wp2_with fail;go_at_call 11;refine(Qi1 _ (some ⟨b,off,none⟩) c1 ps (q:Int) (d:Int) _ (HR.out.keep HB2.out) HF.out HW.out HZ.out HZL.out (Qil (by omega)) (Qil (by omega))).mono ?_;rintro e w2⟨rfl,hb2⟩;have HB3:=hQ (HB2.out.trans (hb2.mono HB2.out.size));have HBE:=hQ (HBD.out.trans (hb2.mono HBD.out.size));clear hb2 e3 el;go_wp2_with fail;go_at_call 12;refine(Qte _ (some ⟨b,off,none⟩) c1 ps (q:Int) (d:Int) w2 (HR.out.keep HB3.out) HF.out HW.out HZ.out HZL.out).mono ?_;rintro e w3⟨rfl,hb3⟩;have HBF:=hQ (HBE.out.trans (hb3.mono HBE.out.size));have g0:(Qjl ps (q:Int) (d:Int) != Qjl ps (q:Int) (d:Int))=false:=by simp
      clear hb3;go_wp2_with fail;go_roundw
      case measure=>first | (simp[intOf];done) | (simp[intOf];omega)
      case rel=>exact⟨d+1,rfl,by omega,HBF.out⟩
     ·have hde:¬ (d:Int)<(T.kids.length:Int):=by omega
      have HB2:=hQ (HBR.out.trans (HBD.out.mono HBR.out.size));have c0:=Qaw HBD.out HCL.out HC0.out.1;have c1':=Qaw HBD.out HCL.out HC0.out.2.1;have c2:=Qaw HBD.out HCL.out HC0.out.2.2;have hke:=HKE.out;rw[<-hke]at e3 hde;obtain⟨wn,hwn⟩:∃ w',w'=wr:=⟨_,rfl⟩;subst hwn;have HC:=hQ (Zd2 352 (fun b=>b<w1.heap.size) T tv wn HTZ.out (by decide) (fun b hb=>xE hb HB2.out.size) (HTV.out.keep HBD.out));clear hke;go_wp2_with fail;go_at_call 17;refine HC.out.mono ?_;rintro e w3⟨NA,nc,rfl,hnr,hb3⟩;obtain⟨-,g3,-,hNA,-⟩:=hnr.at (j:=0) (k:=T) (by rw[Qsy];rfl);subst hNA;have HNR:=hQ hnr;have HB3:=hQ (HB2.out.trans (hb3.mono HB2.out.size));clear hnr hb3 c0 c1' c2 e3 el hde;go_wp2_with fail
      go_loopw [7] (fun i wr=>∃ d:Nat,i = .int .i64 (d:Int)/\d<=Qai T/\Below w3.heap.size w3 wr) (fun i _=>Qai T-(intOf i).toNat)
      case atStart=>exact⟨0,rfl,xZ _,xC _ _⟩
      case round =>
       obtain⟨d,rfl,hd,hb⟩:=hrel;have HBQ:=hQ hb;clear hb
       by_cases hdl:d<Qai T
       ·obtain⟨t,ht⟩:∃ t,(Qim T)[d]? = some t:=⟨_,xF (by rw[Qfo];exact hdl)⟩;obtain⟨-,-,u,n0,n1,n2,n3,hu⟩:=(HNR.out.later HBQ.out).in ht;have nl:=xK wr _ n0;have d1:(0:Int)<=(d:Int):=by omega
        have d2:(d:Int)<(Qai T:Int):=by omega
        have d3:(d:Int)+1<=352:=by have:=HTZ.out;omega
        obtain⟨hfit,hwords,hsz⟩:=Qs9 T t (yA ht) HTF.out HTW.out;have HTS:=hQ (Qf9 _ hfit);have HTFT:=hQ hfit;have HTWD:=hQ hwords;have HT3:=hQ (show Qai t<=352 from xQ hsz HTZ.out);have HSS:=hQ (Qce _ t (xA _) (show Qai t<=1000 from xQ hsz (xQ HTZ.out (by decide))));have HUT:=hQ hu;have HUN:=hQ (show wr.cell? ⟨g3,d*4,none⟩=some (.int .i64 u.kind)/\wr.cell? ⟨g3,d*4+1,none⟩=some (.string u.text)/\wr.cell? ⟨g3,d*4+2,none⟩=some (.slice u.la u.ll u.lc)/\wr.cell? ⟨g3,d*4+3,none⟩=some (.slice u.ka u.kl u.kc) from⟨n0,n1,n2,n3⟩);have HB4:=hQ (HB3.out.trans (HBQ.out.mono HB3.out.size));obtain⟨w4,hw4⟩:∃ w',w'=wr:=⟨_,rfl⟩;subst hw4;have HNL:=hQ nl;clear ht hfit hwords hsz hu;go_wp2_with fail;go_at_call 8;refine(Qpm _ _ (some ⟨b,off,none⟩) c1 ps (q:Int) t u w4 (HR.out.keep HB4.out) HF.out HW.out HZ.out HZL.out HUT.out HTS.out HTWD.out (xQ HT3.out (by decide)) HSS.out).mono ?_;rintro e w5⟨u5,rfl,hu5,hb5⟩;have HBX:=hQ (hb5.alloc hb5.size (trO u5));obtain⟨xk,xx,xla,xll,xlc,xka,xkl,xkc⟩:=u5;have HX5:=hQ (xH w5 (trO ⟨xk,xx,xla,xll,xlc,xka,xkl,xkc⟩));have HU5:=hQ (hu5.keep (Qcs w5 (trO ⟨xk,xx,xla,xll,xlc,xka,xkl,xkc⟩)));have n0:=Qaw HBX.out HNL.out HUN.out.1;have n1:=Qaw HBX.out HNL.out HUN.out.2.1;have n2:=Qaw HBX.out HNL.out HUN.out.2.2.1;have n3:=Qaw HBX.out HNL.out HUN.out.2.2.2;have nl:=xK _ _ n0;have HC7:=hQ (Qzl _ _ (some ⟨b,off,none⟩) c1 ps (q:Int) t u (w5.alloc (trO ⟨xk,xx,xla,xll,xlc,xka,xkl,xkc⟩)) (HR.out.keep (HB4.out.trans (HBX.out.mono HB4.out.size))) HF.out HW.out HZ.out HZL.out (HUT.out.keep HBX.out) HTFT.out HTWD.out (xQ HT3.out (by decide)));clear hu5 hb5;obtain⟨w6,hw6⟩:∃ W,W=w5.alloc (trO ⟨xk,xx,xla,xll,xlc,xka,xkl,xkc⟩):=⟨_,rfl⟩;go_upto_region 17 with fail
        rw[show w5.alloc (.cells #[.int .i64 xk,.string xx,.slice xla xll xlc,.slice xka xkl xkc] 25)=w6 from hw6.symm];rw[<-hw6]at HC7 HU5 HX5 HBX n0 n1 n2 n3 nl;clear hw6;go_wp2_with fail;go_at_call 9;refine HC7.out.mono ?_;rintro e w7⟨u7,rfl,hu7,hb7⟩;have HB7:=hQ (HBX.out.trans (hb7.mono HBX.out.size));obtain⟨yk,yx,yla,yll,ylc,yka,ykl,ykc⟩:=u7;have HY8:=hQ (xH w7 (trO ⟨yk,yx,yla,yll,ylc,yka,ykl,ykc⟩));have HA8:=hQ (Qcs w7 (trO ⟨yk,yx,yla,yll,ylc,yka,ykl,ykc⟩));have HX8:=hQ ((HA8.out.block _ (xE (Qaa HX5.out) hb7.size)).trans ((hb7.block _ (Qaa HX5.out)).trans HX5.out));have HXU:=hQ ((HU5.out.keep hb7).keep HA8.out);have HYU:=hQ (hu7.keep HA8.out);have HSM:=hQ (Za0 _ _ _ (exT ps (q:Int) t) (exT ps (q:Int) t) ⟨xk,xx,xla,xll,xlc,xka,xkl,xkc⟩ ⟨yk,yx,yla,yll,ylc,yka,ykl,ykc⟩ _ (xA _) HXU.out HYU.out (Zh8 _ _ _));rw[Zla]at HSM;have HB8:=hQ (HB7.out.alloc HB7.out.size (trO ⟨yk,yx,yla,yll,ylc,yka,ykl,ykc⟩));clear hu7 hb7 n0 n1 n2 n3 nl;obtain⟨w8,hw8⟩:∃ W,W=w7.alloc (trO ⟨yk,yx,yla,yll,ylc,yka,ykl,ykc⟩):=⟨_,rfl⟩;go_upto_region 18 with fail
        rw[show w7.alloc (.cells #[.int .i64 yk,.string yx,.slice yla yll ylc,.slice yka ykl ykc] 25)=w8 from hw8.symm];rw[<-hw8]at HY8 HX8 HSM HB8;clear hw8;obtain⟨x0,x1,x2,x3,xl⟩:=Qh2 HX8.out;obtain⟨y0,y1,y2,y3,yl⟩:=Qh2 HY8.out;have g0:((Qdu ps (q:Int) t).1 != (Qdu ps (q:Int) t).1)=false:=by simp
        go_wp2_with fail;go_at_call 10;refine HSM.out.mono ?_;rintro e w9⟨rfl,hb9⟩;have HB9:=hQ (HB8.out.trans (hb9.mono HB8.out.size));clear hb9 x0 x1 x2 x3 xl y0 y1 y2 y3 yl;go_wp2_with fail;go_roundw
        case measure=>first | (simp[intOf];done) | (simp[intOf];omega)
        case rel=>exact⟨d+1,rfl,by omega,HBQ.out.trans (HB9.out.mono HBQ.out.size)⟩
       ·have hde:¬ (d:Int)<(Qai T:Int):=by omega
        go_wp2_with fail;go_roundw
        case measure=>first | (simp[intOf];done) | (simp[intOf];omega)
        case rel=>exact⟨q+1,rfl,by omega,HB3.out.trans (HBQ.out.mono HB3.out.size)⟩
   ·have hqe:¬ (q:Int)<(ps.length:Int):=by omega
    go_wp2_with fail;go_at_call 7;refine(Qs7 _).mono ?_;rintro e w7⟨rfl,hb7⟩;have HB7:=hQ (HB.out.trans ((HBR.out.trans (hb7.mono HBR.out.size)).mono HB.out.size));clear hb7;go_wp2_with fail;go_ret;exact⟨rfl,HB7.out⟩
 ·have d0:=xR hl;clear hl hx;go_enter func4,ntmps4;go_wp2_with (first | (go_at_call 15;refine(Qs8 _ _ _ _).mono ?_;rintro e w0⟨rfl,h0⟩;rw[h0];clear h0 w0) | fail)
  go_at_call 7;refine(Qs7 _).mono ?_;rintro e w7⟨rfl,hb7⟩;have HB7:=hQ hb7;clear hb7;go_wp2_with fail;go_ret;exact⟨rfl,HB7.out⟩
end Go.Proofs.YtfjpemdejoejbaaGreat
