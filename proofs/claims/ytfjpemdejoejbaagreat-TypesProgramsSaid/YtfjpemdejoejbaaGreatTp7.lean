/- Part 7 -/
import Derived.Test.YtfjpemdejoejbaaGreatTp5
set_option maxRecDepth 100000
set_option maxHeartbeats 4000000
namespace Go.Proofs.YtfjpemdejoejbaaGreat
open Go.Proofs.Tryz Go.RowKit
def Qir(p:PS):Tok:=(p.rest.drop 1).headD Zit
theorem PAt.s1{w:World}{b tb off c:Nat}{p:PS}(h:PAt w b p tb off c)(h2:2<=p.rest.length):w.cell? ⟨tb,off+3+2,none⟩=some (.string (Qir p).text):=by
 have he:p.rest[1]? = some (Qir p):=by
  unfold Qir;cases hr:p.rest with
  | nil=>rw[hr]at h2;simp at h2
  | cons a r=>cases r with
   | nil=>rw[hr]at h2;simp at h2
   | cons d r=>rfl
 have:=(h.toks.at0 1 _ he).2.2
 simpa using this
def Qed(p:PS)(w:World)(e:Ending)(w':World):Prop:=e = .returned (.int .i64 (Qby p))/\Below w.heap.size w w'
theorem Qxi{b:Nat}{p:PS}(w:World)(h:PIn w b p)(k0:((Qad p).kind==5)=true):Calls prog 159 #[.pointer (some ⟨b,0,none⟩)] w (Qed p w):=by
 have HR:=hQ (show Qby p=10 from by unfold Qby;rw[xO (show(Qad p).kind=5 from by simpa using k0)]);have HI:=hQ h;obtain⟨tb,off,c,h⟩:=h;have HP:=hQ h;clear h;go_enter func159,ntmps159;go_wp2_with fail;go_at_call 132;refine(Qbe _ HI.out).mono ?_;rintro e w1⟨rfl,hb⟩;have HB:=hQ hb;clear hb;go_wp2;go_ret;exact⟨by rw[HR.out];rfl,HB.out.alloc HB.out.size _⟩
theorem Qxj{b:Nat}{p:PS}(w:World)(h:PIn w b p)(k0:((Qad p).kind==5)=false)(k1:((Qad p).kind==6)=true):Calls prog 159 #[.pointer (some ⟨b,0,none⟩)] w (Qed p w):=by
 have HR:=hQ (show Qby p=11 from by unfold Qby;rw[xN (show(Qad p).kind≠5 from by simpa using k0),xO (show(Qad p).kind=6 from by simpa using k1)]);have HI:=hQ h;obtain⟨tb,off,c,h⟩:=h;have HP:=hQ h;clear h;go_enter func159,ntmps159;go_wp2_with fail;go_at_call 132;refine(Qbe _ HI.out).mono ?_;rintro e w1⟨rfl,hb⟩;have HB:=hQ hb;clear hb;go_wp2;go_ret;exact⟨by rw[HR.out];rfl,HB.out.alloc HB.out.size _⟩
theorem Qxk{b:Nat}{p:PS}(w:World)(h:PIn w b p)(k0:((Qad p).kind==5)=false)(k1:((Qad p).kind==6)=false)(k2:((Qad p).kind==3)=true):Calls prog 159 #[.pointer (some ⟨b,0,none⟩)] w (Qed p w):=by
 have HR:=hQ (show Qby p=16 from by unfold Qby;rw[xN (show(Qad p).kind≠5 from by simpa using k0),xN (show(Qad p).kind≠6 from by simpa using k1),xO (show(Qad p).kind=3 from by simpa using k2)]);have HI:=hQ h;obtain⟨tb,off,c,h⟩:=h;have HP:=hQ h;clear h;go_enter func159,ntmps159;go_wp2_with fail;go_at_call 132;refine(Qbe _ HI.out).mono ?_;rintro e w1⟨rfl,hb⟩;have HB:=hQ hb;clear hb;go_wp2;go_ret;exact⟨by rw[HR.out];rfl,HB.out.alloc HB.out.size _⟩
theorem Qqb{b:Nat}{p:PS}(w:World)(h:PIn w b p)(k0:((Qad p).kind==5)=false)(k1:((Qad p).kind==6)=false)(k2:((Qad p).kind==3)=false)(k3:((Qad p).kind==1)=true)(t1:((Qir p).text.toList == [40])=true):Calls prog 159 #[.pointer (some ⟨b,0,none⟩)] w (Qed p w):=by
 have HR:=hQ (show Qby p=16 from by unfold Qby;rw[xN (show(Qad p).kind≠5 from by simpa using k0),xN (show(Qad p).kind≠6 from by simpa using k1),xN (show(Qad p).kind≠3 from by simpa using k2),xO (show(Qad p).kind=1 from by simpa using k3)];show(if is (Qir p).text [40] = true then (16:Int) else 12)=16;rw[<-Qbj,t1];rfl);have HI:=hQ h;obtain⟨tb,off,c,h⟩:=h;have HP:=hQ h;have k3':(Qad p).kind=1:=by simpa using k3
 have H2:=hQ (h.ok.second (by rw[k3'];decide));clear k3';have hl2:(1:Int)<(p.rest.length:Int):=by have:=H2.out;omega
 clear h;go_enter func159,ntmps159;go_wp2_with fail;go_at_call 132;refine(Qbe _ HI.out).mono ?_;rintro e w1⟨rfl,hb⟩;have HB:=hQ hb;have H1:=hQ (HP.out.keep hb);have d0:=H1.out.c0;have d1:=H1.out.s1 H2.out;have e0:=H1.out.lt;have e1:=xK w1 _ d1;clear hb;go_wp2;go_ret;exact⟨by rw[HR.out];rfl,HB.out.alloc HB.out.size _⟩
theorem Qri{b:Nat}{p:PS}(w:World)(h:PIn w b p)(k0:((Qad p).kind==5)=false)(k1:((Qad p).kind==6)=false)(k2:((Qad p).kind==3)=false)(k3:((Qad p).kind==1)=true)(t1:((Qir p).text.toList == [40])=false):Calls prog 159 #[.pointer (some ⟨b,0,none⟩)] w (Qed p w):=by
 have HR:=hQ (show Qby p=12 from by unfold Qby;rw[xN (show(Qad p).kind≠5 from by simpa using k0),xN (show(Qad p).kind≠6 from by simpa using k1),xN (show(Qad p).kind≠3 from by simpa using k2),xO (show(Qad p).kind=1 from by simpa using k3)];show(if is (Qir p).text [40] = true then (16:Int) else 12)=12;rw[<-Qbj,t1];rfl);have HI:=hQ h;obtain⟨tb,off,c,h⟩:=h;have HP:=hQ h;have k3':(Qad p).kind=1:=by simpa using k3
 have H2:=hQ (h.ok.second (by rw[k3'];decide));clear k3';have hl2:(1:Int)<(p.rest.length:Int):=by have:=H2.out;omega
 clear h;go_enter func159,ntmps159;go_wp2_with fail;go_at_call 132;refine(Qbe _ HI.out).mono ?_;rintro e w1⟨rfl,hb⟩;have HB:=hQ hb;have H1:=hQ (HP.out.keep hb);have d0:=H1.out.c0;have d1:=H1.out.s1 H2.out;have e0:=H1.out.lt;have e1:=xK w1 _ d1;clear hb;go_wp2;go_ret;exact⟨by rw[HR.out];rfl,HB.out.alloc HB.out.size _⟩
theorem Qtr{b:Nat}{p:PS}(w:World)(h:PIn w b p)(k0:((Qad p).kind==5)=false)(k1:((Qad p).kind==6)=false)(k2:((Qad p).kind==3)=false)(k3:((Qad p).kind==1)=false)(t0:((Qad p).text.toList == [116,114,117,101])=true):Calls prog 159 #[.pointer (some ⟨b,0,none⟩)] w (Qed p w):=by
 have HR:=hQ (show Qby p=13 from by unfold Qby;rw[xN (show(Qad p).kind≠5 from by simpa using k0),xN (show(Qad p).kind≠6 from by simpa using k1),xN (show(Qad p).kind≠3 from by simpa using k2),xN (show(Qad p).kind≠1 from by simpa using k3)];simp only[<-Qbj,t0];rfl);have HI:=hQ h;obtain⟨tb,off,c,h⟩:=h;have HP:=hQ h;clear h;go_enter func159,ntmps159;go_wp2_with fail;go_at_call 132;refine(Qbe _ HI.out).mono ?_;rintro e w1⟨rfl,hb⟩;have HB:=hQ hb;clear hb;go_wp2;go_ret;exact⟨by rw[HR.out];rfl,HB.out.alloc HB.out.size _⟩
theorem Qts{b:Nat}{p:PS}(w:World)(h:PIn w b p)(k0:((Qad p).kind==5)=false)(k1:((Qad p).kind==6)=false)(k2:((Qad p).kind==3)=false)(k3:((Qad p).kind==1)=false)(t0:((Qad p).text.toList == [116,114,117,101])=false)(t1:((Qad p).text.toList == [102,97,108,115,101])=true):Calls prog 159 #[.pointer (some ⟨b,0,none⟩)] w (Qed p w):=by
 have HR:=hQ (show Qby p=14 from by unfold Qby;rw[xN (show(Qad p).kind≠5 from by simpa using k0),xN (show(Qad p).kind≠6 from by simpa using k1),xN (show(Qad p).kind≠3 from by simpa using k2),xN (show(Qad p).kind≠1 from by simpa using k3)];simp only[<-Qbj,t0,t1];rfl);have HI:=hQ h;obtain⟨tb,off,c,h⟩:=h;have HP:=hQ h;clear h;go_enter func159,ntmps159;go_wp2_with fail;go_at_call 132;refine(Qbe _ HI.out).mono ?_;rintro e w1⟨rfl,hb⟩;have HB:=hQ hb;clear hb;go_wp2;go_ret;exact⟨by rw[HR.out];rfl,HB.out.alloc HB.out.size _⟩
theorem Qtt{b:Nat}{p:PS}(w:World)(h:PIn w b p)(k0:((Qad p).kind==5)=false)(k1:((Qad p).kind==6)=false)(k2:((Qad p).kind==3)=false)(k3:((Qad p).kind==1)=false)(t0:((Qad p).text.toList == [116,114,117,101])=false)(t1:((Qad p).text.toList == [102,97,108,115,101])=false)(t2:((Qad p).text.toList == [63])=true):Calls prog 159 #[.pointer (some ⟨b,0,none⟩)] w (Qed p w):=by
 have HR:=hQ (show Qby p=15 from by unfold Qby;rw[xN (show(Qad p).kind≠5 from by simpa using k0),xN (show(Qad p).kind≠6 from by simpa using k1),xN (show(Qad p).kind≠3 from by simpa using k2),xN (show(Qad p).kind≠1 from by simpa using k3)];simp only[<-Qbj,t0,t1,t2];rfl);have HI:=hQ h;obtain⟨tb,off,c,h⟩:=h;have HP:=hQ h;clear h;go_enter func159,ntmps159;go_wp2_with fail;go_at_call 132;refine(Qbe _ HI.out).mono ?_;rintro e w1⟨rfl,hb⟩;have HB:=hQ hb;clear hb;go_wp2;go_ret;exact⟨by rw[HR.out];rfl,HB.out.alloc HB.out.size _⟩
theorem Qtu{b:Nat}{p:PS}(w:World)(h:PIn w b p)(k0:((Qad p).kind==5)=false)(k1:((Qad p).kind==6)=false)(k2:((Qad p).kind==3)=false)(k3:((Qad p).kind==1)=false)(t0:((Qad p).text.toList == [116,114,117,101])=false)(t1:((Qad p).text.toList == [102,97,108,115,101])=false)(t2:((Qad p).text.toList == [63])=false)(t3:((Qad p).text.toList == [91])=true):Calls prog 159 #[.pointer (some ⟨b,0,none⟩)] w (Qed p w):=by
 have HR:=hQ (show Qby p=18 from by unfold Qby;rw[xN (show(Qad p).kind≠5 from by simpa using k0),xN (show(Qad p).kind≠6 from by simpa using k1),xN (show(Qad p).kind≠3 from by simpa using k2),xN (show(Qad p).kind≠1 from by simpa using k3)];simp only[<-Qbj,t0,t1,t2,t3];rfl);have HI:=hQ h;obtain⟨tb,off,c,h⟩:=h;have HP:=hQ h;clear h;go_enter func159,ntmps159;go_wp2_with fail;go_at_call 132;refine(Qbe _ HI.out).mono ?_;rintro e w1⟨rfl,hb⟩;have HB:=hQ hb;clear hb;go_wp2;go_ret;exact⟨by rw[HR.out];rfl,HB.out.alloc HB.out.size _⟩
theorem Qtv{b:Nat}{p:PS}(w:World)(h:PIn w b p)(k0:((Qad p).kind==5)=false)(k1:((Qad p).kind==6)=false)(k2:((Qad p).kind==3)=false)(k3:((Qad p).kind==1)=false)(t0:((Qad p).text.toList == [116,114,117,101])=false)(t1:((Qad p).text.toList == [102,97,108,115,101])=false)(t2:((Qad p).text.toList == [63])=false)(t3:((Qad p).text.toList == [91])=false)(t4:((Qad p).text.toList == [105,102])=true):Calls prog 159 #[.pointer (some ⟨b,0,none⟩)] w (Qed p w):=by
 have HR:=hQ (show Qby p=19 from by unfold Qby;rw[xN (show(Qad p).kind≠5 from by simpa using k0),xN (show(Qad p).kind≠6 from by simpa using k1),xN (show(Qad p).kind≠3 from by simpa using k2),xN (show(Qad p).kind≠1 from by simpa using k3)];simp only[<-Qbj,t0,t1,t2,t3,t4];rfl);have HI:=hQ h;obtain⟨tb,off,c,h⟩:=h;have HP:=hQ h;clear h;go_enter func159,ntmps159;go_wp2_with fail;go_at_call 132;refine(Qbe _ HI.out).mono ?_;rintro e w1⟨rfl,hb⟩;have HB:=hQ hb;clear hb;go_wp2;go_ret;exact⟨by rw[HR.out];rfl,HB.out.alloc HB.out.size _⟩
theorem Qtw{b:Nat}{p:PS}(w:World)(h:PIn w b p)(k0:((Qad p).kind==5)=false)(k1:((Qad p).kind==6)=false)(k2:((Qad p).kind==3)=false)(k3:((Qad p).kind==1)=false)(t0:((Qad p).text.toList == [116,114,117,101])=false)(t1:((Qad p).text.toList == [102,97,108,115,101])=false)(t2:((Qad p).text.toList == [63])=false)(t3:((Qad p).text.toList == [91])=false)(t4:((Qad p).text.toList == [105,102])=false)(t5:((Qad p).text.toList == [108,101,116])=true):Calls prog 159 #[.pointer (some ⟨b,0,none⟩)] w (Qed p w):=by
 have HR:=hQ (show Qby p=20 from by unfold Qby;rw[xN (show(Qad p).kind≠5 from by simpa using k0),xN (show(Qad p).kind≠6 from by simpa using k1),xN (show(Qad p).kind≠3 from by simpa using k2),xN (show(Qad p).kind≠1 from by simpa using k3)];simp only[<-Qbj,t0,t1,t2,t3,t4,t5];rfl);have HI:=hQ h;obtain⟨tb,off,c,h⟩:=h;have HP:=hQ h;clear h;go_enter func159,ntmps159;go_wp2_with fail;go_at_call 132;refine(Qbe _ HI.out).mono ?_;rintro e w1⟨rfl,hb⟩;have HB:=hQ hb;clear hb;go_wp2;go_ret;exact⟨by rw[HR.out];rfl,HB.out.alloc HB.out.size _⟩
theorem Qtx{b:Nat}{p:PS}(w:World)(h:PIn w b p)(k0:((Qad p).kind==5)=false)(k1:((Qad p).kind==6)=false)(k2:((Qad p).kind==3)=false)(k3:((Qad p).kind==1)=false)(t0:((Qad p).text.toList == [116,114,117,101])=false)(t1:((Qad p).text.toList == [102,97,108,115,101])=false)(t2:((Qad p).text.toList == [63])=false)(t3:((Qad p).text.toList == [91])=false)(t4:((Qad p).text.toList == [105,102])=false)(t5:((Qad p).text.toList == [108,101,116])=false)(t6:((Qad p).text.toList == [40])=true):Calls prog 159 #[.pointer (some ⟨b,0,none⟩)] w (Qed p w):=by
 have HR:=hQ (show Qby p=22 from by unfold Qby;rw[xN (show(Qad p).kind≠5 from by simpa using k0),xN (show(Qad p).kind≠6 from by simpa using k1),xN (show(Qad p).kind≠3 from by simpa using k2),xN (show(Qad p).kind≠1 from by simpa using k3)];simp only[<-Qbj,t0,t1,t2,t3,t4,t5,t6];rfl);have HI:=hQ h;obtain⟨tb,off,c,h⟩:=h;have HP:=hQ h;clear h;go_enter func159,ntmps159;go_wp2_with fail;go_at_call 132;refine(Qbe _ HI.out).mono ?_;rintro e w1⟨rfl,hb⟩;have HB:=hQ hb;clear hb;go_wp2;go_ret;exact⟨by rw[HR.out];rfl,HB.out.alloc HB.out.size _⟩
theorem Qty{b:Nat}{p:PS}(w:World)(h:PIn w b p)(k0:((Qad p).kind==5)=false)(k1:((Qad p).kind==6)=false)(k2:((Qad p).kind==3)=false)(k3:((Qad p).kind==1)=false)(t0:((Qad p).text.toList == [116,114,117,101])=false)(t1:((Qad p).text.toList == [102,97,108,115,101])=false)(t2:((Qad p).text.toList == [63])=false)(t3:((Qad p).text.toList == [91])=false)(t4:((Qad p).text.toList == [105,102])=false)(t5:((Qad p).text.toList == [108,101,116])=false)(t6:((Qad p).text.toList == [40])=false):Calls prog 159 #[.pointer (some ⟨b,0,none⟩)] w (Qed p w):=by
 have HR:=hQ (show Qby p=0 from by unfold Qby;rw[xN (show(Qad p).kind≠5 from by simpa using k0),xN (show(Qad p).kind≠6 from by simpa using k1),xN (show(Qad p).kind≠3 from by simpa using k2),xN (show(Qad p).kind≠1 from by simpa using k3)];simp only[<-Qbj,t0,t1,t2,t3,t4,t5,t6];rfl);have HI:=hQ h;obtain⟨tb,off,c,h⟩:=h;have HP:=hQ h;clear h;go_enter func159,ntmps159;go_wp2_with fail;go_at_call 132;refine(Qbe _ HI.out).mono ?_;rintro e w1⟨rfl,hb⟩;have HB:=hQ hb;clear hb;go_wp2;go_ret;exact⟨by rw[HR.out];rfl,HB.out.alloc HB.out.size _⟩
theorem Qki{b:Nat}{p:PS}(w:World)(h:PIn w b p):Calls prog 159 #[.pointer (some ⟨b,0,none⟩)] w (Qed p w):=by
 cases k0:((Qad p).kind==5)
 case true=>exact Qxi w h k0
 cases k1:((Qad p).kind==6)
 case true=>exact Qxj w h k0 k1
 cases k2:((Qad p).kind==3)
 case true=>exact Qxk w h k0 k1 k2
 cases k3:((Qad p).kind==1)
 case true =>
  cases t1:((Qir p).text.toList == [40])
  case true=>exact Qqb w h k0 k1 k2 k3 t1
  exact Qri w h k0 k1 k2 k3 t1
 cases t0:((Qad p).text.toList == [116,114,117,101])
 case true=>exact Qtr w h k0 k1 k2 k3 t0
 cases t1:((Qad p).text.toList == [102,97,108,115,101])
 case true=>exact Qts w h k0 k1 k2 k3 t0 t1
 cases t2:((Qad p).text.toList == [63])
 case true=>exact Qtt w h k0 k1 k2 k3 t0 t1 t2
 cases t3:((Qad p).text.toList == [91])
 case true=>exact Qtu w h k0 k1 k2 k3 t0 t1 t2 t3
 cases t4:((Qad p).text.toList == [105,102])
 case true=>exact Qtv w h k0 k1 k2 k3 t0 t1 t2 t3 t4
 cases t5:((Qad p).text.toList == [108,101,116])
 case true=>exact Qtw w h k0 k1 k2 k3 t0 t1 t2 t3 t4 t5
 cases t6:((Qad p).text.toList == [40])
 case true=>exact Qtx w h k0 k1 k2 k3 t0 t1 t2 t3 t4 t5 t6
 exact Qty w h k0 k1 k2 k3 t0 t1 t2 t3 t4 t5 t6
theorem Zfq{b:Nat}{p:PS}(w:World)(h:PIn w b p):Calls prog 130 #[.pointer (some ⟨b,0,none⟩),.int .i64 1] w fun e w'=>e = .returned (.int .i64 (Qeh 1 p))/\Below w.heap.size w w':=by
 have HI:=hQ h;have HB:=hQ (xC w.heap.size w);clear h;cases hh:Qfd 1 (Qff (Qad p).text)
 all_goals
  have HR:=hQ (show Qeh 1 p=_ from by show(if Qfd 1 (Qff (Qad p).text)=true then Qff (Qad p).text else 0)=_;rw[hh]);go_enter func130,ntmps130;go_wp2_with (first | (go_at_call 132;refine(Qbe _ (by first | exact HI.out | exact HI.out.keep HB.out)).mono ?_;rintro e w1⟨rfl,hb⟩;replace HB:=hQ (yC HB.out hb);clear hb) | (go_at_call 157;refine(Qkf (Qad p) _).mono ?_;rintro e w1⟨rfl,hb⟩;replace HB:=hQ (yC HB.out hb);clear hb) | (go_at_call 97;refine(Qhb _ _ _).mono ?_;rintro e w2⟨rfl,rfl⟩))
  go_ret;exact⟨by rw[HR.out];rfl,HB.out⟩
theorem Zfr{b:Nat}{p:PS}(w:World)(h:PIn w b p):Calls prog 130 #[.pointer (some ⟨b,0,none⟩),.int .i64 3] w fun e w'=>e = .returned (.int .i64 (Qeh 3 p))/\Below w.heap.size w w':=by
 have HI:=hQ h;have HB:=hQ (xC w.heap.size w);clear h;cases hh:Qfd 3 (Qc2 (Qad p))
 all_goals
  have HR:=hQ (show Qeh 3 p=_ from by show(if Qfd 3 (Qc2 (Qad p))=true then Qc2 (Qad p) else 0)=_;rw[hh]);go_enter func130,ntmps130;go_wp2_with (first | (go_at_call 132;refine(Qbe _ (by first | exact HI.out | exact HI.out.keep HB.out)).mono ?_;rintro e w1⟨rfl,hb⟩;replace HB:=hQ (yC HB.out hb);clear hb) | (go_at_call 158;refine(Qrf (Qad p) _).mono ?_;rintro e w1⟨rfl,hb⟩;replace HB:=hQ (yC HB.out hb);clear hb) | (go_at_call 97;refine(Qhb _ _ _).mono ?_;rintro e w2⟨rfl,rfl⟩))
  go_ret;exact⟨by rw[HR.out];rfl,HB.out⟩
theorem Zak{b:Nat}{p:PS}(w:World)(h:PIn w b p)(hk:((Qad p).kind==1)=true):Calls prog 130 #[.pointer (some ⟨b,0,none⟩),.int .i64 2] w fun e w'=>e = .returned (.int .i64 (Qeh 2 p))/\Below w.heap.size w w':=by
 have HI:=hQ h;have HB:=hQ (xC w.heap.size w);clear h;have HR:=hQ (show Qeh 2 p=4 from by unfold Qeh;simp[show(Qad p).kind=1 from by simpa using hk];decide);have hn:Qbv 2 (Qad p).kind (Qad p).text=true:=by unfold Qbv;simpa using hk
 have hh:Qfd 2 4=true:=by decide
 go_enter func130,ntmps130;go_wp2_with (first | (go_at_call 132;refine(Qbe _ (by first | exact HI.out | exact HI.out.keep HB.out)).mono ?_;rintro e w1⟨rfl,hb⟩;replace HB:=hQ (yC HB.out hb);clear hb) | (go_at_call 126;refine(Qke (Qad p) _).mono ?_;rintro e w1⟨rfl,hb⟩;replace HB:=hQ (yC HB.out hb);clear hb) | (go_at_call 97;refine(Qhb _ _ _).mono ?_;rintro e w2⟨rfl,rfl⟩))
 go_ret;exact⟨by rw[HR.out];rfl,HB.out⟩
theorem Zal{b:Nat}{p:PS}(w:World)(h:PIn w b p)(hk:((Qad p).kind==1)=false):Calls prog 130 #[.pointer (some ⟨b,0,none⟩),.int .i64 2] w fun e w'=>e = .returned (.int .i64 (Qeh 2 p))/\Below w.heap.size w w':=by
 have HI:=hQ h;have HB:=hQ (xC w.heap.size w);clear h;have HR:=hQ (show Qeh 2 p=0 from by unfold Qeh;simp[show(Qad p).kind≠1 from by simpa using hk]);have hn:Qbv 2 (Qad p).kind (Qad p).text=false:=by unfold Qbv;simpa using hk
 have hh:Qfd 2 0=false:=by decide
 go_enter func130,ntmps130;go_wp2_with (first | (go_at_call 132;refine(Qbe _ (by first | exact HI.out | exact HI.out.keep HB.out)).mono ?_;rintro e w1⟨rfl,hb⟩;replace HB:=hQ (yC HB.out hb);clear hb) | (go_at_call 126;refine(Qke (Qad p) _).mono ?_;rintro e w1⟨rfl,hb⟩;replace HB:=hQ (yC HB.out hb);clear hb) | (go_at_call 97;refine(Qhb _ _ _).mono ?_;rintro e w2⟨rfl,rfl⟩))
 go_ret;exact⟨by rw[HR.out];rfl,HB.out⟩
theorem Qqc{b:Nat}{p:PS}(s:Int)(w:World)(h:PIn w b p)(s1:(s==1)=false)(s2:(s==2)=false)(s3:(s==3)=false)(s4:(s==4)=false):Calls prog 130 #[.pointer (some ⟨b,0,none⟩),.int .i64 s] w fun e w'=>e = .returned (.int .i64 (Qeh s p))/\Below w.heap.size w w':=by
 have HI:=hQ h;have HB:=hQ (xC w.heap.size w);clear h;cases hh:Qfd s (Qby p)
 all_goals
  have HR:=hQ (show Qeh s p=_ from by unfold Qeh;simp only[show s≠1 from by simpa using s1,show s≠2 from by simpa using s2,show s≠3 from by simpa using s3,if_false,hh];rfl);go_enter func130,ntmps130;go_wp2_with (first | (go_at_call 159;refine(Qki _ HI.out).mono ?_;rintro e w1⟨rfl,hb⟩;replace HB:=hQ (yC HB.out hb);clear hb) | (go_at_call 97;refine(Qhb _ _ _).mono ?_;rintro e w2⟨rfl,rfl⟩))
  go_ret;exact⟨by rw[HR.out];rfl,HB.out⟩
theorem Zfs{b:Nat}{p:PS}(w:World)(h:PIn w b p):Calls prog 130 #[.pointer (some ⟨b,0,none⟩),.int .i64 4] w fun e w'=>e = .returned (.int .i64 (Qbw 4 p))/\Below w.heap.size w w':=by
 have HI:=hQ h;have HB:=hQ (xC w.heap.size w);have hy:Qfd 4 17=true:=by decide
 have hz:Qfd 4 0=false:=by decide
 clear h
 cases hh:(Qeh 5 p != 0)
 ·have HR:=hQ (show Qbw 4 p=0 from by unfold Qbw;rw[xO rfl,xN (by simpa using hh)]);go_enter func130,ntmps130;go_wp2_with (first | (go_at_call 130;refine(Qqc 5 _ HI.out (by decide) (by decide) (by decide) (by decide)).mono ?_;rintro e w1⟨rfl,hb⟩;replace HB:=hQ (yC HB.out hb);clear hb) | (go_at_call 97;refine(Qhb _ _ _).mono ?_;rintro e w2⟨rfl,rfl⟩))
  go_ret;exact⟨by rw[HR.out];rfl,HB.out⟩
 ·have HR:=hQ (show Qbw 4 p=17 from by unfold Qbw;rw[xO rfl,xO (by simpa using hh)]);go_enter func130,ntmps130;go_wp2_with (first | (go_at_call 130;refine(Qqc 5 _ HI.out (by decide) (by decide) (by decide) (by decide)).mono ?_;rintro e w1⟨rfl,hb⟩;replace HB:=hQ (yC HB.out hb);clear hb) | (go_at_call 97;refine(Qhb _ _ _).mono ?_;rintro e w2⟨rfl,rfl⟩))
  go_ret;exact⟨by rw[HR.out];rfl,HB.out⟩
theorem Qc5{b:Nat}{p:PS}(s:Int)(w:World)(h:PIn w b p):Calls prog 130 #[.pointer (some ⟨b,0,none⟩),.int .i64 s] w fun e w'=>e = .returned (.int .i64 (Qbw s p))/\Below w.heap.size w w':=by
 by_cases h4:s=4
 ·subst h4;exact Zfs w h
 ·rw[show Qbw s p=Qeh s p from by unfold Qbw;rw[xN h4]];cases s1:(s==1)
  case true=>rw[show s=1 from by simpa using s1];exact Zfq w h
  cases s2:(s==2)
  case true =>
   rw[show s=2 from by simpa using s2];cases hk:((Qad p).kind==1)
   case true=>exact Zak w h hk
   exact Zal w h hk
  cases s3:(s==3)
  case true=>rw[show s=3 from by simpa using s3];exact Zfr w h
  exact Qqc s w h s1 s2 s3 (by simpa using h4)
end Go.Proofs.YtfjpemdejoejbaaGreat
