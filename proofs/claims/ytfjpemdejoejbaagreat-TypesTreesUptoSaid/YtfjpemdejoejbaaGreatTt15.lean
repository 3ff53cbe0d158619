/- Part 15 -/
import Derived.Test.YtfjpemdejoejbaaGreatTt12
set_option maxRecDepth 100000
set_option maxHeartbeats 4000000
namespace Go.Proofs.YtfjpemdejoejbaaGreat
open Go.RowKit
def Qg1 (p:PS):Tok:=(p.rest.drop 1).headD Zb3
theorem PAt.s1 {w:World} {b tb off c:Nat} {p:PS} (h:PAt w b p tb off c) (h2:2≤p.rest.length):w.cell? ⟨tb,off+3+2,none⟩=some (.string (Qg1 p).text):=by
 have he:p.rest[1]? = some (Qg1 p):=by
  unfold Qg1;cases hr:p.rest with
  | nil=>rw [hr] at h2;simp at h2
  | cons a r=>cases r with
   | nil=>rw [hr] at h2;simp at h2
   | cons d r=>rfl
 have:=(h.toks.at0 1 _ he).2.2
 simpa using this
def Qdd (p:PS) (w:World) (e:Ending) (w':World):Prop:=e = .returned (.int .i64 (Qbg p))∧Below w.heap.size w w'
theorem Qtr {b:Nat} {p:PS} (w:World) (h:PIn w b p) (k0:((Qad p).kind==5)=true):Calls Tryz.prog 159 #[.pointer (some ⟨b,0,none⟩)] w (Qdd p w):=by
 have HR:=hQ (show Qbg p=10 from by unfold Qbg;rw [xO (show (Qad p).kind=5 from by simpa using k0)]);have HI:=hQ h;obtain ⟨tb,off,c,h⟩:=h;have HP:=hQ h;clear h
 go_enter Tryz.func159,Tryz.ntmps159
 go_wp2_with fail
 go_at_call 132;refine (Qax _ HI.out).mono ?_;rintro e w1 ⟨rfl,hb⟩;have HB:=hQ hb;clear hb
 go_wp2
 go_ret
 exact ⟨by rw [HR.out];rfl,HB.out.alloc HB.out.size _⟩
theorem Qts {b:Nat} {p:PS} (w:World) (h:PIn w b p) (k0:((Qad p).kind==5)=false) (k1:((Qad p).kind==6)=true):Calls Tryz.prog 159 #[.pointer (some ⟨b,0,none⟩)] w (Qdd p w):=by
 have HR:=hQ (show Qbg p=11 from by unfold Qbg;rw [xN (show (Qad p).kind≠5 from by simpa using k0),xO (show (Qad p).kind=6 from by simpa using k1)]);have HI:=hQ h;obtain ⟨tb,off,c,h⟩:=h;have HP:=hQ h;clear h
 go_enter Tryz.func159,Tryz.ntmps159
 go_wp2_with fail
 go_at_call 132;refine (Qax _ HI.out).mono ?_;rintro e w1 ⟨rfl,hb⟩;have HB:=hQ hb;clear hb
 go_wp2
 go_ret
 exact ⟨by rw [HR.out];rfl,HB.out.alloc HB.out.size _⟩
theorem Qtt {b:Nat} {p:PS} (w:World) (h:PIn w b p) (k0:((Qad p).kind==5)=false) (k1:((Qad p).kind==6)=false) (k2:((Qad p).kind==3)=true):Calls Tryz.prog 159 #[.pointer (some ⟨b,0,none⟩)] w (Qdd p w):=by
 have HR:=hQ (show Qbg p=16 from by unfold Qbg;rw [xN (show (Qad p).kind≠5 from by simpa using k0),xN (show (Qad p).kind≠6 from by simpa using k1),xO (show (Qad p).kind=3 from by simpa using k2)]);have HI:=hQ h;obtain ⟨tb,off,c,h⟩:=h;have HP:=hQ h;clear h
 go_enter Tryz.func159,Tryz.ntmps159
 go_wp2_with fail
 go_at_call 132;refine (Qax _ HI.out).mono ?_;rintro e w1 ⟨rfl,hb⟩;have HB:=hQ hb;clear hb
 go_wp2
 go_ret
 exact ⟨by rw [HR.out];rfl,HB.out.alloc HB.out.size _⟩
theorem Qm6 {b:Nat} {p:PS} (w:World) (h:PIn w b p) (k0:((Qad p).kind==5)=false) (k1:((Qad p).kind==6)=false) (k2:((Qad p).kind==3)=false) (k3:((Qad p).kind==1)=true) (t1:((Qg1 p).text.toList == [40])=true):Calls Tryz.prog 159 #[.pointer (some ⟨b,0,none⟩)] w (Qdd p w):=by
 have HR:=hQ (show Qbg p=16 from by unfold Qbg;rw [xN (show (Qad p).kind≠5 from by simpa using k0),xN (show (Qad p).kind≠6 from by simpa using k1),xN (show (Qad p).kind≠3 from by simpa using k2),xO (show (Qad p).kind=1 from by simpa using k3)];show (if is (Qg1 p).text [40] = true then (16:Int) else 12)=16;rw [←Qa0,t1];rfl);have HI:=hQ h;obtain ⟨tb,off,c,h⟩:=h;have HP:=hQ h;have k3':(Qad p).kind=1:=by simpa using k3
 have H2:=hQ (h.ok.second (by rw [k3'];decide));clear k3';have hl2:(1:Int)<(p.rest.length:Int):=by have:=H2.out;omega
 clear h
 go_enter Tryz.func159,Tryz.ntmps159
 go_wp2_with fail
 go_at_call 132;refine (Qax _ HI.out).mono ?_;rintro e w1 ⟨rfl,hb⟩;have HB:=hQ hb;have H1:=hQ (HP.out.keep hb);have d0:=H1.out.c0;have d1:=H1.out.s1 H2.out;have e0:=H1.out.lt;have e1:=xK w1 _ d1;clear hb
 go_wp2
 go_ret
 exact ⟨by rw [HR.out];rfl,HB.out.alloc HB.out.size _⟩
theorem Qof {b:Nat} {p:PS} (w:World) (h:PIn w b p) (k0:((Qad p).kind==5)=false) (k1:((Qad p).kind==6)=false) (k2:((Qad p).kind==3)=false) (k3:((Qad p).kind==1)=true) (t1:((Qg1 p).text.toList == [40])=false):Calls Tryz.prog 159 #[.pointer (some ⟨b,0,none⟩)] w (Qdd p w):=by
 have HR:=hQ (show Qbg p=12 from by unfold Qbg;rw [xN (show (Qad p).kind≠5 from by simpa using k0),xN (show (Qad p).kind≠6 from by simpa using k1),xN (show (Qad p).kind≠3 from by simpa using k2),xO (show (Qad p).kind=1 from by simpa using k3)];show (if is (Qg1 p).text [40] = true then (16:Int) else 12)=12;rw [←Qa0,t1];rfl);have HI:=hQ h;obtain ⟨tb,off,c,h⟩:=h;have HP:=hQ h;have k3':(Qad p).kind=1:=by simpa using k3
 have H2:=hQ (h.ok.second (by rw [k3'];decide));clear k3';have hl2:(1:Int)<(p.rest.length:Int):=by have:=H2.out;omega
 clear h
 go_enter Tryz.func159,Tryz.ntmps159
 go_wp2_with fail
 go_at_call 132;refine (Qax _ HI.out).mono ?_;rintro e w1 ⟨rfl,hb⟩;have HB:=hQ hb;have H1:=hQ (HP.out.keep hb);have d0:=H1.out.c0;have d1:=H1.out.s1 H2.out;have e0:=H1.out.lt;have e1:=xK w1 _ d1;clear hb
 go_wp2
 go_ret
 exact ⟨by rw [HR.out];rfl,HB.out.alloc HB.out.size _⟩
theorem Qqd {b:Nat} {p:PS} (w:World) (h:PIn w b p) (k0:((Qad p).kind==5)=false) (k1:((Qad p).kind==6)=false) (k2:((Qad p).kind==3)=false) (k3:((Qad p).kind==1)=false) (t0:((Qad p).text.toList == [116,114,117,101])=true):Calls Tryz.prog 159 #[.pointer (some ⟨b,0,none⟩)] w (Qdd p w):=by
 have HR:=hQ (show Qbg p=13 from by unfold Qbg;rw [xN (show (Qad p).kind≠5 from by simpa using k0),xN (show (Qad p).kind≠6 from by simpa using k1),xN (show (Qad p).kind≠3 from by simpa using k2),xN (show (Qad p).kind≠1 from by simpa using k3)];simp only [←Qa0,t0];rfl);have HI:=hQ h;obtain ⟨tb,off,c,h⟩:=h;have HP:=hQ h;clear h
 go_enter Tryz.func159,Tryz.ntmps159
 go_wp2_with fail
 go_at_call 132;refine (Qax _ HI.out).mono ?_;rintro e w1 ⟨rfl,hb⟩;have HB:=hQ hb;clear hb
 go_wp2
 go_ret
 exact ⟨by rw [HR.out];rfl,HB.out.alloc HB.out.size _⟩
theorem Qqe {b:Nat} {p:PS} (w:World) (h:PIn w b p) (k0:((Qad p).kind==5)=false) (k1:((Qad p).kind==6)=false) (k2:((Qad p).kind==3)=false) (k3:((Qad p).kind==1)=false) (t0:((Qad p).text.toList == [116,114,117,101])=false) (t1:((Qad p).text.toList == [102,97,108,115,101])=true):Calls Tryz.prog 159 #[.pointer (some ⟨b,0,none⟩)] w (Qdd p w):=by
 have HR:=hQ (show Qbg p=14 from by unfold Qbg;rw [xN (show (Qad p).kind≠5 from by simpa using k0),xN (show (Qad p).kind≠6 from by simpa using k1),xN (show (Qad p).kind≠3 from by simpa using k2),xN (show (Qad p).kind≠1 from by simpa using k3)];simp only [←Qa0,t0,t1];rfl);have HI:=hQ h;obtain ⟨tb,off,c,h⟩:=h;have HP:=hQ h;clear h
 go_enter Tryz.func159,Tryz.ntmps159
 go_wp2_with fail
 go_at_call 132;refine (Qax _ HI.out).mono ?_;rintro e w1 ⟨rfl,hb⟩;have HB:=hQ hb;clear hb
 go_wp2
 go_ret
 exact ⟨by rw [HR.out];rfl,HB.out.alloc HB.out.size _⟩
theorem Qqf {b:Nat} {p:PS} (w:World) (h:PIn w b p) (k0:((Qad p).kind==5)=false) (k1:((Qad p).kind==6)=false) (k2:((Qad p).kind==3)=false) (k3:((Qad p).kind==1)=false) (t0:((Qad p).text.toList == [116,114,117,101])=false) (t1:((Qad p).text.toList == [102,97,108,115,101])=false) (t2:((Qad p).text.toList == [63])=true):Calls Tryz.prog 159 #[.pointer (some ⟨b,0,none⟩)] w (Qdd p w):=by
 have HR:=hQ (show Qbg p=15 from by unfold Qbg;rw [xN (show (Qad p).kind≠5 from by simpa using k0),xN (show (Qad p).kind≠6 from by simpa using k1),xN (show (Qad p).kind≠3 from by simpa using k2),xN (show (Qad p).kind≠1 from by simpa using k3)];simp only [←Qa0,t0,t1,t2];rfl);have HI:=hQ h;obtain ⟨tb,off,c,h⟩:=h;have HP:=hQ h;clear h
 go_enter Tryz.func159,Tryz.ntmps159
 go_wp2_with fail
 go_at_call 132;refine (Qax _ HI.out).mono ?_;rintro e w1 ⟨rfl,hb⟩;have HB:=hQ hb;clear hb
 go_wp2
 go_ret
 exact ⟨by rw [HR.out];rfl,HB.out.alloc HB.out.size _⟩
theorem Qqg {b:Nat} {p:PS} (w:World) (h:PIn w b p) (k0:((Qad p).kind==5)=false) (k1:((Qad p).kind==6)=false) (k2:((Qad p).kind==3)=false) (k3:((Qad p).kind==1)=false) (t0:((Qad p).text.toList == [116,114,117,101])=false) (t1:((Qad p).text.toList == [102,97,108,115,101])=false) (t2:((Qad p).text.toList == [63])=false) (t3:((Qad p).text.toList == [91])=true):Calls Tryz.prog 159 #[.pointer (some ⟨b,0,none⟩)] w (Qdd p w):=by
 have HR:=hQ (show Qbg p=18 from by unfold Qbg;rw [xN (show (Qad p).kind≠5 from by simpa using k0),xN (show (Qad p).kind≠6 from by simpa using k1),xN (show (Qad p).kind≠3 from by simpa using k2),xN (show (Qad p).kind≠1 from by simpa using k3)];simp only [←Qa0,t0,t1,t2,t3];rfl);have HI:=hQ h;obtain ⟨tb,off,c,h⟩:=h;have HP:=hQ h;clear h
 go_enter Tryz.func159,Tryz.ntmps159
 go_wp2_with fail
 go_at_call 132;refine (Qax _ HI.out).mono ?_;rintro e w1 ⟨rfl,hb⟩;have HB:=hQ hb;clear hb
 go_wp2
 go_ret
 exact ⟨by rw [HR.out];rfl,HB.out.alloc HB.out.size _⟩
theorem Qqh {b:Nat} {p:PS} (w:World) (h:PIn w b p) (k0:((Qad p).kind==5)=false) (k1:((Qad p).kind==6)=false) (k2:((Qad p).kind==3)=false) (k3:((Qad p).kind==1)=false) (t0:((Qad p).text.toList == [116,114,117,101])=false) (t1:((Qad p).text.toList == [102,97,108,115,101])=false) (t2:((Qad p).text.toList == [63])=false) (t3:((Qad p).text.toList == [91])=false) (t4:((Qad p).text.toList == [105,102])=true):Calls Tryz.prog 159 #[.pointer (some ⟨b,0,none⟩)] w (Qdd p w):=by
 have HR:=hQ (show Qbg p=19 from by unfold Qbg;rw [xN (show (Qad p).kind≠5 from by simpa using k0),xN (show (Qad p).kind≠6 from by simpa using k1),xN (show (Qad p).kind≠3 from by simpa using k2),xN (show (Qad p).kind≠1 from by simpa using k3)];simp only [←Qa0,t0,t1,t2,t3,t4];rfl);have HI:=hQ h;obtain ⟨tb,off,c,h⟩:=h;have HP:=hQ h;clear h
 go_enter Tryz.func159,Tryz.ntmps159
 go_wp2_with fail
 go_at_call 132;refine (Qax _ HI.out).mono ?_;rintro e w1 ⟨rfl,hb⟩;have HB:=hQ hb;clear hb
 go_wp2
 go_ret
 exact ⟨by rw [HR.out];rfl,HB.out.alloc HB.out.size _⟩
theorem Qqi {b:Nat} {p:PS} (w:World) (h:PIn w b p) (k0:((Qad p).kind==5)=false) (k1:((Qad p).kind==6)=false) (k2:((Qad p).kind==3)=false) (k3:((Qad p).kind==1)=false) (t0:((Qad p).text.toList == [116,114,117,101])=false) (t1:((Qad p).text.toList == [102,97,108,115,101])=false) (t2:((Qad p).text.toList == [63])=false) (t3:((Qad p).text.toList == [91])=false) (t4:((Qad p).text.toList == [105,102])=false) (t5:((Qad p).text.toList == [108,101,116])=true):Calls Tryz.prog 159 #[.pointer (some ⟨b,0,none⟩)] w (Qdd p w):=by
 have HR:=hQ (show Qbg p=20 from by unfold Qbg;rw [xN (show (Qad p).kind≠5 from by simpa using k0),xN (show (Qad p).kind≠6 from by simpa using k1),xN (show (Qad p).kind≠3 from by simpa using k2),xN (show (Qad p).kind≠1 from by simpa using k3)];simp only [←Qa0,t0,t1,t2,t3,t4,t5];rfl);have HI:=hQ h;obtain ⟨tb,off,c,h⟩:=h;have HP:=hQ h;clear h
 go_enter Tryz.func159,Tryz.ntmps159
 go_wp2_with fail
 go_at_call 132;refine (Qax _ HI.out).mono ?_;rintro e w1 ⟨rfl,hb⟩;have HB:=hQ hb;clear hb
 go_wp2
 go_ret
 exact ⟨by rw [HR.out];rfl,HB.out.alloc HB.out.size _⟩
theorem Qqj {b:Nat} {p:PS} (w:World) (h:PIn w b p) (k0:((Qad p).kind==5)=false) (k1:((Qad p).kind==6)=false) (k2:((Qad p).kind==3)=false) (k3:((Qad p).kind==1)=false) (t0:((Qad p).text.toList == [116,114,117,101])=false) (t1:((Qad p).text.toList == [102,97,108,115,101])=false) (t2:((Qad p).text.toList == [63])=false) (t3:((Qad p).text.toList == [91])=false) (t4:((Qad p).text.toList == [105,102])=false) (t5:((Qad p).text.toList == [108,101,116])=false) (t6:((Qad p).text.toList == [40])=true):Calls Tryz.prog 159 #[.pointer (some ⟨b,0,none⟩)] w (Qdd p w):=by
 have HR:=hQ (show Qbg p=22 from by unfold Qbg;rw [xN (show (Qad p).kind≠5 from by simpa using k0),xN (show (Qad p).kind≠6 from by simpa using k1),xN (show (Qad p).kind≠3 from by simpa using k2),xN (show (Qad p).kind≠1 from by simpa using k3)];simp only [←Qa0,t0,t1,t2,t3,t4,t5,t6];rfl);have HI:=hQ h;obtain ⟨tb,off,c,h⟩:=h;have HP:=hQ h;clear h
 go_enter Tryz.func159,Tryz.ntmps159
 go_wp2_with fail
 go_at_call 132;refine (Qax _ HI.out).mono ?_;rintro e w1 ⟨rfl,hb⟩;have HB:=hQ hb;clear hb
 go_wp2
 go_ret
 exact ⟨by rw [HR.out];rfl,HB.out.alloc HB.out.size _⟩
theorem Qqk {b:Nat} {p:PS} (w:World) (h:PIn w b p) (k0:((Qad p).kind==5)=false) (k1:((Qad p).kind==6)=false) (k2:((Qad p).kind==3)=false) (k3:((Qad p).kind==1)=false) (t0:((Qad p).text.toList == [116,114,117,101])=false) (t1:((Qad p).text.toList == [102,97,108,115,101])=false) (t2:((Qad p).text.toList == [63])=false) (t3:((Qad p).text.toList == [91])=false) (t4:((Qad p).text.toList == [105,102])=false) (t5:((Qad p).text.toList == [108,101,116])=false) (t6:((Qad p).text.toList == [40])=false):Calls Tryz.prog 159 #[.pointer (some ⟨b,0,none⟩)] w (Qdd p w):=by
 have HR:=hQ (show Qbg p=0 from by unfold Qbg;rw [xN (show (Qad p).kind≠5 from by simpa using k0),xN (show (Qad p).kind≠6 from by simpa using k1),xN (show (Qad p).kind≠3 from by simpa using k2),xN (show (Qad p).kind≠1 from by simpa using k3)];simp only [←Qa0,t0,t1,t2,t3,t4,t5,t6];rfl);have HI:=hQ h;obtain ⟨tb,off,c,h⟩:=h;have HP:=hQ h;clear h
 go_enter Tryz.func159,Tryz.ntmps159
 go_wp2_with fail
 go_at_call 132;refine (Qax _ HI.out).mono ?_;rintro e w1 ⟨rfl,hb⟩;have HB:=hQ hb;clear hb
 go_wp2
 go_ret
 exact ⟨by rw [HR.out];rfl,HB.out.alloc HB.out.size _⟩
theorem Qig {b:Nat} {p:PS} (w:World) (h:PIn w b p):Calls Tryz.prog 159 #[.pointer (some ⟨b,0,none⟩)] w (Qdd p w):=by
 cases k0:((Qad p).kind==5)
 case true=>exact Qtr w h k0
 cases k1:((Qad p).kind==6)
 case true=>exact Qts w h k0 k1
 cases k2:((Qad p).kind==3)
 case true=>exact Qtt w h k0 k1 k2
 cases k3:((Qad p).kind==1)
 case true =>
  cases t1:((Qg1 p).text.toList == [40])
  case true=>exact Qm6 w h k0 k1 k2 k3 t1
  exact Qof w h k0 k1 k2 k3 t1
 cases t0:((Qad p).text.toList == [116,114,117,101])
 case true=>exact Qqd w h k0 k1 k2 k3 t0
 cases t1:((Qad p).text.toList == [102,97,108,115,101])
 case true=>exact Qqe w h k0 k1 k2 k3 t0 t1
 cases t2:((Qad p).text.toList == [63])
 case true=>exact Qqf w h k0 k1 k2 k3 t0 t1 t2
 cases t3:((Qad p).text.toList == [91])
 case true=>exact Qqg w h k0 k1 k2 k3 t0 t1 t2 t3
 cases t4:((Qad p).text.toList == [105,102])
 case true=>exact Qqh w h k0 k1 k2 k3 t0 t1 t2 t3 t4
 cases t5:((Qad p).text.toList == [108,101,116])
 case true=>exact Qqi w h k0 k1 k2 k3 t0 t1 t2 t3 t4 t5
 cases t6:((Qad p).text.toList == [40])
 case true=>exact Qqj w h k0 k1 k2 k3 t0 t1 t2 t3 t4 t5 t6
 exact Qqk w h k0 k1 k2 k3 t0 t1 t2 t3 t4 t5 t6
theorem Qzn {b:Nat} {p:PS} (w:World) (h:PIn w b p):Calls Tryz.prog 130 #[.pointer (some ⟨b,0,none⟩),.int .i64 1] w fun e w'=>e = .returned (.int .i64 (Qdg 1 p))∧Below w.heap.size w w':=by
 have HI:=hQ h;have HB:=hQ (xC w.heap.size w);clear h;cases hh:Qed 1 (Qef (Qad p).text)
 all_goals
  have HR:=hQ (show Qdg 1 p=_ from by show (if Qed 1 (Qef (Qad p).text)=true then Qef (Qad p).text else 0)=_;rw [hh])
  go_enter Tryz.func130,Tryz.ntmps130
  go_wp2_with (first | (go_at_call 132;refine (Qax _ (by first | exact HI.out | exact HI.out.keep HB.out)).mono ?_;rintro e w1 ⟨rfl,hb⟩;replace HB:=hQ (HB.out.trans (hb.mono HB.out.size));clear hb) | (go_at_call 157;refine (Qid (Qad p) _).mono ?_;rintro e w1 ⟨rfl,hb⟩;replace HB:=hQ (HB.out.trans (hb.mono HB.out.size));clear hb) | (go_at_call 97;refine (Qfu _ _ _).mono ?_;rintro e w2 ⟨rfl,rfl⟩))
  go_ret
  exact ⟨by rw [HR.out];rfl,HB.out⟩
theorem Qzo {b:Nat} {p:PS} (w:World) (h:PIn w b p):Calls Tryz.prog 130 #[.pointer (some ⟨b,0,none⟩),.int .i64 3] w fun e w'=>e = .returned (.int .i64 (Qdg 3 p))∧Below w.heap.size w w':=by
 have HI:=hQ h;have HB:=hQ (xC w.heap.size w);clear h;cases hh:Qed 3 (Qb9 (Qad p))
 all_goals
  have HR:=hQ (show Qdg 3 p=_ from by show (if Qed 3 (Qb9 (Qad p))=true then Qb9 (Qad p) else 0)=_;rw [hh])
  go_enter Tryz.func130,Tryz.ntmps130
  go_wp2_with (first | (go_at_call 132;refine (Qax _ (by first | exact HI.out | exact HI.out.keep HB.out)).mono ?_;rintro e w1 ⟨rfl,hb⟩;replace HB:=hQ (HB.out.trans (hb.mono HB.out.size));clear hb) | (go_at_call 158;refine (Qod (Qad p) _).mono ?_;rintro e w1 ⟨rfl,hb⟩;replace HB:=hQ (HB.out.trans (hb.mono HB.out.size));clear hb) | (go_at_call 97;refine (Qfu _ _ _).mono ?_;rintro e w2 ⟨rfl,rfl⟩))
  go_ret
  exact ⟨by rw [HR.out];rfl,HB.out⟩
theorem Qvw {b:Nat} {p:PS} (w:World) (h:PIn w b p) (hk:((Qad p).kind==1)=true):Calls Tryz.prog 130 #[.pointer (some ⟨b,0,none⟩),.int .i64 2] w fun e w'=>e = .returned (.int .i64 (Qdg 2 p))∧Below w.heap.size w w':=by
 have HI:=hQ h;have HB:=hQ (xC w.heap.size w);clear h;have HR:=hQ (show Qdg 2 p=4 from by unfold Qdg;simp [show (Qad p).kind=1 from by simpa using hk];decide);have hn:Qba 2 (Qad p).kind (Qad p).text=true:=by unfold Qba;simpa using hk
 have hh:Qed 2 4=true:=by decide
 go_enter Tryz.func130,Tryz.ntmps130
 go_wp2_with (first | (go_at_call 132;refine (Qax _ (by first | exact HI.out | exact HI.out.keep HB.out)).mono ?_;rintro e w1 ⟨rfl,hb⟩;replace HB:=hQ (HB.out.trans (hb.mono HB.out.size));clear hb) | (go_at_call 126;refine (Qic (Qad p) _).mono ?_;rintro e w1 ⟨rfl,hb⟩;replace HB:=hQ (HB.out.trans (hb.mono HB.out.size));clear hb) | (go_at_call 97;refine (Qfu _ _ _).mono ?_;rintro e w2 ⟨rfl,rfl⟩))
 go_ret
 exact ⟨by rw [HR.out];rfl,HB.out⟩
theorem Qvx {b:Nat} {p:PS} (w:World) (h:PIn w b p) (hk:((Qad p).kind==1)=false):Calls Tryz.prog 130 #[.pointer (some ⟨b,0,none⟩),.int .i64 2] w fun e w'=>e = .returned (.int .i64 (Qdg 2 p))∧Below w.heap.size w w':=by
 have HI:=hQ h;have HB:=hQ (xC w.heap.size w);clear h;have HR:=hQ (show Qdg 2 p=0 from by unfold Qdg;simp [show (Qad p).kind≠1 from by simpa using hk]);have hn:Qba 2 (Qad p).kind (Qad p).text=false:=by unfold Qba;simpa using hk
 have hh:Qed 2 0=false:=by decide
 go_enter Tryz.func130,Tryz.ntmps130
 go_wp2_with (first | (go_at_call 132;refine (Qax _ (by first | exact HI.out | exact HI.out.keep HB.out)).mono ?_;rintro e w1 ⟨rfl,hb⟩;replace HB:=hQ (HB.out.trans (hb.mono HB.out.size));clear hb) | (go_at_call 126;refine (Qic (Qad p) _).mono ?_;rintro e w1 ⟨rfl,hb⟩;replace HB:=hQ (HB.out.trans (hb.mono HB.out.size));clear hb) | (go_at_call 97;refine (Qfu _ _ _).mono ?_;rintro e w2 ⟨rfl,rfl⟩))
 go_ret
 exact ⟨by rw [HR.out];rfl,HB.out⟩
theorem Qm7 {b:Nat} {p:PS} (s:Int) (w:World) (h:PIn w b p) (s1:(s==1)=false) (s2:(s==2)=false) (s3:(s==3)=false) (s4:(s==4)=false):Calls Tryz.prog 130 #[.pointer (some ⟨b,0,none⟩),.int .i64 s] w fun e w'=>e = .returned (.int .i64 (Qdg s p))∧Below w.heap.size w w':=by
 have HI:=hQ h;have HB:=hQ (xC w.heap.size w);clear h;cases hh:Qed s (Qbg p)
 all_goals
  have HR:=hQ (show Qdg s p=_ from by unfold Qdg;simp only [show s≠1 from by simpa using s1,show s≠2 from by simpa using s2,show s≠3 from by simpa using s3,if_false,hh];rfl)
  go_enter Tryz.func130,Tryz.ntmps130
  go_wp2_with (first | (go_at_call 159;refine (Qig _ HI.out).mono ?_;rintro e w1 ⟨rfl,hb⟩;replace HB:=hQ (HB.out.trans (hb.mono HB.out.size));clear hb) | (go_at_call 97;refine (Qfu _ _ _).mono ?_;rintro e w2 ⟨rfl,rfl⟩))
  go_ret
  exact ⟨by rw [HR.out];rfl,HB.out⟩
theorem Qzp {b:Nat} {p:PS} (w:World) (h:PIn w b p):Calls Tryz.prog 130 #[.pointer (some ⟨b,0,none⟩),.int .i64 4] w fun e w'=>e = .returned (.int .i64 (Qbe 4 p))∧Below w.heap.size w w':=by
 have HI:=hQ h;have HB:=hQ (xC w.heap.size w);have hy:Qed 4 17=true:=by decide
 have hz:Qed 4 0=false:=by decide
 clear h
 cases hh:(Qdg 5 p != 0)
 ·have HR:=hQ (show Qbe 4 p=0 from by unfold Qbe;rw [xO rfl,xN (by simpa using hh)])
  go_enter Tryz.func130,Tryz.ntmps130
  go_wp2_with (first | (go_at_call 130;refine (Qm7 5 _ HI.out (by decide) (by decide) (by decide) (by decide)).mono ?_;rintro e w1 ⟨rfl,hb⟩;replace HB:=hQ (HB.out.trans (hb.mono HB.out.size));clear hb) | (go_at_call 97;refine (Qfu _ _ _).mono ?_;rintro e w2 ⟨rfl,rfl⟩))
  go_ret
  exact ⟨by rw [HR.out];rfl,HB.out⟩
 ·have HR:=hQ (show Qbe 4 p=17 from by unfold Qbe;rw [xO rfl,xO (by simpa using hh)])
  go_enter Tryz.func130,Tryz.ntmps130
  go_wp2_with (first | (go_at_call 130;refine (Qm7 5 _ HI.out (by decide) (by decide) (by decide) (by decide)).mono ?_;rintro e w1 ⟨rfl,hb⟩;replace HB:=hQ (HB.out.trans (hb.mono HB.out.size));clear hb) | (go_at_call 97;refine (Qfu _ _ _).mono ?_;rintro e w2 ⟨rfl,rfl⟩))
  go_ret
  exact ⟨by rw [HR.out];rfl,HB.out⟩
theorem Qcg {b:Nat} {p:PS} (s:Int) (w:World) (h:PIn w b p):Calls Tryz.prog 130 #[.pointer (some ⟨b,0,none⟩),.int .i64 s] w fun e w'=>e = .returned (.int .i64 (Qbe s p))∧Below w.heap.size w w':=by
 by_cases h4:s=4
 ·subst h4;exact Qzp w h
 ·rw [show Qbe s p=Qdg s p from by unfold Qbe;rw [xN h4]];cases s1:(s==1)
  case true=>rw [show s=1 from by simpa using s1];exact Qzn w h
  cases s2:(s==2)
  case true =>
   rw [show s=2 from by simpa using s2];cases hk:((Qad p).kind==1)
   case true=>exact Qvw w h hk
   exact Qvx w h hk
  cases s3:(s==3)
  case true=>rw [show s=3 from by simpa using s3];exact Qzo w h
  exact Qm7 s w h s1 s2 s3 (by simpa using h4)
end Go.Proofs.YtfjpemdejoejbaaGreat
