/- Part 9 -/
import Derived.Test.YtfjpemdejoejbaaGreatSg7
set_option maxRecDepth 100000
set_option maxHeartbeats 4000000
namespace Go.Proofs.YtfjpemdejoejbaaGreat
open Go.RowKit
def Qid (p:PS):Tok:=(p.rest.drop 1).headD Zfi
theorem PAt.s1 {w:World} {b tb off c:Nat} {p:PS} (h:PAt w b p tb off c) (h2:2≤p.rest.length):w.cell? ⟨tb,off+3+2,none⟩=some (.string (Qid p).text):=by
 have he:p.rest[1]? = some (Qid p):=by
  unfold Qid;cases hr:p.rest with
  | nil=>rw [hr] at h2;simp at h2
  | cons a r=>cases r with
   | nil=>rw [hr] at h2;simp at h2
   | cons d r=>rfl
 have:=(h.toks.at0 1 _ he).2.2
 simpa using this
def Qd6 (p:PS) (w:World) (e:Ending) (w':World):Prop:=e = .returned (.int .i64 (Qbp p))∧Below w.heap.size w w'
theorem Qvy {b:Nat} {p:PS} (w:World) (h:PIn w b p) (k0:((Qad p).kind==5)=true):Calls Tryz.prog 159 #[.pointer (some ⟨b,0,none⟩)] w (Qd6 p w):=by
 have HR:=hQ (show Qbp p=10 from by unfold Qbp;rw [xO (show (Qad p).kind=5 from by simpa using k0)]);have HI:=hQ h;obtain ⟨tb,off,c,h⟩:=h;have HP:=hQ h;clear h
 go_enter Tryz.func159,Tryz.ntmps159
 go_wp2_with fail
 go_at_call 132;refine (Qa6 _ HI.out).mono ?_;rintro e w1 ⟨rfl,hb⟩;have HB:=hQ hb;clear hb
 go_wp2
 go_ret
 exact ⟨by rw [HR.out];rfl,HB.out.alloc HB.out.size _⟩
theorem Qvz {b:Nat} {p:PS} (w:World) (h:PIn w b p) (k0:((Qad p).kind==5)=false) (k1:((Qad p).kind==6)=true):Calls Tryz.prog 159 #[.pointer (some ⟨b,0,none⟩)] w (Qd6 p w):=by
 have HR:=hQ (show Qbp p=11 from by unfold Qbp;rw [xN (show (Qad p).kind≠5 from by simpa using k0),xO (show (Qad p).kind=6 from by simpa using k1)]);have HI:=hQ h;obtain ⟨tb,off,c,h⟩:=h;have HP:=hQ h;clear h
 go_enter Tryz.func159,Tryz.ntmps159
 go_wp2_with fail
 go_at_call 132;refine (Qa6 _ HI.out).mono ?_;rintro e w1 ⟨rfl,hb⟩;have HB:=hQ hb;clear hb
 go_wp2
 go_ret
 exact ⟨by rw [HR.out];rfl,HB.out.alloc HB.out.size _⟩
theorem Qv0 {b:Nat} {p:PS} (w:World) (h:PIn w b p) (k0:((Qad p).kind==5)=false) (k1:((Qad p).kind==6)=false) (k2:((Qad p).kind==3)=true):Calls Tryz.prog 159 #[.pointer (some ⟨b,0,none⟩)] w (Qd6 p w):=by
 have HR:=hQ (show Qbp p=16 from by unfold Qbp;rw [xN (show (Qad p).kind≠5 from by simpa using k0),xN (show (Qad p).kind≠6 from by simpa using k1),xO (show (Qad p).kind=3 from by simpa using k2)]);have HI:=hQ h;obtain ⟨tb,off,c,h⟩:=h;have HP:=hQ h;clear h
 go_enter Tryz.func159,Tryz.ntmps159
 go_wp2_with fail
 go_at_call 132;refine (Qa6 _ HI.out).mono ?_;rintro e w1 ⟨rfl,hb⟩;have HB:=hQ hb;clear hb
 go_wp2
 go_ret
 exact ⟨by rw [HR.out];rfl,HB.out.alloc HB.out.size _⟩
theorem Qo1 {b:Nat} {p:PS} (w:World) (h:PIn w b p) (k0:((Qad p).kind==5)=false) (k1:((Qad p).kind==6)=false) (k2:((Qad p).kind==3)=false) (k3:((Qad p).kind==1)=true) (t1:((Qid p).text.toList == [40])=true):Calls Tryz.prog 159 #[.pointer (some ⟨b,0,none⟩)] w (Qd6 p w):=by
 have HR:=hQ (show Qbp p=16 from by unfold Qbp;rw [xN (show (Qad p).kind≠5 from by simpa using k0),xN (show (Qad p).kind≠6 from by simpa using k1),xN (show (Qad p).kind≠3 from by simpa using k2),xO (show (Qad p).kind=1 from by simpa using k3)];show (if is (Qid p).text [40] = true then (16:Int) else 12)=16;rw [←Qbb,t1];rfl);have HI:=hQ h;obtain ⟨tb,off,c,h⟩:=h;have HP:=hQ h;have k3':(Qad p).kind=1:=by simpa using k3
 have H2:=hQ (h.ok.second (by rw [k3'];decide));clear k3';have hl2:(1:Int)<(p.rest.length:Int):=by have:=H2.out;omega
 clear h
 go_enter Tryz.func159,Tryz.ntmps159
 go_wp2_with fail
 go_at_call 132;refine (Qa6 _ HI.out).mono ?_;rintro e w1 ⟨rfl,hb⟩;have HB:=hQ hb;have H1:=hQ (HP.out.keep hb);have d0:=H1.out.c0;have d1:=H1.out.s1 H2.out;have e0:=H1.out.lt;have e1:=xK w1 _ d1;clear hb
 go_wp2
 go_ret
 exact ⟨by rw [HR.out];rfl,HB.out.alloc HB.out.size _⟩
theorem Qp5 {b:Nat} {p:PS} (w:World) (h:PIn w b p) (k0:((Qad p).kind==5)=false) (k1:((Qad p).kind==6)=false) (k2:((Qad p).kind==3)=false) (k3:((Qad p).kind==1)=true) (t1:((Qid p).text.toList == [40])=false):Calls Tryz.prog 159 #[.pointer (some ⟨b,0,none⟩)] w (Qd6 p w):=by
 have HR:=hQ (show Qbp p=12 from by unfold Qbp;rw [xN (show (Qad p).kind≠5 from by simpa using k0),xN (show (Qad p).kind≠6 from by simpa using k1),xN (show (Qad p).kind≠3 from by simpa using k2),xO (show (Qad p).kind=1 from by simpa using k3)];show (if is (Qid p).text [40] = true then (16:Int) else 12)=12;rw [←Qbb,t1];rfl);have HI:=hQ h;obtain ⟨tb,off,c,h⟩:=h;have HP:=hQ h;have k3':(Qad p).kind=1:=by simpa using k3
 have H2:=hQ (h.ok.second (by rw [k3'];decide));clear k3';have hl2:(1:Int)<(p.rest.length:Int):=by have:=H2.out;omega
 clear h
 go_enter Tryz.func159,Tryz.ntmps159
 go_wp2_with fail
 go_at_call 132;refine (Qa6 _ HI.out).mono ?_;rintro e w1 ⟨rfl,hb⟩;have HB:=hQ hb;have H1:=hQ (HP.out.keep hb);have d0:=H1.out.c0;have d1:=H1.out.s1 H2.out;have e0:=H1.out.lt;have e1:=xK w1 _ d1;clear hb
 go_wp2
 go_ret
 exact ⟨by rw [HR.out];rfl,HB.out.alloc HB.out.size _⟩
theorem Qr9 {b:Nat} {p:PS} (w:World) (h:PIn w b p) (k0:((Qad p).kind==5)=false) (k1:((Qad p).kind==6)=false) (k2:((Qad p).kind==3)=false) (k3:((Qad p).kind==1)=false) (t0:((Qad p).text.toList == [116,114,117,101])=true):Calls Tryz.prog 159 #[.pointer (some ⟨b,0,none⟩)] w (Qd6 p w):=by
 have HR:=hQ (show Qbp p=13 from by unfold Qbp;rw [xN (show (Qad p).kind≠5 from by simpa using k0),xN (show (Qad p).kind≠6 from by simpa using k1),xN (show (Qad p).kind≠3 from by simpa using k2),xN (show (Qad p).kind≠1 from by simpa using k3)];simp only [←Qbb,t0];rfl);have HI:=hQ h;obtain ⟨tb,off,c,h⟩:=h;have HP:=hQ h;clear h
 go_enter Tryz.func159,Tryz.ntmps159
 go_wp2_with fail
 go_at_call 132;refine (Qa6 _ HI.out).mono ?_;rintro e w1 ⟨rfl,hb⟩;have HB:=hQ hb;clear hb
 go_wp2
 go_ret
 exact ⟨by rw [HR.out];rfl,HB.out.alloc HB.out.size _⟩
theorem Qsa {b:Nat} {p:PS} (w:World) (h:PIn w b p) (k0:((Qad p).kind==5)=false) (k1:((Qad p).kind==6)=false) (k2:((Qad p).kind==3)=false) (k3:((Qad p).kind==1)=false) (t0:((Qad p).text.toList == [116,114,117,101])=false) (t1:((Qad p).text.toList == [102,97,108,115,101])=true):Calls Tryz.prog 159 #[.pointer (some ⟨b,0,none⟩)] w (Qd6 p w):=by
 have HR:=hQ (show Qbp p=14 from by unfold Qbp;rw [xN (show (Qad p).kind≠5 from by simpa using k0),xN (show (Qad p).kind≠6 from by simpa using k1),xN (show (Qad p).kind≠3 from by simpa using k2),xN (show (Qad p).kind≠1 from by simpa using k3)];simp only [←Qbb,t0,t1];rfl);have HI:=hQ h;obtain ⟨tb,off,c,h⟩:=h;have HP:=hQ h;clear h
 go_enter Tryz.func159,Tryz.ntmps159
 go_wp2_with fail
 go_at_call 132;refine (Qa6 _ HI.out).mono ?_;rintro e w1 ⟨rfl,hb⟩;have HB:=hQ hb;clear hb
 go_wp2
 go_ret
 exact ⟨by rw [HR.out];rfl,HB.out.alloc HB.out.size _⟩
theorem Qsb {b:Nat} {p:PS} (w:World) (h:PIn w b p) (k0:((Qad p).kind==5)=false) (k1:((Qad p).kind==6)=false) (k2:((Qad p).kind==3)=false) (k3:((Qad p).kind==1)=false) (t0:((Qad p).text.toList == [116,114,117,101])=false) (t1:((Qad p).text.toList == [102,97,108,115,101])=false) (t2:((Qad p).text.toList == [63])=true):Calls Tryz.prog 159 #[.pointer (some ⟨b,0,none⟩)] w (Qd6 p w):=by
 have HR:=hQ (show Qbp p=15 from by unfold Qbp;rw [xN (show (Qad p).kind≠5 from by simpa using k0),xN (show (Qad p).kind≠6 from by simpa using k1),xN (show (Qad p).kind≠3 from by simpa using k2),xN (show (Qad p).kind≠1 from by simpa using k3)];simp only [←Qbb,t0,t1,t2];rfl);have HI:=hQ h;obtain ⟨tb,off,c,h⟩:=h;have HP:=hQ h;clear h
 go_enter Tryz.func159,Tryz.ntmps159
 go_wp2_with fail
 go_at_call 132;refine (Qa6 _ HI.out).mono ?_;rintro e w1 ⟨rfl,hb⟩;have HB:=hQ hb;clear hb
 go_wp2
 go_ret
 exact ⟨by rw [HR.out];rfl,HB.out.alloc HB.out.size _⟩
theorem Qsc {b:Nat} {p:PS} (w:World) (h:PIn w b p) (k0:((Qad p).kind==5)=false) (k1:((Qad p).kind==6)=false) (k2:((Qad p).kind==3)=false) (k3:((Qad p).kind==1)=false) (t0:((Qad p).text.toList == [116,114,117,101])=false) (t1:((Qad p).text.toList == [102,97,108,115,101])=false) (t2:((Qad p).text.toList == [63])=false) (t3:((Qad p).text.toList == [91])=true):Calls Tryz.prog 159 #[.pointer (some ⟨b,0,none⟩)] w (Qd6 p w):=by
 have HR:=hQ (show Qbp p=18 from by unfold Qbp;rw [xN (show (Qad p).kind≠5 from by simpa using k0),xN (show (Qad p).kind≠6 from by simpa using k1),xN (show (Qad p).kind≠3 from by simpa using k2),xN (show (Qad p).kind≠1 from by simpa using k3)];simp only [←Qbb,t0,t1,t2,t3];rfl);have HI:=hQ h;obtain ⟨tb,off,c,h⟩:=h;have HP:=hQ h;clear h
 go_enter Tryz.func159,Tryz.ntmps159
 go_wp2_with fail
 go_at_call 132;refine (Qa6 _ HI.out).mono ?_;rintro e w1 ⟨rfl,hb⟩;have HB:=hQ hb;clear hb
 go_wp2
 go_ret
 exact ⟨by rw [HR.out];rfl,HB.out.alloc HB.out.size _⟩
theorem Qsd {b:Nat} {p:PS} (w:World) (h:PIn w b p) (k0:((Qad p).kind==5)=false) (k1:((Qad p).kind==6)=false) (k2:((Qad p).kind==3)=false) (k3:((Qad p).kind==1)=false) (t0:((Qad p).text.toList == [116,114,117,101])=false) (t1:((Qad p).text.toList == [102,97,108,115,101])=false) (t2:((Qad p).text.toList == [63])=false) (t3:((Qad p).text.toList == [91])=false) (t4:((Qad p).text.toList == [105,102])=true):Calls Tryz.prog 159 #[.pointer (some ⟨b,0,none⟩)] w (Qd6 p w):=by
 have HR:=hQ (show Qbp p=19 from by unfold Qbp;rw [xN (show (Qad p).kind≠5 from by simpa using k0),xN (show (Qad p).kind≠6 from by simpa using k1),xN (show (Qad p).kind≠3 from by simpa using k2),xN (show (Qad p).kind≠1 from by simpa using k3)];simp only [←Qbb,t0,t1,t2,t3,t4];rfl);have HI:=hQ h;obtain ⟨tb,off,c,h⟩:=h;have HP:=hQ h;clear h
 go_enter Tryz.func159,Tryz.ntmps159
 go_wp2_with fail
 go_at_call 132;refine (Qa6 _ HI.out).mono ?_;rintro e w1 ⟨rfl,hb⟩;have HB:=hQ hb;clear hb
 go_wp2
 go_ret
 exact ⟨by rw [HR.out];rfl,HB.out.alloc HB.out.size _⟩
theorem Qse {b:Nat} {p:PS} (w:World) (h:PIn w b p) (k0:((Qad p).kind==5)=false) (k1:((Qad p).kind==6)=false) (k2:((Qad p).kind==3)=false) (k3:((Qad p).kind==1)=false) (t0:((Qad p).text.toList == [116,114,117,101])=false) (t1:((Qad p).text.toList == [102,97,108,115,101])=false) (t2:((Qad p).text.toList == [63])=false) (t3:((Qad p).text.toList == [91])=false) (t4:((Qad p).text.toList == [105,102])=false) (t5:((Qad p).text.toList == [108,101,116])=true):Calls Tryz.prog 159 #[.pointer (some ⟨b,0,none⟩)] w (Qd6 p w):=by
 have HR:=hQ (show Qbp p=20 from by unfold Qbp;rw [xN (show (Qad p).kind≠5 from by simpa using k0),xN (show (Qad p).kind≠6 from by simpa using k1),xN (show (Qad p).kind≠3 from by simpa using k2),xN (show (Qad p).kind≠1 from by simpa using k3)];simp only [←Qbb,t0,t1,t2,t3,t4,t5];rfl);have HI:=hQ h;obtain ⟨tb,off,c,h⟩:=h;have HP:=hQ h;clear h
 go_enter Tryz.func159,Tryz.ntmps159
 go_wp2_with fail
 go_at_call 132;refine (Qa6 _ HI.out).mono ?_;rintro e w1 ⟨rfl,hb⟩;have HB:=hQ hb;clear hb
 go_wp2
 go_ret
 exact ⟨by rw [HR.out];rfl,HB.out.alloc HB.out.size _⟩
theorem Qsf {b:Nat} {p:PS} (w:World) (h:PIn w b p) (k0:((Qad p).kind==5)=false) (k1:((Qad p).kind==6)=false) (k2:((Qad p).kind==3)=false) (k3:((Qad p).kind==1)=false) (t0:((Qad p).text.toList == [116,114,117,101])=false) (t1:((Qad p).text.toList == [102,97,108,115,101])=false) (t2:((Qad p).text.toList == [63])=false) (t3:((Qad p).text.toList == [91])=false) (t4:((Qad p).text.toList == [105,102])=false) (t5:((Qad p).text.toList == [108,101,116])=false) (t6:((Qad p).text.toList == [40])=true):Calls Tryz.prog 159 #[.pointer (some ⟨b,0,none⟩)] w (Qd6 p w):=by
 have HR:=hQ (show Qbp p=22 from by unfold Qbp;rw [xN (show (Qad p).kind≠5 from by simpa using k0),xN (show (Qad p).kind≠6 from by simpa using k1),xN (show (Qad p).kind≠3 from by simpa using k2),xN (show (Qad p).kind≠1 from by simpa using k3)];simp only [←Qbb,t0,t1,t2,t3,t4,t5,t6];rfl);have HI:=hQ h;obtain ⟨tb,off,c,h⟩:=h;have HP:=hQ h;clear h
 go_enter Tryz.func159,Tryz.ntmps159
 go_wp2_with fail
 go_at_call 132;refine (Qa6 _ HI.out).mono ?_;rintro e w1 ⟨rfl,hb⟩;have HB:=hQ hb;clear hb
 go_wp2
 go_ret
 exact ⟨by rw [HR.out];rfl,HB.out.alloc HB.out.size _⟩
theorem Qsg {b:Nat} {p:PS} (w:World) (h:PIn w b p) (k0:((Qad p).kind==5)=false) (k1:((Qad p).kind==6)=false) (k2:((Qad p).kind==3)=false) (k3:((Qad p).kind==1)=false) (t0:((Qad p).text.toList == [116,114,117,101])=false) (t1:((Qad p).text.toList == [102,97,108,115,101])=false) (t2:((Qad p).text.toList == [63])=false) (t3:((Qad p).text.toList == [91])=false) (t4:((Qad p).text.toList == [105,102])=false) (t5:((Qad p).text.toList == [108,101,116])=false) (t6:((Qad p).text.toList == [40])=false):Calls Tryz.prog 159 #[.pointer (some ⟨b,0,none⟩)] w (Qd6 p w):=by
 have HR:=hQ (show Qbp p=0 from by unfold Qbp;rw [xN (show (Qad p).kind≠5 from by simpa using k0),xN (show (Qad p).kind≠6 from by simpa using k1),xN (show (Qad p).kind≠3 from by simpa using k2),xN (show (Qad p).kind≠1 from by simpa using k3)];simp only [←Qbb,t0,t1,t2,t3,t4,t5,t6];rfl);have HI:=hQ h;obtain ⟨tb,off,c,h⟩:=h;have HP:=hQ h;clear h
 go_enter Tryz.func159,Tryz.ntmps159
 go_wp2_with fail
 go_at_call 132;refine (Qa6 _ HI.out).mono ?_;rintro e w1 ⟨rfl,hb⟩;have HB:=hQ hb;clear hb
 go_wp2
 go_ret
 exact ⟨by rw [HR.out];rfl,HB.out.alloc HB.out.size _⟩
theorem Qj2 {b:Nat} {p:PS} (w:World) (h:PIn w b p):Calls Tryz.prog 159 #[.pointer (some ⟨b,0,none⟩)] w (Qd6 p w):=by
 cases k0:((Qad p).kind==5)
 case true=>exact Qvy w h k0
 cases k1:((Qad p).kind==6)
 case true=>exact Qvz w h k0 k1
 cases k2:((Qad p).kind==3)
 case true=>exact Qv0 w h k0 k1 k2
 cases k3:((Qad p).kind==1)
 case true =>
  cases t1:((Qid p).text.toList == [40])
  case true=>exact Qo1 w h k0 k1 k2 k3 t1
  exact Qp5 w h k0 k1 k2 k3 t1
 cases t0:((Qad p).text.toList == [116,114,117,101])
 case true=>exact Qr9 w h k0 k1 k2 k3 t0
 cases t1:((Qad p).text.toList == [102,97,108,115,101])
 case true=>exact Qsa w h k0 k1 k2 k3 t0 t1
 cases t2:((Qad p).text.toList == [63])
 case true=>exact Qsb w h k0 k1 k2 k3 t0 t1 t2
 cases t3:((Qad p).text.toList == [91])
 case true=>exact Qsc w h k0 k1 k2 k3 t0 t1 t2 t3
 cases t4:((Qad p).text.toList == [105,102])
 case true=>exact Qsd w h k0 k1 k2 k3 t0 t1 t2 t3 t4
 cases t5:((Qad p).text.toList == [108,101,116])
 case true=>exact Qse w h k0 k1 k2 k3 t0 t1 t2 t3 t4 t5
 cases t6:((Qad p).text.toList == [40])
 case true=>exact Qsf w h k0 k1 k2 k3 t0 t1 t2 t3 t4 t5 t6
 exact Qsg w h k0 k1 k2 k3 t0 t1 t2 t3 t4 t5 t6
theorem Zcp {b:Nat} {p:PS} (w:World) (h:PIn w b p):Calls Tryz.prog 130 #[.pointer (some ⟨b,0,none⟩),.int .i64 1] w fun e w'=>e = .returned (.int .i64 (Qed 1 p))∧Below w.heap.size w w':=by
 have HI:=hQ h;have HB:=hQ (xC w.heap.size w);clear h;cases hh:Qfg 1 (Qe9 (Qad p).text)
 all_goals
  have HR:=hQ (show Qed 1 p=_ from by show (if Qfg 1 (Qe9 (Qad p).text)=true then Qe9 (Qad p).text else 0)=_;rw [hh])
  go_enter Tryz.func130,Tryz.ntmps130
  go_wp2_with (first | (go_at_call 132;refine (Qa6 _ (by first | exact HI.out | exact HI.out.keep HB.out)).mono ?_;rintro e w1 ⟨rfl,hb⟩;replace HB:=hQ (HB.out.trans (hb.mono HB.out.size));clear hb) | (go_at_call 157;refine (Qjz (Qad p) _).mono ?_;rintro e w1 ⟨rfl,hb⟩;replace HB:=hQ (HB.out.trans (hb.mono HB.out.size));clear hb) | (go_at_call 97;refine (Qg1 _ _ _).mono ?_;rintro e w2 ⟨rfl,rfl⟩))
  go_ret
  exact ⟨by rw [HR.out];rfl,HB.out⟩
theorem Zcq {b:Nat} {p:PS} (w:World) (h:PIn w b p):Calls Tryz.prog 130 #[.pointer (some ⟨b,0,none⟩),.int .i64 3] w fun e w'=>e = .returned (.int .i64 (Qed 3 p))∧Below w.heap.size w w':=by
 have HI:=hQ h;have HB:=hQ (xC w.heap.size w);clear h;cases hh:Qfg 3 (Qcs (Qad p))
 all_goals
  have HR:=hQ (show Qed 3 p=_ from by show (if Qfg 3 (Qcs (Qad p))=true then Qcs (Qad p) else 0)=_;rw [hh])
  go_enter Tryz.func130,Tryz.ntmps130
  go_wp2_with (first | (go_at_call 132;refine (Qa6 _ (by first | exact HI.out | exact HI.out.keep HB.out)).mono ?_;rintro e w1 ⟨rfl,hb⟩;replace HB:=hQ (HB.out.trans (hb.mono HB.out.size));clear hb) | (go_at_call 158;refine (Qp2 (Qad p) _).mono ?_;rintro e w1 ⟨rfl,hb⟩;replace HB:=hQ (HB.out.trans (hb.mono HB.out.size));clear hb) | (go_at_call 97;refine (Qg1 _ _ _).mono ?_;rintro e w2 ⟨rfl,rfl⟩))
  go_ret
  exact ⟨by rw [HR.out];rfl,HB.out⟩
theorem Qys {b:Nat} {p:PS} (w:World) (h:PIn w b p) (hk:((Qad p).kind==1)=true):Calls Tryz.prog 130 #[.pointer (some ⟨b,0,none⟩),.int .i64 2] w fun e w'=>e = .returned (.int .i64 (Qed 2 p))∧Below w.heap.size w w':=by
 have HI:=hQ h;have HB:=hQ (xC w.heap.size w);clear h;have HR:=hQ (show Qed 2 p=4 from by unfold Qed;simp [show (Qad p).kind=1 from by simpa using hk];decide);have hn:Qby 2 (Qad p).kind (Qad p).text=true:=by unfold Qby;simpa using hk
 have hh:Qfg 2 4=true:=by decide
 go_enter Tryz.func130,Tryz.ntmps130
 go_wp2_with (first | (go_at_call 132;refine (Qa6 _ (by first | exact HI.out | exact HI.out.keep HB.out)).mono ?_;rintro e w1 ⟨rfl,hb⟩;replace HB:=hQ (HB.out.trans (hb.mono HB.out.size));clear hb) | (go_at_call 126;refine (Qjy (Qad p) _).mono ?_;rintro e w1 ⟨rfl,hb⟩;replace HB:=hQ (HB.out.trans (hb.mono HB.out.size));clear hb) | (go_at_call 97;refine (Qg1 _ _ _).mono ?_;rintro e w2 ⟨rfl,rfl⟩))
 go_ret
 exact ⟨by rw [HR.out];rfl,HB.out⟩
theorem Qyt {b:Nat} {p:PS} (w:World) (h:PIn w b p) (hk:((Qad p).kind==1)=false):Calls Tryz.prog 130 #[.pointer (some ⟨b,0,none⟩),.int .i64 2] w fun e w'=>e = .returned (.int .i64 (Qed 2 p))∧Below w.heap.size w w':=by
 have HI:=hQ h;have HB:=hQ (xC w.heap.size w);clear h;have HR:=hQ (show Qed 2 p=0 from by unfold Qed;simp [show (Qad p).kind≠1 from by simpa using hk]);have hn:Qby 2 (Qad p).kind (Qad p).text=false:=by unfold Qby;simpa using hk
 have hh:Qfg 2 0=false:=by decide
 go_enter Tryz.func130,Tryz.ntmps130
 go_wp2_with (first | (go_at_call 132;refine (Qa6 _ (by first | exact HI.out | exact HI.out.keep HB.out)).mono ?_;rintro e w1 ⟨rfl,hb⟩;replace HB:=hQ (HB.out.trans (hb.mono HB.out.size));clear hb) | (go_at_call 126;refine (Qjy (Qad p) _).mono ?_;rintro e w1 ⟨rfl,hb⟩;replace HB:=hQ (HB.out.trans (hb.mono HB.out.size));clear hb) | (go_at_call 97;refine (Qg1 _ _ _).mono ?_;rintro e w2 ⟨rfl,rfl⟩))
 go_ret
 exact ⟨by rw [HR.out];rfl,HB.out⟩
theorem Qo2 {b:Nat} {p:PS} (s:Int) (w:World) (h:PIn w b p) (s1:(s==1)=false) (s2:(s==2)=false) (s3:(s==3)=false) (s4:(s==4)=false):Calls Tryz.prog 130 #[.pointer (some ⟨b,0,none⟩),.int .i64 s] w fun e w'=>e = .returned (.int .i64 (Qed s p))∧Below w.heap.size w w':=by
 have HI:=hQ h;have HB:=hQ (xC w.heap.size w);clear h;cases hh:Qfg s (Qbp p)
 all_goals
  have HR:=hQ (show Qed s p=_ from by unfold Qed;simp only [show s≠1 from by simpa using s1,show s≠2 from by simpa using s2,show s≠3 from by simpa using s3,if_false,hh];rfl)
  go_enter Tryz.func130,Tryz.ntmps130
  go_wp2_with (first | (go_at_call 159;refine (Qj2 _ HI.out).mono ?_;rintro e w1 ⟨rfl,hb⟩;replace HB:=hQ (HB.out.trans (hb.mono HB.out.size));clear hb) | (go_at_call 97;refine (Qg1 _ _ _).mono ?_;rintro e w2 ⟨rfl,rfl⟩))
  go_ret
  exact ⟨by rw [HR.out];rfl,HB.out⟩
theorem Zcr {b:Nat} {p:PS} (w:World) (h:PIn w b p):Calls Tryz.prog 130 #[.pointer (some ⟨b,0,none⟩),.int .i64 4] w fun e w'=>e = .returned (.int .i64 (Qbo 4 p))∧Below w.heap.size w w':=by
 have HI:=hQ h;have HB:=hQ (xC w.heap.size w);have hy:Qfg 4 17=true:=by decide
 have hz:Qfg 4 0=false:=by decide
 clear h
 cases hh:(Qed 5 p != 0)
 ·have HR:=hQ (show Qbo 4 p=0 from by unfold Qbo;rw [xO rfl,xN (by simpa using hh)])
  go_enter Tryz.func130,Tryz.ntmps130
  go_wp2_with (first | (go_at_call 130;refine (Qo2 5 _ HI.out (by decide) (by decide) (by decide) (by decide)).mono ?_;rintro e w1 ⟨rfl,hb⟩;replace HB:=hQ (HB.out.trans (hb.mono HB.out.size));clear hb) | (go_at_call 97;refine (Qg1 _ _ _).mono ?_;rintro e w2 ⟨rfl,rfl⟩))
  go_ret
  exact ⟨by rw [HR.out];rfl,HB.out⟩
 ·have HR:=hQ (show Qbo 4 p=17 from by unfold Qbo;rw [xO rfl,xO (by simpa using hh)])
  go_enter Tryz.func130,Tryz.ntmps130
  go_wp2_with (first | (go_at_call 130;refine (Qo2 5 _ HI.out (by decide) (by decide) (by decide) (by decide)).mono ?_;rintro e w1 ⟨rfl,hb⟩;replace HB:=hQ (HB.out.trans (hb.mono HB.out.size));clear hb) | (go_at_call 97;refine (Qg1 _ _ _).mono ?_;rintro e w2 ⟨rfl,rfl⟩))
  go_ret
  exact ⟨by rw [HR.out];rfl,HB.out⟩
theorem Qcz {b:Nat} {p:PS} (s:Int) (w:World) (h:PIn w b p):Calls Tryz.prog 130 #[.pointer (some ⟨b,0,none⟩),.int .i64 s] w fun e w'=>e = .returned (.int .i64 (Qbo s p))∧Below w.heap.size w w':=by
 by_cases h4:s=4
 ·subst h4;exact Zcr w h
 ·rw [show Qbo s p=Qed s p from by unfold Qbo;rw [xN h4]];cases s1:(s==1)
  case true=>rw [show s=1 from by simpa using s1];exact Zcp w h
  cases s2:(s==2)
  case true =>
   rw [show s=2 from by simpa using s2];cases hk:((Qad p).kind==1)
   case true=>exact Qys w h hk
   exact Qyt w h hk
  cases s3:(s==3)
  case true=>rw [show s=3 from by simpa using s3];exact Zcq w h
  exact Qo2 s w h s1 s2 s3 (by simpa using h4)
end Go.Proofs.YtfjpemdejoejbaaGreat
