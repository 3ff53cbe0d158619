/- Part 16 -/
import Derived.Test.YtjidpkcjpgdafaaGreatSf13
set_option maxRecDepth 100000
set_option maxHeartbeats 4000000
namespace Go.Proofs.YtjidpkcjpgdafaaGreat
open Go.RowKit
def Qgk (p:PS):Tok:=(p.rest.drop 1).headD Qxt
theorem PAt.s1 {w:World} {b tb off c:Nat} {p:PS} (h:PAt w b p tb off c) (h2:2≤p.rest.length):w.cell? ⟨tb,off+3+2,none⟩=some (.string (Qgk p).text):=by
 have he:p.rest[1]? = some (Qgk p):=by
  unfold Qgk
  cases hr:p.rest with
  | nil=>rw [hr] at h2;simp at h2
  | cons a r=>cases r with
   | nil=>rw [hr] at h2;simp at h2
   | cons d r=>rfl
 have:=(h.toks.at0 1 _ he).2.2
 simpa using this
def Qc1 (p:PS) (w:World) (e:Ending) (w':World):Prop:=e = .returned (.int .i64 (Qa1 p))∧Below w.heap.size w w'
theorem Qro {b:Nat} {p:PS} (w:World) (h:PIn w b p) (k0:((Qad p).kind==5)=true):Calls Tryz.prog 226 #[.pointer (some ⟨b,0,none⟩)] w (Qc1 p w):=by
 have HR:=hQ (show Qa1 p=10 from by unfold Qa1;rw [xO (show (Qad p).kind=5 from by simpa using k0)])
 have HI:=hQ h
 obtain ⟨tb,off,c,h⟩:=h
 have HP:=hQ h
 clear h
 go_enter Tryz.func226,Tryz.ntmps226
 go_wp2_with fail
 go_at_call 182
 refine (Qao _ HI.out).mono ?_
 rintro e w1 ⟨rfl,hb⟩
 have HB:=hQ hb
 clear hb
 go_wp2
 go_ret
 exact ⟨by rw [HR.out];rfl,HB.out.alloc HB.out.size _⟩
theorem Qrp {b:Nat} {p:PS} (w:World) (h:PIn w b p) (k0:((Qad p).kind==5)=false) (k1:((Qad p).kind==6)=true):Calls Tryz.prog 226 #[.pointer (some ⟨b,0,none⟩)] w (Qc1 p w):=by
 have HR:=hQ (show Qa1 p=11 from by unfold Qa1;rw [xN (show (Qad p).kind≠5 from by simpa using k0),xO (show (Qad p).kind=6 from by simpa using k1)])
 have HI:=hQ h
 obtain ⟨tb,off,c,h⟩:=h
 have HP:=hQ h
 clear h
 go_enter Tryz.func226,Tryz.ntmps226
 go_wp2_with fail
 go_at_call 182
 refine (Qao _ HI.out).mono ?_
 rintro e w1 ⟨rfl,hb⟩
 have HB:=hQ hb
 clear hb
 go_wp2
 go_ret
 exact ⟨by rw [HR.out];rfl,HB.out.alloc HB.out.size _⟩
theorem Qrq {b:Nat} {p:PS} (w:World) (h:PIn w b p) (k0:((Qad p).kind==5)=false) (k1:((Qad p).kind==6)=false) (k2:((Qad p).kind==3)=true):Calls Tryz.prog 226 #[.pointer (some ⟨b,0,none⟩)] w (Qc1 p w):=by
 have HR:=hQ (show Qa1 p=16 from by unfold Qa1;rw [xN (show (Qad p).kind≠5 from by simpa using k0),xN (show (Qad p).kind≠6 from by simpa using k1),xO (show (Qad p).kind=3 from by simpa using k2)])
 have HI:=hQ h
 obtain ⟨tb,off,c,h⟩:=h
 have HP:=hQ h
 clear h
 go_enter Tryz.func226,Tryz.ntmps226
 go_wp2_with fail
 go_at_call 182
 refine (Qao _ HI.out).mono ?_
 rintro e w1 ⟨rfl,hb⟩
 have HB:=hQ hb
 clear hb
 go_wp2
 go_ret
 exact ⟨by rw [HR.out];rfl,HB.out.alloc HB.out.size _⟩
theorem Qmd {b:Nat} {p:PS} (w:World) (h:PIn w b p) (k0:((Qad p).kind==5)=false) (k1:((Qad p).kind==6)=false) (k2:((Qad p).kind==3)=false) (k3:((Qad p).kind==1)=true) (t1:((Qgk p).text.toList == [40])=true):Calls Tryz.prog 226 #[.pointer (some ⟨b,0,none⟩)] w (Qc1 p w):=by
 have HR:=hQ (show Qa1 p=16 from by unfold Qa1;rw [xN (show (Qad p).kind≠5 from by simpa using k0),xN (show (Qad p).kind≠6 from by simpa using k1),xN (show (Qad p).kind≠3 from by simpa using k2),xO (show (Qad p).kind=1 from by simpa using k3)];show (if is (Qgk p).text [40] = true then (16:Int) else 12)=16;rw [←Qaq,t1];rfl)
 have HI:=hQ h
 obtain ⟨tb,off,c,h⟩:=h
 have HP:=hQ h
 have k3':(Qad p).kind=1:=by simpa using k3
 have H2:=hQ (h.ok.second (by rw [k3'];decide))
 clear k3'
 have hl2:(1:Int)<(p.rest.length:Int):=by have:=H2.out;omega
 clear h
 go_enter Tryz.func226,Tryz.ntmps226
 go_wp2_with fail
 go_at_call 182
 refine (Qao _ HI.out).mono ?_
 rintro e w1 ⟨rfl,hb⟩
 have HB:=hQ hb
 have H1:=hQ (HP.out.keep hb)
 have d0:=H1.out.c0
 have d1:=H1.out.s1 H2.out
 have e0:=H1.out.lt
 have e1:=xK w1 _ d1
 clear hb
 go_wp2
 go_ret
 exact ⟨by rw [HR.out];rfl,HB.out.alloc HB.out.size _⟩
theorem Qm8 {b:Nat} {p:PS} (w:World) (h:PIn w b p) (k0:((Qad p).kind==5)=false) (k1:((Qad p).kind==6)=false) (k2:((Qad p).kind==3)=false) (k3:((Qad p).kind==1)=true) (t1:((Qgk p).text.toList == [40])=false):Calls Tryz.prog 226 #[.pointer (some ⟨b,0,none⟩)] w (Qc1 p w):=by
 have HR:=hQ (show Qa1 p=12 from by unfold Qa1;rw [xN (show (Qad p).kind≠5 from by simpa using k0),xN (show (Qad p).kind≠6 from by simpa using k1),xN (show (Qad p).kind≠3 from by simpa using k2),xO (show (Qad p).kind=1 from by simpa using k3)];show (if is (Qgk p).text [40] = true then (16:Int) else 12)=12;rw [←Qaq,t1];rfl)
 have HI:=hQ h
 obtain ⟨tb,off,c,h⟩:=h
 have HP:=hQ h
 have k3':(Qad p).kind=1:=by simpa using k3
 have H2:=hQ (h.ok.second (by rw [k3'];decide))
 clear k3'
 have hl2:(1:Int)<(p.rest.length:Int):=by have:=H2.out;omega
 clear h
 go_enter Tryz.func226,Tryz.ntmps226
 go_wp2_with fail
 go_at_call 182
 refine (Qao _ HI.out).mono ?_
 rintro e w1 ⟨rfl,hb⟩
 have HB:=hQ hb
 have H1:=hQ (HP.out.keep hb)
 have d0:=H1.out.c0
 have d1:=H1.out.s1 H2.out
 have e0:=H1.out.lt
 have e1:=xK w1 _ d1
 clear hb
 go_wp2
 go_ret
 exact ⟨by rw [HR.out];rfl,HB.out.alloc HB.out.size _⟩
theorem Qos {b:Nat} {p:PS} (w:World) (h:PIn w b p) (k0:((Qad p).kind==5)=false) (k1:((Qad p).kind==6)=false) (k2:((Qad p).kind==3)=false) (k3:((Qad p).kind==1)=false) (t0:((Qad p).text.toList == [116,114,117,101])=true):Calls Tryz.prog 226 #[.pointer (some ⟨b,0,none⟩)] w (Qc1 p w):=by
 have HR:=hQ (show Qa1 p=13 from by unfold Qa1;rw [xN (show (Qad p).kind≠5 from by simpa using k0),xN (show (Qad p).kind≠6 from by simpa using k1),xN (show (Qad p).kind≠3 from by simpa using k2),xN (show (Qad p).kind≠1 from by simpa using k3)];simp only [←Qaq,t0];rfl)
 have HI:=hQ h
 obtain ⟨tb,off,c,h⟩:=h
 have HP:=hQ h
 clear h
 go_enter Tryz.func226,Tryz.ntmps226
 go_wp2_with fail
 go_at_call 182
 refine (Qao _ HI.out).mono ?_
 rintro e w1 ⟨rfl,hb⟩
 have HB:=hQ hb
 clear hb
 go_wp2
 go_ret
 exact ⟨by rw [HR.out];rfl,HB.out.alloc HB.out.size _⟩
theorem Qot {b:Nat} {p:PS} (w:World) (h:PIn w b p) (k0:((Qad p).kind==5)=false) (k1:((Qad p).kind==6)=false) (k2:((Qad p).kind==3)=false) (k3:((Qad p).kind==1)=false) (t0:((Qad p).text.toList == [116,114,117,101])=false) (t1:((Qad p).text.toList == [102,97,108,115,101])=true):Calls Tryz.prog 226 #[.pointer (some ⟨b,0,none⟩)] w (Qc1 p w):=by
 have HR:=hQ (show Qa1 p=14 from by unfold Qa1;rw [xN (show (Qad p).kind≠5 from by simpa using k0),xN (show (Qad p).kind≠6 from by simpa using k1),xN (show (Qad p).kind≠3 from by simpa using k2),xN (show (Qad p).kind≠1 from by simpa using k3)];simp only [←Qaq,t0,t1];rfl)
 have HI:=hQ h
 obtain ⟨tb,off,c,h⟩:=h
 have HP:=hQ h
 clear h
 go_enter Tryz.func226,Tryz.ntmps226
 go_wp2_with fail
 go_at_call 182
 refine (Qao _ HI.out).mono ?_
 rintro e w1 ⟨rfl,hb⟩
 have HB:=hQ hb
 clear hb
 go_wp2
 go_ret
 exact ⟨by rw [HR.out];rfl,HB.out.alloc HB.out.size _⟩
theorem Qou {b:Nat} {p:PS} (w:World) (h:PIn w b p) (k0:((Qad p).kind==5)=false) (k1:((Qad p).kind==6)=false) (k2:((Qad p).kind==3)=false) (k3:((Qad p).kind==1)=false) (t0:((Qad p).text.toList == [116,114,117,101])=false) (t1:((Qad p).text.toList == [102,97,108,115,101])=false) (t2:((Qad p).text.toList == [63])=true):Calls Tryz.prog 226 #[.pointer (some ⟨b,0,none⟩)] w (Qc1 p w):=by
 have HR:=hQ (show Qa1 p=15 from by unfold Qa1;rw [xN (show (Qad p).kind≠5 from by simpa using k0),xN (show (Qad p).kind≠6 from by simpa using k1),xN (show (Qad p).kind≠3 from by simpa using k2),xN (show (Qad p).kind≠1 from by simpa using k3)];simp only [←Qaq,t0,t1,t2];rfl)
 have HI:=hQ h
 obtain ⟨tb,off,c,h⟩:=h
 have HP:=hQ h
 clear h
 go_enter Tryz.func226,Tryz.ntmps226
 go_wp2_with fail
 go_at_call 182
 refine (Qao _ HI.out).mono ?_
 rintro e w1 ⟨rfl,hb⟩
 have HB:=hQ hb
 clear hb
 go_wp2
 go_ret
 exact ⟨by rw [HR.out];rfl,HB.out.alloc HB.out.size _⟩
theorem Qov {b:Nat} {p:PS} (w:World) (h:PIn w b p) (k0:((Qad p).kind==5)=false) (k1:((Qad p).kind==6)=false) (k2:((Qad p).kind==3)=false) (k3:((Qad p).kind==1)=false) (t0:((Qad p).text.toList == [116,114,117,101])=false) (t1:((Qad p).text.toList == [102,97,108,115,101])=false) (t2:((Qad p).text.toList == [63])=false) (t3:((Qad p).text.toList == [91])=true):Calls Tryz.prog 226 #[.pointer (some ⟨b,0,none⟩)] w (Qc1 p w):=by
 have HR:=hQ (show Qa1 p=18 from by unfold Qa1;rw [xN (show (Qad p).kind≠5 from by simpa using k0),xN (show (Qad p).kind≠6 from by simpa using k1),xN (show (Qad p).kind≠3 from by simpa using k2),xN (show (Qad p).kind≠1 from by simpa using k3)];simp only [←Qaq,t0,t1,t2,t3];rfl)
 have HI:=hQ h
 obtain ⟨tb,off,c,h⟩:=h
 have HP:=hQ h
 clear h
 go_enter Tryz.func226,Tryz.ntmps226
 go_wp2_with fail
 go_at_call 182
 refine (Qao _ HI.out).mono ?_
 rintro e w1 ⟨rfl,hb⟩
 have HB:=hQ hb
 clear hb
 go_wp2
 go_ret
 exact ⟨by rw [HR.out];rfl,HB.out.alloc HB.out.size _⟩
theorem Qow {b:Nat} {p:PS} (w:World) (h:PIn w b p) (k0:((Qad p).kind==5)=false) (k1:((Qad p).kind==6)=false) (k2:((Qad p).kind==3)=false) (k3:((Qad p).kind==1)=false) (t0:((Qad p).text.toList == [116,114,117,101])=false) (t1:((Qad p).text.toList == [102,97,108,115,101])=false) (t2:((Qad p).text.toList == [63])=false) (t3:((Qad p).text.toList == [91])=false) (t4:((Qad p).text.toList == [105,102])=true):Calls Tryz.prog 226 #[.pointer (some ⟨b,0,none⟩)] w (Qc1 p w):=by
 have HR:=hQ (show Qa1 p=19 from by unfold Qa1;rw [xN (show (Qad p).kind≠5 from by simpa using k0),xN (show (Qad p).kind≠6 from by simpa using k1),xN (show (Qad p).kind≠3 from by simpa using k2),xN (show (Qad p).kind≠1 from by simpa using k3)];simp only [←Qaq,t0,t1,t2,t3,t4];rfl)
 have HI:=hQ h
 obtain ⟨tb,off,c,h⟩:=h
 have HP:=hQ h
 clear h
 go_enter Tryz.func226,Tryz.ntmps226
 go_wp2_with fail
 go_at_call 182
 refine (Qao _ HI.out).mono ?_
 rintro e w1 ⟨rfl,hb⟩
 have HB:=hQ hb
 clear hb
 go_wp2
 go_ret
 exact ⟨by rw [HR.out];rfl,HB.out.alloc HB.out.size _⟩
theorem Qox {b:Nat} {p:PS} (w:World) (h:PIn w b p) (k0:((Qad p).kind==5)=false) (k1:((Qad p).kind==6)=false) (k2:((Qad p).kind==3)=false) (k3:((Qad p).kind==1)=false) (t0:((Qad p).text.toList == [116,114,117,101])=false) (t1:((Qad p).text.toList == [102,97,108,115,101])=false) (t2:((Qad p).text.toList == [63])=false) (t3:((Qad p).text.toList == [91])=false) (t4:((Qad p).text.toList == [105,102])=false) (t5:((Qad p).text.toList == [108,101,116])=true):Calls Tryz.prog 226 #[.pointer (some ⟨b,0,none⟩)] w (Qc1 p w):=by
 have HR:=hQ (show Qa1 p=20 from by unfold Qa1;rw [xN (show (Qad p).kind≠5 from by simpa using k0),xN (show (Qad p).kind≠6 from by simpa using k1),xN (show (Qad p).kind≠3 from by simpa using k2),xN (show (Qad p).kind≠1 from by simpa using k3)];simp only [←Qaq,t0,t1,t2,t3,t4,t5];rfl)
 have HI:=hQ h
 obtain ⟨tb,off,c,h⟩:=h
 have HP:=hQ h
 clear h
 go_enter Tryz.func226,Tryz.ntmps226
 go_wp2_with fail
 go_at_call 182
 refine (Qao _ HI.out).mono ?_
 rintro e w1 ⟨rfl,hb⟩
 have HB:=hQ hb
 clear hb
 go_wp2
 go_ret
 exact ⟨by rw [HR.out];rfl,HB.out.alloc HB.out.size _⟩
theorem Qoy {b:Nat} {p:PS} (w:World) (h:PIn w b p) (k0:((Qad p).kind==5)=false) (k1:((Qad p).kind==6)=false) (k2:((Qad p).kind==3)=false) (k3:((Qad p).kind==1)=false) (t0:((Qad p).text.toList == [116,114,117,101])=false) (t1:((Qad p).text.toList == [102,97,108,115,101])=false) (t2:((Qad p).text.toList == [63])=false) (t3:((Qad p).text.toList == [91])=false) (t4:((Qad p).text.toList == [105,102])=false) (t5:((Qad p).text.toList == [108,101,116])=false) (t6:((Qad p).text.toList == [40])=true):Calls Tryz.prog 226 #[.pointer (some ⟨b,0,none⟩)] w (Qc1 p w):=by
 have HR:=hQ (show Qa1 p=22 from by unfold Qa1;rw [xN (show (Qad p).kind≠5 from by simpa using k0),xN (show (Qad p).kind≠6 from by simpa using k1),xN (show (Qad p).kind≠3 from by simpa using k2),xN (show (Qad p).kind≠1 from by simpa using k3)];simp only [←Qaq,t0,t1,t2,t3,t4,t5,t6];rfl)
 have HI:=hQ h
 obtain ⟨tb,off,c,h⟩:=h
 have HP:=hQ h
 clear h
 go_enter Tryz.func226,Tryz.ntmps226
 go_wp2_with fail
 go_at_call 182
 refine (Qao _ HI.out).mono ?_
 rintro e w1 ⟨rfl,hb⟩
 have HB:=hQ hb
 clear hb
 go_wp2
 go_ret
 exact ⟨by rw [HR.out];rfl,HB.out.alloc HB.out.size _⟩
theorem Qoz {b:Nat} {p:PS} (w:World) (h:PIn w b p) (k0:((Qad p).kind==5)=false) (k1:((Qad p).kind==6)=false) (k2:((Qad p).kind==3)=false) (k3:((Qad p).kind==1)=false) (t0:((Qad p).text.toList == [116,114,117,101])=false) (t1:((Qad p).text.toList == [102,97,108,115,101])=false) (t2:((Qad p).text.toList == [63])=false) (t3:((Qad p).text.toList == [91])=false) (t4:((Qad p).text.toList == [105,102])=false) (t5:((Qad p).text.toList == [108,101,116])=false) (t6:((Qad p).text.toList == [40])=false):Calls Tryz.prog 226 #[.pointer (some ⟨b,0,none⟩)] w (Qc1 p w):=by
 have HR:=hQ (show Qa1 p=0 from by unfold Qa1;rw [xN (show (Qad p).kind≠5 from by simpa using k0),xN (show (Qad p).kind≠6 from by simpa using k1),xN (show (Qad p).kind≠3 from by simpa using k2),xN (show (Qad p).kind≠1 from by simpa using k3)];simp only [←Qaq,t0,t1,t2,t3,t4,t5,t6];rfl)
 have HI:=hQ h
 obtain ⟨tb,off,c,h⟩:=h
 have HP:=hQ h
 clear h
 go_enter Tryz.func226,Tryz.ntmps226
 go_wp2_with fail
 go_at_call 182
 refine (Qao _ HI.out).mono ?_
 rintro e w1 ⟨rfl,hb⟩
 have HB:=hQ hb
 clear hb
 go_wp2
 go_ret
 exact ⟨by rw [HR.out];rfl,HB.out.alloc HB.out.size _⟩
theorem Qhy {b:Nat} {p:PS} (w:World) (h:PIn w b p):Calls Tryz.prog 226 #[.pointer (some ⟨b,0,none⟩)] w (Qc1 p w):=by
 cases k0:((Qad p).kind==5)
 case true=>exact Qro w h k0
 cases k1:((Qad p).kind==6)
 case true=>exact Qrp w h k0 k1
 cases k2:((Qad p).kind==3)
 case true=>exact Qrq w h k0 k1 k2
 cases k3:((Qad p).kind==1)
 case true =>
  cases t1:((Qgk p).text.toList == [40])
  case true=>exact Qmd w h k0 k1 k2 k3 t1
  exact Qm8 w h k0 k1 k2 k3 t1
 cases t0:((Qad p).text.toList == [116,114,117,101])
 case true=>exact Qos w h k0 k1 k2 k3 t0
 cases t1:((Qad p).text.toList == [102,97,108,115,101])
 case true=>exact Qot w h k0 k1 k2 k3 t0 t1
 cases t2:((Qad p).text.toList == [63])
 case true=>exact Qou w h k0 k1 k2 k3 t0 t1 t2
 cases t3:((Qad p).text.toList == [91])
 case true=>exact Qov w h k0 k1 k2 k3 t0 t1 t2 t3
 cases t4:((Qad p).text.toList == [105,102])
 case true=>exact Qow w h k0 k1 k2 k3 t0 t1 t2 t3 t4
 cases t5:((Qad p).text.toList == [108,101,116])
 case true=>exact Qox w h k0 k1 k2 k3 t0 t1 t2 t3 t4 t5
 cases t6:((Qad p).text.toList == [40])
 case true=>exact Qoy w h k0 k1 k2 k3 t0 t1 t2 t3 t4 t5 t6
 exact Qoz w h k0 k1 k2 k3 t0 t1 t2 t3 t4 t5 t6
theorem Qvw {b:Nat} {p:PS} (w:World) (h:PIn w b p):Calls Tryz.prog 180 #[.pointer (some ⟨b,0,none⟩),.int .i64 1] w fun e w'=>e = .returned (.int .i64 (Qc6 1 p))∧Below w.heap.size w w':=by
 have HI:=hQ h
 have HB:=hQ (xC w.heap.size w)
 clear h
 cases hh:Qd9 1 (Qd6 (Qad p).text)
 all_goals
  have HR:=hQ (show Qc6 1 p=_ from by show (if Qd9 1 (Qd6 (Qad p).text)=true then Qd6 (Qad p).text else 0)=_;rw [hh])
  go_enter Tryz.func180,Tryz.ntmps180
  go_wp2_with (first | (go_at_call 182;refine (Qao _ (by first | exact HI.out | exact HI.out.keep HB.out)).mono ?_;rintro e w1 ⟨rfl,hb⟩;replace HB:=hQ (HB.out.trans (hb.mono HB.out.size));clear hb) | (go_at_call 224;refine (Qhv (Qad p) _).mono ?_;rintro e w1 ⟨rfl,hb⟩;replace HB:=hQ (HB.out.trans (hb.mono HB.out.size));clear hb) | (go_at_call 131;refine (Qfj _ _ _).mono ?_;rintro e w2 ⟨rfl,rfl⟩))
  go_ret
  exact ⟨by rw [HR.out];rfl,HB.out⟩
theorem Qvx {b:Nat} {p:PS} (w:World) (h:PIn w b p):Calls Tryz.prog 180 #[.pointer (some ⟨b,0,none⟩),.int .i64 3] w fun e w'=>e = .returned (.int .i64 (Qc6 3 p))∧Below w.heap.size w w':=by
 have HI:=hQ h
 have HB:=hQ (xC w.heap.size w)
 clear h
 cases hh:Qd9 3 (Qbv (Qad p))
 all_goals
  have HR:=hQ (show Qc6 3 p=_ from by show (if Qd9 3 (Qbv (Qad p))=true then Qbv (Qad p) else 0)=_;rw [hh])
  go_enter Tryz.func180,Tryz.ntmps180
  go_wp2_with (first | (go_at_call 182;refine (Qao _ (by first | exact HI.out | exact HI.out.keep HB.out)).mono ?_;rintro e w1 ⟨rfl,hb⟩;replace HB:=hQ (HB.out.trans (hb.mono HB.out.size));clear hb) | (go_at_call 225;refine (Qm6 (Qad p) _).mono ?_;rintro e w1 ⟨rfl,hb⟩;replace HB:=hQ (HB.out.trans (hb.mono HB.out.size));clear hb) | (go_at_call 131;refine (Qfj _ _ _).mono ?_;rintro e w2 ⟨rfl,rfl⟩))
  go_ret
  exact ⟨by rw [HR.out];rfl,HB.out⟩
theorem Qtf {b:Nat} {p:PS} (w:World) (h:PIn w b p) (hk:((Qad p).kind==1)=true):Calls Tryz.prog 180 #[.pointer (some ⟨b,0,none⟩),.int .i64 2] w fun e w'=>e = .returned (.int .i64 (Qc6 2 p))∧Below w.heap.size w w':=by
 have HI:=hQ h
 have HB:=hQ (xC w.heap.size w)
 clear h
 have HR:=hQ (show Qc6 2 p=4 from by unfold Qc6;simp [show (Qad p).kind=1 from by simpa using hk];decide)
 have hn:Qa9 2 (Qad p).kind (Qad p).text=true:=by unfold Qa9;simpa using hk
 have hh:Qd9 2 4=true:=by decide
 go_enter Tryz.func180,Tryz.ntmps180
 go_wp2_with (first | (go_at_call 182;refine (Qao _ (by first | exact HI.out | exact HI.out.keep HB.out)).mono ?_;rintro e w1 ⟨rfl,hb⟩;replace HB:=hQ (HB.out.trans (hb.mono HB.out.size));clear hb) | (go_at_call 176;refine (Qhu (Qad p) _).mono ?_;rintro e w1 ⟨rfl,hb⟩;replace HB:=hQ (HB.out.trans (hb.mono HB.out.size));clear hb) | (go_at_call 131;refine (Qfj _ _ _).mono ?_;rintro e w2 ⟨rfl,rfl⟩))
 go_ret
 exact ⟨by rw [HR.out];rfl,HB.out⟩
theorem Qtg {b:Nat} {p:PS} (w:World) (h:PIn w b p) (hk:((Qad p).kind==1)=false):Calls Tryz.prog 180 #[.pointer (some ⟨b,0,none⟩),.int .i64 2] w fun e w'=>e = .returned (.int .i64 (Qc6 2 p))∧Below w.heap.size w w':=by
 have HI:=hQ h
 have HB:=hQ (xC w.heap.size w)
 clear h
 have HR:=hQ (show Qc6 2 p=0 from by unfold Qc6;simp [show (Qad p).kind≠1 from by simpa using hk])
 have hn:Qa9 2 (Qad p).kind (Qad p).text=false:=by unfold Qa9;simpa using hk
 have hh:Qd9 2 0=false:=by decide
 go_enter Tryz.func180,Tryz.ntmps180
 go_wp2_with (first | (go_at_call 182;refine (Qao _ (by first | exact HI.out | exact HI.out.keep HB.out)).mono ?_;rintro e w1 ⟨rfl,hb⟩;replace HB:=hQ (HB.out.trans (hb.mono HB.out.size));clear hb) | (go_at_call 176;refine (Qhu (Qad p) _).mono ?_;rintro e w1 ⟨rfl,hb⟩;replace HB:=hQ (HB.out.trans (hb.mono HB.out.size));clear hb) | (go_at_call 131;refine (Qfj _ _ _).mono ?_;rintro e w2 ⟨rfl,rfl⟩))
 go_ret
 exact ⟨by rw [HR.out];rfl,HB.out⟩
theorem Qme {b:Nat} {p:PS} (s:Int) (w:World) (h:PIn w b p) (s1:(s==1)=false) (s2:(s==2)=false) (s3:(s==3)=false) (s4:(s==4)=false):Calls Tryz.prog 180 #[.pointer (some ⟨b,0,none⟩),.int .i64 s] w fun e w'=>e = .returned (.int .i64 (Qc6 s p))∧Below w.heap.size w w':=by
 have HI:=hQ h
 have HB:=hQ (xC w.heap.size w)
 clear h
 cases hh:Qd9 s (Qa1 p)
 all_goals
  have HR:=hQ (show Qc6 s p=_ from by unfold Qc6;simp only [show s≠1 from by simpa using s1,show s≠2 from by simpa using s2,show s≠3 from by simpa using s3,if_false,hh];rfl)
  go_enter Tryz.func180,Tryz.ntmps180
  go_wp2_with (first | (go_at_call 226;refine (Qhy _ HI.out).mono ?_;rintro e w1 ⟨rfl,hb⟩;replace HB:=hQ (HB.out.trans (hb.mono HB.out.size));clear hb) | (go_at_call 131;refine (Qfj _ _ _).mono ?_;rintro e w2 ⟨rfl,rfl⟩))
  go_ret
  exact ⟨by rw [HR.out];rfl,HB.out⟩
theorem Qvy {b:Nat} {p:PS} (w:World) (h:PIn w b p):Calls Tryz.prog 180 #[.pointer (some ⟨b,0,none⟩),.int .i64 4] w fun e w'=>e = .returned (.int .i64 (Qa0 4 p))∧Below w.heap.size w w':=by
 have HI:=hQ h
 have HB:=hQ (xC w.heap.size w)
 have hy:Qd9 4 17=true:=by decide
 have hz:Qd9 4 0=false:=by decide
 clear h
 cases hh:(Qc6 5 p != 0)
 ·have HR:=hQ (show Qa0 4 p=0 from by unfold Qa0;rw [xO rfl,xN (by simpa using hh)])
  go_enter Tryz.func180,Tryz.ntmps180
  go_wp2_with (first | (go_at_call 180;refine (Qme 5 _ HI.out (by decide) (by decide) (by decide) (by decide)).mono ?_;rintro e w1 ⟨rfl,hb⟩;replace HB:=hQ (HB.out.trans (hb.mono HB.out.size));clear hb) | (go_at_call 131;refine (Qfj _ _ _).mono ?_;rintro e w2 ⟨rfl,rfl⟩))
  go_ret
  exact ⟨by rw [HR.out];rfl,HB.out⟩
 ·have HR:=hQ (show Qa0 4 p=17 from by unfold Qa0;rw [xO rfl,xO (by simpa using hh)])
  go_enter Tryz.func180,Tryz.ntmps180
  go_wp2_with (first | (go_at_call 180;refine (Qme 5 _ HI.out (by decide) (by decide) (by decide) (by decide)).mono ?_;rintro e w1 ⟨rfl,hb⟩;replace HB:=hQ (HB.out.trans (hb.mono HB.out.size));clear hb) | (go_at_call 131;refine (Qfj _ _ _).mono ?_;rintro e w2 ⟨rfl,rfl⟩))
  go_ret
  exact ⟨by rw [HR.out];rfl,HB.out⟩
theorem Qb2 {b:Nat} {p:PS} (s:Int) (w:World) (h:PIn w b p):Calls Tryz.prog 180 #[.pointer (some ⟨b,0,none⟩),.int .i64 s] w fun e w'=>e = .returned (.int .i64 (Qa0 s p))∧Below w.heap.size w w':=by
 by_cases h4:s=4
 ·subst h4
  exact Qvy w h
 ·rw [show Qa0 s p=Qc6 s p from by unfold Qa0;rw [xN h4]]
  cases s1:(s==1)
  case true=>rw [show s=1 from by simpa using s1];exact Qvw w h
  cases s2:(s==2)
  case true =>
   rw [show s=2 from by simpa using s2]
   cases hk:((Qad p).kind==1)
   case true=>exact Qtf w h hk
   exact Qtg w h hk
  cases s3:(s==3)
  case true=>rw [show s=3 from by simpa using s3];exact Qvx w h
  exact Qme s w h s1 s2 s3 (by simpa using h4)
end Go.Proofs.YtjidpkcjpgdafaaGreat
