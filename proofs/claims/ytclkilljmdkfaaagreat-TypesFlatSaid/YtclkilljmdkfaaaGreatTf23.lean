/- Part 23 -/
import Derived.Test.YtclkilljmdkfaaaGreatTf16
set_option maxRecDepth 100000
set_option maxHeartbeats 4000000
namespace Go.Proofs.YtclkilljmdkfaaaGreat
open Go.RowKit
def Qa7 (kids must n:Int):Int:=if kids=must then n else -1
def Qar (kind kids:Int):Int :=
 if kind=1 then (if 0≤kids then 3 else -1) else
 if kind=2 then (if 2≤kids then 6+max 0 (kids-3) else -1) else
 if kind=3 then (Qa7 kids 1 3) else
 if kind=4 then (Qa7 kids 1 2) else
 if kind=5 then (Qa7 kids 0 1) else
 if kind=6 then (Qa7 kids 0 1) else
 if kind=7 then (Qa7 kids 0 1) else
 if kind=8 then (Qa7 kids 1 2) else
 if kind=9 then (Qa7 kids 0 1) else
 if kind=10 then (Qa7 kids 0 1) else
 if kind=11 then (Qa7 kids 0 1) else
 if kind=12 then (Qa7 kids 0 1) else
 if kind=13 then (Qa7 kids 0 1) else
 if kind=14 then (Qa7 kids 0 1) else
 if kind=15 then (Qa7 kids 0 1) else
 if kind=16 then (if 0≤kids then 3+max 0 (kids-1) else -1) else
 if kind=17 then (Qa7 kids 1 0) else
 if kind=18 then (if 1≤kids then 1+kids else -1) else
 if kind=19 then (Qa7 kids 3 3) else
 if kind=20 then (Qa7 kids 2 4) else
 if kind=21 then (Qa7 kids 2 1) else
 if kind=22 then (Qa7 kids 1 2) else
 -1
theorem Qc7 (kids must n:Int) (w:World):Calls Tryz.prog 128 #[.int .i64 kids,.int .i64 must,.int .i64 n] w fun e w'=>e = .returned (.int .i64 (Qa7 kids must n))∧w=w':=by
 by_cases h:kids=must
 ·have HR:=hQ (show Qa7 kids must n=n from by unfold Qa7;rw [xO h])
  subst h
  go_enter Tryz.func128,Tryz.ntmps128
  go_wp2
  go_ret
  rw [HR.out]
  exact ⟨rfl,rfl⟩
 ·have HR:=hQ (show Qa7 kids must n = -1 from by unfold Qa7;rw [xN h])
  have h':=Qck h
  go_enter Tryz.func128,Tryz.ntmps128
  go_wp2
  go_ret
  rw [HR.out]
  exact ⟨rfl,rfl⟩
theorem Zfg (kids:Int) (w:World):Calls Tryz.prog 86 #[.int .i64 3,.int .i64 kids] w fun e w'=>e = .returned (.int .i64 (Qar 3 kids))∧w=w':=by
 have HR:=hQ (show Qar 3 kids=Qa7 kids 1 3 from rfl)
 go_enter Tryz.func86,Tryz.ntmps86
 go_wp2_with (go_at_call 128;refine (Qc7 _ _ _ _).mono ?_;rintro e w' ⟨rfl,rfl⟩)
 go_ret
 rw [HR.out]
 exact ⟨rfl,rfl⟩
theorem Zfh (kids:Int) (w:World):Calls Tryz.prog 86 #[.int .i64 4,.int .i64 kids] w fun e w'=>e = .returned (.int .i64 (Qar 4 kids))∧w=w':=by
 have HR:=hQ (show Qar 4 kids=Qa7 kids 1 2 from rfl)
 go_enter Tryz.func86,Tryz.ntmps86
 go_wp2_with (go_at_call 128;refine (Qc7 _ _ _ _).mono ?_;rintro e w' ⟨rfl,rfl⟩)
 go_ret
 rw [HR.out]
 exact ⟨rfl,rfl⟩
theorem Zfi (kids:Int) (w:World):Calls Tryz.prog 86 #[.int .i64 5,.int .i64 kids] w fun e w'=>e = .returned (.int .i64 (Qar 5 kids))∧w=w':=by
 have HR:=hQ (show Qar 5 kids=Qa7 kids 0 1 from rfl)
 go_enter Tryz.func86,Tryz.ntmps86
 go_wp2_with (go_at_call 128;refine (Qc7 _ _ _ _).mono ?_;rintro e w' ⟨rfl,rfl⟩)
 go_ret
 rw [HR.out]
 exact ⟨rfl,rfl⟩
theorem Zfj (kids:Int) (w:World):Calls Tryz.prog 86 #[.int .i64 6,.int .i64 kids] w fun e w'=>e = .returned (.int .i64 (Qar 6 kids))∧w=w':=by
 have HR:=hQ (show Qar 6 kids=Qa7 kids 0 1 from rfl)
 go_enter Tryz.func86,Tryz.ntmps86
 go_wp2_with (go_at_call 128;refine (Qc7 _ _ _ _).mono ?_;rintro e w' ⟨rfl,rfl⟩)
 go_ret
 rw [HR.out]
 exact ⟨rfl,rfl⟩
theorem Zfk (kids:Int) (w:World):Calls Tryz.prog 86 #[.int .i64 7,.int .i64 kids] w fun e w'=>e = .returned (.int .i64 (Qar 7 kids))∧w=w':=by
 have HR:=hQ (show Qar 7 kids=Qa7 kids 0 1 from rfl)
 go_enter Tryz.func86,Tryz.ntmps86
 go_wp2_with (go_at_call 128;refine (Qc7 _ _ _ _).mono ?_;rintro e w' ⟨rfl,rfl⟩)
 go_ret
 rw [HR.out]
 exact ⟨rfl,rfl⟩
theorem Zfl (kids:Int) (w:World):Calls Tryz.prog 86 #[.int .i64 8,.int .i64 kids] w fun e w'=>e = .returned (.int .i64 (Qar 8 kids))∧w=w':=by
 have HR:=hQ (show Qar 8 kids=Qa7 kids 1 2 from rfl)
 go_enter Tryz.func86,Tryz.ntmps86
 go_wp2_with (go_at_call 128;refine (Qc7 _ _ _ _).mono ?_;rintro e w' ⟨rfl,rfl⟩)
 go_ret
 rw [HR.out]
 exact ⟨rfl,rfl⟩
theorem Zfm (kids:Int) (w:World):Calls Tryz.prog 86 #[.int .i64 9,.int .i64 kids] w fun e w'=>e = .returned (.int .i64 (Qar 9 kids))∧w=w':=by
 have HR:=hQ (show Qar 9 kids=Qa7 kids 0 1 from rfl)
 go_enter Tryz.func86,Tryz.ntmps86
 go_wp2_with (go_at_call 128;refine (Qc7 _ _ _ _).mono ?_;rintro e w' ⟨rfl,rfl⟩)
 go_ret
 rw [HR.out]
 exact ⟨rfl,rfl⟩
theorem Zav (kids:Int) (w:World):Calls Tryz.prog 86 #[.int .i64 10,.int .i64 kids] w fun e w'=>e = .returned (.int .i64 (Qar 10 kids))∧w=w':=by
 have HR:=hQ (show Qar 10 kids=Qa7 kids 0 1 from rfl)
 go_enter Tryz.func86,Tryz.ntmps86
 go_wp2_with (go_at_call 128;refine (Qc7 _ _ _ _).mono ?_;rintro e w' ⟨rfl,rfl⟩)
 go_ret
 rw [HR.out]
 exact ⟨rfl,rfl⟩
theorem Zaw (kids:Int) (w:World):Calls Tryz.prog 86 #[.int .i64 11,.int .i64 kids] w fun e w'=>e = .returned (.int .i64 (Qar 11 kids))∧w=w':=by
 have HR:=hQ (show Qar 11 kids=Qa7 kids 0 1 from rfl)
 go_enter Tryz.func86,Tryz.ntmps86
 go_wp2_with (go_at_call 128;refine (Qc7 _ _ _ _).mono ?_;rintro e w' ⟨rfl,rfl⟩)
 go_ret
 rw [HR.out]
 exact ⟨rfl,rfl⟩
theorem Zax (kids:Int) (w:World):Calls Tryz.prog 86 #[.int .i64 12,.int .i64 kids] w fun e w'=>e = .returned (.int .i64 (Qar 12 kids))∧w=w':=by
 have HR:=hQ (show Qar 12 kids=Qa7 kids 0 1 from rfl)
 go_enter Tryz.func86,Tryz.ntmps86
 go_wp2_with (go_at_call 128;refine (Qc7 _ _ _ _).mono ?_;rintro e w' ⟨rfl,rfl⟩)
 go_ret
 rw [HR.out]
 exact ⟨rfl,rfl⟩
theorem Zay (kids:Int) (w:World):Calls Tryz.prog 86 #[.int .i64 13,.int .i64 kids] w fun e w'=>e = .returned (.int .i64 (Qar 13 kids))∧w=w':=by
 have HR:=hQ (show Qar 13 kids=Qa7 kids 0 1 from rfl)
 go_enter Tryz.func86,Tryz.ntmps86
 go_wp2_with (go_at_call 128;refine (Qc7 _ _ _ _).mono ?_;rintro e w' ⟨rfl,rfl⟩)
 go_ret
 rw [HR.out]
 exact ⟨rfl,rfl⟩
theorem Zaz (kids:Int) (w:World):Calls Tryz.prog 86 #[.int .i64 14,.int .i64 kids] w fun e w'=>e = .returned (.int .i64 (Qar 14 kids))∧w=w':=by
 have HR:=hQ (show Qar 14 kids=Qa7 kids 0 1 from rfl)
 go_enter Tryz.func86,Tryz.ntmps86
 go_wp2_with (go_at_call 128;refine (Qc7 _ _ _ _).mono ?_;rintro e w' ⟨rfl,rfl⟩)
 go_ret
 rw [HR.out]
 exact ⟨rfl,rfl⟩
theorem Za0 (kids:Int) (w:World):Calls Tryz.prog 86 #[.int .i64 15,.int .i64 kids] w fun e w'=>e = .returned (.int .i64 (Qar 15 kids))∧w=w':=by
 have HR:=hQ (show Qar 15 kids=Qa7 kids 0 1 from rfl)
 go_enter Tryz.func86,Tryz.ntmps86
 go_wp2_with (go_at_call 128;refine (Qc7 _ _ _ _).mono ?_;rintro e w' ⟨rfl,rfl⟩)
 go_ret
 rw [HR.out]
 exact ⟨rfl,rfl⟩
theorem Za1 (kids:Int) (w:World):Calls Tryz.prog 86 #[.int .i64 17,.int .i64 kids] w fun e w'=>e = .returned (.int .i64 (Qar 17 kids))∧w=w':=by
 have HR:=hQ (show Qar 17 kids=Qa7 kids 1 0 from rfl)
 go_enter Tryz.func86,Tryz.ntmps86
 go_wp2_with (go_at_call 128;refine (Qc7 _ _ _ _).mono ?_;rintro e w' ⟨rfl,rfl⟩)
 go_ret
 rw [HR.out]
 exact ⟨rfl,rfl⟩
theorem Za2 (kids:Int) (w:World):Calls Tryz.prog 86 #[.int .i64 19,.int .i64 kids] w fun e w'=>e = .returned (.int .i64 (Qar 19 kids))∧w=w':=by
 have HR:=hQ (show Qar 19 kids=Qa7 kids 3 3 from rfl)
 go_enter Tryz.func86,Tryz.ntmps86
 go_wp2_with (go_at_call 128;refine (Qc7 _ _ _ _).mono ?_;rintro e w' ⟨rfl,rfl⟩)
 go_ret
 rw [HR.out]
 exact ⟨rfl,rfl⟩
theorem Za3 (kids:Int) (w:World):Calls Tryz.prog 86 #[.int .i64 20,.int .i64 kids] w fun e w'=>e = .returned (.int .i64 (Qar 20 kids))∧w=w':=by
 have HR:=hQ (show Qar 20 kids=Qa7 kids 2 4 from rfl)
 go_enter Tryz.func86,Tryz.ntmps86
 go_wp2_with (go_at_call 128;refine (Qc7 _ _ _ _).mono ?_;rintro e w' ⟨rfl,rfl⟩)
 go_ret
 rw [HR.out]
 exact ⟨rfl,rfl⟩
theorem Za4 (kids:Int) (w:World):Calls Tryz.prog 86 #[.int .i64 21,.int .i64 kids] w fun e w'=>e = .returned (.int .i64 (Qar 21 kids))∧w=w':=by
 have HR:=hQ (show Qar 21 kids=Qa7 kids 2 1 from rfl)
 go_enter Tryz.func86,Tryz.ntmps86
 go_wp2_with (go_at_call 128;refine (Qc7 _ _ _ _).mono ?_;rintro e w' ⟨rfl,rfl⟩)
 go_ret
 rw [HR.out]
 exact ⟨rfl,rfl⟩
theorem Za5 (kids:Int) (w:World):Calls Tryz.prog 86 #[.int .i64 22,.int .i64 kids] w fun e w'=>e = .returned (.int .i64 (Qar 22 kids))∧w=w':=by
 have HR:=hQ (show Qar 22 kids=Qa7 kids 1 2 from rfl)
 go_enter Tryz.func86,Tryz.ntmps86
 go_wp2_with (go_at_call 128;refine (Qc7 _ _ _ _).mono ?_;rintro e w' ⟨rfl,rfl⟩)
 go_ret
 rw [HR.out]
 exact ⟨rfl,rfl⟩
theorem Zfn (kids:Int) (w:World) (_hk:kids≤1000):Calls Tryz.prog 86 #[.int .i64 1,.int .i64 kids] w fun e w'=>e = .returned (.int .i64 (Qar 1 kids))∧w=w':=by
 by_cases h:0≤kids
 ·have HR:=hQ (show Qar 1 kids=3 from by show (if 0≤kids then 3 else -1)=_;rw [xO h])
  go_enter Tryz.func86,Tryz.ntmps86
  go_wp2
  go_ret
  rw [HR.out]
  exact ⟨Qcf (by omega),rfl⟩
 ·have HR:=hQ (show Qar 1 kids = -1 from by show (if 0≤kids then 3 else -1)=_;rw [xN h])
  have hd:=xR h
  go_enter Tryz.func86,Tryz.ntmps86
  go_wp2
  go_ret
  rw [HR.out]
  exact ⟨rfl,rfl⟩
theorem Zfo (kids:Int) (w:World) (hk:kids≤1000):Calls Tryz.prog 86 #[.int .i64 2,.int .i64 kids] w fun e w'=>e = .returned (.int .i64 (Qar 2 kids))∧w=w':=by
 by_cases h:2≤kids
 ·have HR:=hQ (show Qar 2 kids=6+max 0 (kids-3) from by show (if 2≤kids then 6+max 0 (kids-3) else -1)=_;rw [xO h])
  go_enter Tryz.func86,Tryz.ntmps86
  go_wp2
  go_ret
  rw [HR.out]
  exact ⟨Qcf (by omega),rfl⟩
 ·have HR:=hQ (show Qar 2 kids = -1 from by show (if 2≤kids then 6+max 0 (kids-3) else -1)=_;rw [xN h])
  have hd:=xR h
  go_enter Tryz.func86,Tryz.ntmps86
  go_wp2
  go_ret
  rw [HR.out]
  exact ⟨rfl,rfl⟩
theorem Za6 (kids:Int) (w:World) (hk:kids≤1000):Calls Tryz.prog 86 #[.int .i64 16,.int .i64 kids] w fun e w'=>e = .returned (.int .i64 (Qar 16 kids))∧w=w':=by
 by_cases h:0≤kids
 ·have HR:=hQ (show Qar 16 kids=3+max 0 (kids-1) from by show (if 0≤kids then 3+max 0 (kids-1) else -1)=_;rw [xO h])
  go_enter Tryz.func86,Tryz.ntmps86
  go_wp2
  go_ret
  rw [HR.out]
  exact ⟨Qcf (by omega),rfl⟩
 ·have HR:=hQ (show Qar 16 kids = -1 from by show (if 0≤kids then 3+max 0 (kids-1) else -1)=_;rw [xN h])
  have hd:=xR h
  go_enter Tryz.func86,Tryz.ntmps86
  go_wp2
  go_ret
  rw [HR.out]
  exact ⟨rfl,rfl⟩
theorem Za7 (kids:Int) (w:World) (hk:kids≤1000):Calls Tryz.prog 86 #[.int .i64 18,.int .i64 kids] w fun e w'=>e = .returned (.int .i64 (Qar 18 kids))∧w=w':=by
 by_cases h:1≤kids
 ·have HR:=hQ (show Qar 18 kids=1+kids from by show (if 1≤kids then 1+kids else -1)=_;rw [xO h])
  go_enter Tryz.func86,Tryz.ntmps86
  go_wp2
  go_ret
  rw [HR.out]
  exact ⟨Qcf (by omega),rfl⟩
 ·have HR:=hQ (show Qar 18 kids = -1 from by show (if 1≤kids then 1+kids else -1)=_;rw [xN h])
  have hd:=xR h
  go_enter Tryz.func86,Tryz.ntmps86
  go_wp2
  go_ret
  rw [HR.out]
  exact ⟨rfl,rfl⟩
theorem Qtx (kind kids:Int) (w:World) (h:kind≤0∨23≤kind):Calls Tryz.prog 86 #[.int .i64 kind,.int .i64 kids] w fun e w'=>e = .returned (.int .i64 (Qar kind kids))∧w=w':=by
 have HR:=hQ (show Qar kind kids = -1 from by unfold Qar;simp only [show kind≠1 from by omega,show kind≠2 from by omega,show kind≠3 from by omega,show kind≠4 from by omega,show kind≠5 from by omega,show kind≠6 from by omega,show kind≠7 from by omega,show kind≠8 from by omega,show kind≠9 from by omega,show kind≠10 from by omega,show kind≠11 from by omega,show kind≠12 from by omega,show kind≠13 from by omega,show kind≠14 from by omega,show kind≠15 from by omega,show kind≠16 from by omega,show kind≠17 from by omega,show kind≠18 from by omega,show kind≠19 from by omega,show kind≠20 from by omega,show kind≠21 from by omega,show kind≠22 from by omega,if_false])
 have e1:=Qck (show kind≠1 from by omega)
 have e2:=Qck (show kind≠2 from by omega)
 have e3:=Qck (show kind≠3 from by omega)
 have e4:=Qck (show kind≠4 from by omega)
 have e5:=Qck (show kind≠5 from by omega)
 have e6:=Qck (show kind≠6 from by omega)
 have e7:=Qck (show kind≠7 from by omega)
 have e8:=Qck (show kind≠8 from by omega)
 have e9:=Qck (show kind≠9 from by omega)
 have e10:=Qck (show kind≠10 from by omega)
 have e11:=Qck (show kind≠11 from by omega)
 have e12:=Qck (show kind≠12 from by omega)
 have e13:=Qck (show kind≠13 from by omega)
 have e14:=Qck (show kind≠14 from by omega)
 have e15:=Qck (show kind≠15 from by omega)
 have e16:=Qck (show kind≠16 from by omega)
 have e17:=Qck (show kind≠17 from by omega)
 have e18:=Qck (show kind≠18 from by omega)
 have e19:=Qck (show kind≠19 from by omega)
 have e20:=Qck (show kind≠20 from by omega)
 have e21:=Qck (show kind≠21 from by omega)
 have e22:=Qck (show kind≠22 from by omega)
 clear h
 go_enter Tryz.func86,Tryz.ntmps86
 go_wp2
 go_ret
 rw [HR.out]
 exact ⟨rfl,rfl⟩
theorem Qhj (kind kids:Int) (w:World) (hk:kids≤1000):Calls Tryz.prog 86 #[.int .i64 kind,.int .i64 kids] w fun e w'=>e = .returned (.int .i64 (Qar kind kids))∧w=w':=by
 by_cases h:kind≤0∨23≤kind
 ·exact Qtx kind kids w h
 ·rcases (show kind=1∨kind=2∨kind=3∨kind=4∨kind=5∨kind=6∨kind=7∨kind=8∨kind=9∨kind=10∨kind=11∨kind=12∨kind=13∨kind=14∨kind=15∨kind=16∨kind=17∨kind=18∨kind=19∨kind=20∨kind=21∨kind=22 from by omega) with rfl | rfl | rfl | rfl | rfl | rfl | rfl | rfl | rfl | rfl | rfl | rfl | rfl | rfl | rfl | rfl | rfl | rfl | rfl | rfl | rfl | rfl
  ·exact Zfn kids w hk
  ·exact Zfo kids w hk
  ·exact Zfg kids w
  ·exact Zfh kids w
  ·exact Zfi kids w
  ·exact Zfj kids w
  ·exact Zfk kids w
  ·exact Zfl kids w
  ·exact Zfm kids w
  ·exact Zav kids w
  ·exact Zaw kids w
  ·exact Zax kids w
  ·exact Zay kids w
  ·exact Zaz kids w
  ·exact Za0 kids w
  ·exact Za6 kids w hk
  ·exact Za1 kids w
  ·exact Za7 kids w hk
  ·exact Za2 kids w
  ·exact Za3 kids w
  ·exact Za4 kids w
  ·exact Za5 kids w
theorem Qa9 {kind a b o tk:Int} {cm:Bool} (kids:Int) (hl:Qae kind≠[]) (h1:∀ k,(Qd6 (Qae kind) 0 0 k).1=a) (h2:∀ k,(Qd6 (Qae kind) 0 0 k).2.1=b) (ho:(Qpz (Qae kind):Int)=o) (ht:(Qcg (Qae kind):Int)=tk) (hc:∀ n,Qig (Qae kind) n=if cm=true∧1<n then n-1 else 0) :
  Qln kind kids=if 0≤kids∧a≤kids-o∧kids-o≤b then tk+(if cm=true∧1<kids-o then kids-o-1 else 0) else -1:=by
 by_cases h0:kids<0
 ·have hf:Qb6 (Qae kind) kids=(0,false):=by
   unfold Qb6
   rw [xO (Or.inr h0)]
  unfold Qln
  rw [hf,xN (by decide),xN (fun h=>by omega)]
 ·have hf:Qb6 (Qae kind) kids=(kids-o,decide (a≤kids-o) && decide (kids-o≤b)):=by
   unfold Qb6
   rw [xN (fun h=>by rcases h with h | h;exact hl h;exact h0 h),Qk3,h1,h2,ho]
  unfold Qln
  rw [hf,ht]
  dsimp only
  rw [hc]
  by_cases h3:a≤kids-o∧kids-o≤b
  ·rw [xS h3.1,xS h3.2,xO (show (true && true)=true from rfl),xO (show 0≤kids∧a≤kids-o∧kids-o≤b from ⟨by omega,h3⟩)]
  ·rw [xN (fun h=>by simp only [Bool.and_eq_true,decide_eq_true_eq] at h;exact h3 h),xN (fun h=>h3 h.2)]
theorem Qu8 (kind kids:Int) (hk:kids≤1000):Qln kind kids=Qar kind kids:=by
 by_cases h:kind≤0∨23≤kind
 ·unfold Qln
  rw [Qdy h]
  unfold Qar
  simp only [show kind≠1 from by omega,show kind≠2 from by omega,show kind≠3 from by omega,show kind≠4 from by omega,show kind≠5 from by omega,show kind≠6 from by omega,show kind≠7 from by omega,show kind≠8 from by omega,show kind≠9 from by omega,show kind≠10 from by omega,show kind≠11 from by omega,show kind≠12 from by omega,show kind≠13 from by omega,show kind≠14 from by omega,show kind≠15 from by omega,show kind≠16 from by omega,show kind≠17 from by omega,show kind≠18 from by omega,show kind≠19 from by omega,show kind≠20 from by omega,show kind≠21 from by omega,show kind≠22 from by omega,if_false]
  rfl
 ·rcases (show kind=1∨kind=2∨kind=3∨kind=4∨kind=5∨kind=6∨kind=7∨kind=8∨kind=9∨kind=10∨kind=11∨kind=12∨kind=13∨kind=14∨kind=15∨kind=16∨kind=17∨kind=18∨kind=19∨kind=20∨kind=21∨kind=22 from by omega) with rfl | rfl | rfl | rfl | rfl | rfl | rfl | rfl | rfl | rfl | rfl | rfl | rfl | rfl | rfl | rfl | rfl | rfl | rfl | rfl | rfl | rfl
  ·rw [Qa9 (a:=0) (b:=9223372036854775807) (o:=0) (tk:=3) (cm:=false) kids (by decide) (fun _=>rfl) (fun _=>rfl) rfl rfl (fun n=>rfl)]
   show _=(if 0≤kids then 3 else -1)
   repeat' split
   all_goals first | rfl | omega | (exfalso;omega) | (simp at * <;> omega)
  ·rw [Qa9 (a:=0) (b:=9223372036854775807) (o:=2) (tk:=6) (cm:=true) kids (by decide) (fun _=>rfl) (fun _=>rfl) rfl rfl (fun n=>by simp [Qae,Qig,Qcs,Qe6,Qk2,Qgh])]
   show _=(if 2≤kids then 6+max 0 (kids-3) else -1)
   rw [Int.max_def]
   repeat' split
   all_goals first | rfl | omega | (exfalso;omega) | (simp at * <;> omega)
  ·rw [Qa9 (a:=0) (b:=0) (o:=1) (tk:=3) (cm:=false) kids (by decide) (fun _=>rfl) (fun _=>rfl) rfl rfl (fun n=>rfl)]
   show _=(Qa7 kids 1 3)
   unfold Qa7
   repeat' split
   all_goals first | rfl | omega | (exfalso;omega) | (simp at * <;> omega)
  ·rw [Qa9 (a:=0) (b:=0) (o:=1) (tk:=2) (cm:=false) kids (by decide) (fun _=>rfl) (fun _=>rfl) rfl rfl (fun n=>rfl)]
   show _=(Qa7 kids 1 2)
   unfold Qa7
   repeat' split
   all_goals first | rfl | omega | (exfalso;omega) | (simp at * <;> omega)
  ·rw [Qa9 (a:=0) (b:=0) (o:=0) (tk:=1) (cm:=false) kids (by decide) (fun _=>rfl) (fun _=>rfl) rfl rfl (fun n=>rfl)]
   show _=(Qa7 kids 0 1)
   unfold Qa7
   repeat' split
   all_goals first | rfl | omega | (exfalso;omega) | (simp at * <;> omega)
  ·rw [Qa9 (a:=0) (b:=0) (o:=0) (tk:=1) (cm:=false) kids (by decide) (fun _=>rfl) (fun _=>rfl) rfl rfl (fun n=>rfl)]
   show _=(Qa7 kids 0 1)
   unfold Qa7
   repeat' split
   all_goals first | rfl | omega | (exfalso;omega) | (simp at * <;> omega)
  ·rw [Qa9 (a:=0) (b:=0) (o:=0) (tk:=1) (cm:=false) kids (by decide) (fun _=>rfl) (fun _=>rfl) rfl rfl (fun n=>rfl)]
   show _=(Qa7 kids 0 1)
   unfold Qa7
   repeat' split
   all_goals first | rfl | omega | (exfalso;omega) | (simp at * <;> omega)
  ·rw [Qa9 (a:=0) (b:=0) (o:=1) (tk:=2) (cm:=false) kids (by decide) (fun _=>rfl) (fun _=>rfl) rfl rfl (fun n=>rfl)]
   show _=(Qa7 kids 1 2)
   unfold Qa7
   repeat' split
   all_goals first | rfl | omega | (exfalso;omega) | (simp at * <;> omega)
  ·rw [Qa9 (a:=0) (b:=0) (o:=0) (tk:=1) (cm:=false) kids (by decide) (fun _=>rfl) (fun _=>rfl) rfl rfl (fun n=>rfl)]
   show _=(Qa7 kids 0 1)
   unfold Qa7
   repeat' split
   all_goals first | rfl | omega | (exfalso;omega) | (simp at * <;> omega)
  ·rw [Qa9 (a:=0) (b:=0) (o:=0) (tk:=1) (cm:=false) kids (by decide) (fun _=>rfl) (fun _=>rfl) rfl rfl (fun n=>rfl)]
   show _=(Qa7 kids 0 1)
   unfold Qa7
   repeat' split
   all_goals first | rfl | omega | (exfalso;omega) | (simp at * <;> omega)
  ·rw [Qa9 (a:=0) (b:=0) (o:=0) (tk:=1) (cm:=false) kids (by decide) (fun _=>rfl) (fun _=>rfl) rfl rfl (fun n=>rfl)]
   show _=(Qa7 kids 0 1)
   unfold Qa7
   repeat' split
   all_goals first | rfl | omega | (exfalso;omega) | (simp at * <;> omega)
  ·rw [Qa9 (a:=0) (b:=0) (o:=0) (tk:=1) (cm:=false) kids (by decide) (fun _=>rfl) (fun _=>rfl) rfl rfl (fun n=>rfl)]
   show _=(Qa7 kids 0 1)
   unfold Qa7
   repeat' split
   all_goals first | rfl | omega | (exfalso;omega) | (simp at * <;> omega)
  ·rw [Qa9 (a:=0) (b:=0) (o:=0) (tk:=1) (cm:=false) kids (by decide) (fun _=>rfl) (fun _=>rfl) rfl rfl (fun n=>rfl)]
   show _=(Qa7 kids 0 1)
   unfold Qa7
   repeat' split
   all_goals first | rfl | omega | (exfalso;omega) | (simp at * <;> omega)
  ·rw [Qa9 (a:=0) (b:=0) (o:=0) (tk:=1) (cm:=false) kids (by decide) (fun _=>rfl) (fun _=>rfl) rfl rfl (fun n=>rfl)]
   show _=(Qa7 kids 0 1)
   unfold Qa7
   repeat' split
   all_goals first | rfl | omega | (exfalso;omega) | (simp at * <;> omega)
  ·rw [Qa9 (a:=0) (b:=0) (o:=0) (tk:=1) (cm:=false) kids (by decide) (fun _=>rfl) (fun _=>rfl) rfl rfl (fun n=>rfl)]
   show _=(Qa7 kids 0 1)
   unfold Qa7
   repeat' split
   all_goals first | rfl | omega | (exfalso;omega) | (simp at * <;> omega)
  ·rw [Qa9 (a:=0) (b:=9223372036854775807) (o:=0) (tk:=3) (cm:=true) kids (by decide) (fun _=>rfl) (fun _=>rfl) rfl rfl (fun n=>by simp [Qae,Qig,Qcs,Qe6,Qgh])]
   show _=(if 0≤kids then 3+max 0 (kids-1) else -1)
   rw [Int.max_def]
   repeat' split
   all_goals first | rfl | omega | (exfalso;omega) | (simp at * <;> omega)
  ·rw [Qa9 (a:=0) (b:=0) (o:=1) (tk:=0) (cm:=false) kids (by decide) (fun _=>rfl) (fun _=>rfl) rfl rfl (fun n=>rfl)]
   show _=(Qa7 kids 1 0)
   unfold Qa7
   repeat' split
   all_goals first | rfl | omega | (exfalso;omega) | (simp at * <;> omega)
  ·rw [Qa9 (a:=1) (b:=9223372036854775807) (o:=0) (tk:=2) (cm:=true) kids (by decide) (fun _=>rfl) (fun _=>rfl) rfl rfl (fun n=>by simp [Qae,Qig,Qcs,Qgh])]
   show _=(if 1≤kids then 1+kids else -1)
   repeat' split
   all_goals first | rfl | omega | (exfalso;omega) | (simp at * <;> omega)
  ·rw [Qa9 (a:=0) (b:=0) (o:=3) (tk:=3) (cm:=false) kids (by decide) (fun _=>rfl) (fun _=>rfl) rfl rfl (fun n=>rfl)]
   show _=(Qa7 kids 3 3)
   unfold Qa7
   repeat' split
   all_goals first | rfl | omega | (exfalso;omega) | (simp at * <;> omega)
  ·rw [Qa9 (a:=0) (b:=0) (o:=2) (tk:=4) (cm:=false) kids (by decide) (fun _=>rfl) (fun _=>rfl) rfl rfl (fun n=>rfl)]
   show _=(Qa7 kids 2 4)
   unfold Qa7
   repeat' split
   all_goals first | rfl | omega | (exfalso;omega) | (simp at * <;> omega)
  ·rw [Qa9 (a:=0) (b:=0) (o:=2) (tk:=1) (cm:=false) kids (by decide) (fun _=>rfl) (fun _=>rfl) rfl rfl (fun n=>rfl)]
   show _=(Qa7 kids 2 1)
   unfold Qa7
   repeat' split
   all_goals first | rfl | omega | (exfalso;omega) | (simp at * <;> omega)
  ·rw [Qa9 (a:=0) (b:=0) (o:=1) (tk:=2) (cm:=false) kids (by decide) (fun _=>rfl) (fun _=>rfl) rfl rfl (fun n=>rfl)]
   show _=(Qa7 kids 1 2)
   unfold Qa7
   repeat' split
   all_goals first | rfl | omega | (exfalso;omega) | (simp at * <;> omega)
end Go.Proofs.YtclkilljmdkfaaaGreat
