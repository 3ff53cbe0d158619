/- Part 40 -/
import Derived.Test.YtjidpkcjpgdafaaGreatSf27
set_option maxRecDepth 100000
set_option maxHeartbeats 4000000
namespace Go.Proofs.YtjidpkcjpgdafaaGreat
open Go.RowKit
def Qax (kids must n:Int):Int:=if kids=must then n else -1
def Qan (kind kids:Int):Int :=
 if kind=1 then (if 0≤kids then 3 else -1) else
 if kind=2 then (if 2≤kids then 6+max 0 (kids-3) else -1) else
 if kind=3 then (Qax kids 1 3) else
 if kind=4 then (Qax kids 1 2) else
 if kind=5 then (Qax kids 0 1) else
 if kind=6 then (Qax kids 0 1) else
 if kind=7 then (Qax kids 0 1) else
 if kind=8 then (Qax kids 1 2) else
 if kind=9 then (Qax kids 0 1) else
 if kind=10 then (Qax kids 0 1) else
 if kind=11 then (Qax kids 0 1) else
 if kind=12 then (Qax kids 0 1) else
 if kind=13 then (Qax kids 0 1) else
 if kind=14 then (Qax kids 0 1) else
 if kind=15 then (Qax kids 0 1) else
 if kind=16 then (if 0≤kids then 3+max 0 (kids-1) else -1) else
 if kind=17 then (Qax kids 1 0) else
 if kind=18 then (if 1≤kids then 1+kids else -1) else
 if kind=19 then (Qax kids 3 3) else
 if kind=20 then (Qax kids 2 4) else
 if kind=21 then (Qax kids 2 1) else
 if kind=22 then (Qax kids 1 2) else
 -1
theorem Qb4 (kids must n:Int) (w:World):Calls Tryz.prog 200 #[.int .i64 kids,.int .i64 must,.int .i64 n] w fun e w'=>e = .returned (.int .i64 (Qax kids must n))∧w=w':=by
 by_cases h:kids=must
 ·have HR:=hQ (show Qax kids must n=n from by unfold Qax;rw [xO h])
  subst h
  go_enter Tryz.func200,Tryz.ntmps200
  go_wp2
  go_ret
  rw [HR.out]
  exact ⟨rfl,rfl⟩
 ·have HR:=hQ (show Qax kids must n = -1 from by unfold Qax;rw [xN h])
  have h':=Qdh h
  go_enter Tryz.func200,Tryz.ntmps200
  go_wp2
  go_ret
  rw [HR.out]
  exact ⟨rfl,rfl⟩
theorem Qwt (kids:Int) (w:World):Calls Tryz.prog 145 #[.int .i64 3,.int .i64 kids] w fun e w'=>e = .returned (.int .i64 (Qan 3 kids))∧w=w':=by
 have HR:=hQ (show Qan 3 kids=Qax kids 1 3 from rfl)
 go_enter Tryz.func145,Tryz.ntmps145
 go_wp2_with (go_at_call 200;refine (Qb4 _ _ _ _).mono ?_;rintro e w' ⟨rfl,rfl⟩)
 go_ret
 rw [HR.out]
 exact ⟨rfl,rfl⟩
theorem Qwu (kids:Int) (w:World):Calls Tryz.prog 145 #[.int .i64 4,.int .i64 kids] w fun e w'=>e = .returned (.int .i64 (Qan 4 kids))∧w=w':=by
 have HR:=hQ (show Qan 4 kids=Qax kids 1 2 from rfl)
 go_enter Tryz.func145,Tryz.ntmps145
 go_wp2_with (go_at_call 200;refine (Qb4 _ _ _ _).mono ?_;rintro e w' ⟨rfl,rfl⟩)
 go_ret
 rw [HR.out]
 exact ⟨rfl,rfl⟩
theorem Qwv (kids:Int) (w:World):Calls Tryz.prog 145 #[.int .i64 5,.int .i64 kids] w fun e w'=>e = .returned (.int .i64 (Qan 5 kids))∧w=w':=by
 have HR:=hQ (show Qan 5 kids=Qax kids 0 1 from rfl)
 go_enter Tryz.func145,Tryz.ntmps145
 go_wp2_with (go_at_call 200;refine (Qb4 _ _ _ _).mono ?_;rintro e w' ⟨rfl,rfl⟩)
 go_ret
 rw [HR.out]
 exact ⟨rfl,rfl⟩
theorem Qww (kids:Int) (w:World):Calls Tryz.prog 145 #[.int .i64 6,.int .i64 kids] w fun e w'=>e = .returned (.int .i64 (Qan 6 kids))∧w=w':=by
 have HR:=hQ (show Qan 6 kids=Qax kids 0 1 from rfl)
 go_enter Tryz.func145,Tryz.ntmps145
 go_wp2_with (go_at_call 200;refine (Qb4 _ _ _ _).mono ?_;rintro e w' ⟨rfl,rfl⟩)
 go_ret
 rw [HR.out]
 exact ⟨rfl,rfl⟩
theorem Qwx (kids:Int) (w:World):Calls Tryz.prog 145 #[.int .i64 7,.int .i64 kids] w fun e w'=>e = .returned (.int .i64 (Qan 7 kids))∧w=w':=by
 have HR:=hQ (show Qan 7 kids=Qax kids 0 1 from rfl)
 go_enter Tryz.func145,Tryz.ntmps145
 go_wp2_with (go_at_call 200;refine (Qb4 _ _ _ _).mono ?_;rintro e w' ⟨rfl,rfl⟩)
 go_ret
 rw [HR.out]
 exact ⟨rfl,rfl⟩
theorem Qwy (kids:Int) (w:World):Calls Tryz.prog 145 #[.int .i64 8,.int .i64 kids] w fun e w'=>e = .returned (.int .i64 (Qan 8 kids))∧w=w':=by
 have HR:=hQ (show Qan 8 kids=Qax kids 1 2 from rfl)
 go_enter Tryz.func145,Tryz.ntmps145
 go_wp2_with (go_at_call 200;refine (Qb4 _ _ _ _).mono ?_;rintro e w' ⟨rfl,rfl⟩)
 go_ret
 rw [HR.out]
 exact ⟨rfl,rfl⟩
theorem Qwz (kids:Int) (w:World):Calls Tryz.prog 145 #[.int .i64 9,.int .i64 kids] w fun e w'=>e = .returned (.int .i64 (Qan 9 kids))∧w=w':=by
 have HR:=hQ (show Qan 9 kids=Qax kids 0 1 from rfl)
 go_enter Tryz.func145,Tryz.ntmps145
 go_wp2_with (go_at_call 200;refine (Qb4 _ _ _ _).mono ?_;rintro e w' ⟨rfl,rfl⟩)
 go_ret
 rw [HR.out]
 exact ⟨rfl,rfl⟩
theorem Quk (kids:Int) (w:World):Calls Tryz.prog 145 #[.int .i64 10,.int .i64 kids] w fun e w'=>e = .returned (.int .i64 (Qan 10 kids))∧w=w':=by
 have HR:=hQ (show Qan 10 kids=Qax kids 0 1 from rfl)
 go_enter Tryz.func145,Tryz.ntmps145
 go_wp2_with (go_at_call 200;refine (Qb4 _ _ _ _).mono ?_;rintro e w' ⟨rfl,rfl⟩)
 go_ret
 rw [HR.out]
 exact ⟨rfl,rfl⟩
theorem Qul (kids:Int) (w:World):Calls Tryz.prog 145 #[.int .i64 11,.int .i64 kids] w fun e w'=>e = .returned (.int .i64 (Qan 11 kids))∧w=w':=by
 have HR:=hQ (show Qan 11 kids=Qax kids 0 1 from rfl)
 go_enter Tryz.func145,Tryz.ntmps145
 go_wp2_with (go_at_call 200;refine (Qb4 _ _ _ _).mono ?_;rintro e w' ⟨rfl,rfl⟩)
 go_ret
 rw [HR.out]
 exact ⟨rfl,rfl⟩
theorem Qum (kids:Int) (w:World):Calls Tryz.prog 145 #[.int .i64 12,.int .i64 kids] w fun e w'=>e = .returned (.int .i64 (Qan 12 kids))∧w=w':=by
 have HR:=hQ (show Qan 12 kids=Qax kids 0 1 from rfl)
 go_enter Tryz.func145,Tryz.ntmps145
 go_wp2_with (go_at_call 200;refine (Qb4 _ _ _ _).mono ?_;rintro e w' ⟨rfl,rfl⟩)
 go_ret
 rw [HR.out]
 exact ⟨rfl,rfl⟩
theorem Qun (kids:Int) (w:World):Calls Tryz.prog 145 #[.int .i64 13,.int .i64 kids] w fun e w'=>e = .returned (.int .i64 (Qan 13 kids))∧w=w':=by
 have HR:=hQ (show Qan 13 kids=Qax kids 0 1 from rfl)
 go_enter Tryz.func145,Tryz.ntmps145
 go_wp2_with (go_at_call 200;refine (Qb4 _ _ _ _).mono ?_;rintro e w' ⟨rfl,rfl⟩)
 go_ret
 rw [HR.out]
 exact ⟨rfl,rfl⟩
theorem Quo (kids:Int) (w:World):Calls Tryz.prog 145 #[.int .i64 14,.int .i64 kids] w fun e w'=>e = .returned (.int .i64 (Qan 14 kids))∧w=w':=by
 have HR:=hQ (show Qan 14 kids=Qax kids 0 1 from rfl)
 go_enter Tryz.func145,Tryz.ntmps145
 go_wp2_with (go_at_call 200;refine (Qb4 _ _ _ _).mono ?_;rintro e w' ⟨rfl,rfl⟩)
 go_ret
 rw [HR.out]
 exact ⟨rfl,rfl⟩
theorem Qup (kids:Int) (w:World):Calls Tryz.prog 145 #[.int .i64 15,.int .i64 kids] w fun e w'=>e = .returned (.int .i64 (Qan 15 kids))∧w=w':=by
 have HR:=hQ (show Qan 15 kids=Qax kids 0 1 from rfl)
 go_enter Tryz.func145,Tryz.ntmps145
 go_wp2_with (go_at_call 200;refine (Qb4 _ _ _ _).mono ?_;rintro e w' ⟨rfl,rfl⟩)
 go_ret
 rw [HR.out]
 exact ⟨rfl,rfl⟩
theorem Quq (kids:Int) (w:World):Calls Tryz.prog 145 #[.int .i64 17,.int .i64 kids] w fun e w'=>e = .returned (.int .i64 (Qan 17 kids))∧w=w':=by
 have HR:=hQ (show Qan 17 kids=Qax kids 1 0 from rfl)
 go_enter Tryz.func145,Tryz.ntmps145
 go_wp2_with (go_at_call 200;refine (Qb4 _ _ _ _).mono ?_;rintro e w' ⟨rfl,rfl⟩)
 go_ret
 rw [HR.out]
 exact ⟨rfl,rfl⟩
theorem Qur (kids:Int) (w:World):Calls Tryz.prog 145 #[.int .i64 19,.int .i64 kids] w fun e w'=>e = .returned (.int .i64 (Qan 19 kids))∧w=w':=by
 have HR:=hQ (show Qan 19 kids=Qax kids 3 3 from rfl)
 go_enter Tryz.func145,Tryz.ntmps145
 go_wp2_with (go_at_call 200;refine (Qb4 _ _ _ _).mono ?_;rintro e w' ⟨rfl,rfl⟩)
 go_ret
 rw [HR.out]
 exact ⟨rfl,rfl⟩
theorem Qus (kids:Int) (w:World):Calls Tryz.prog 145 #[.int .i64 20,.int .i64 kids] w fun e w'=>e = .returned (.int .i64 (Qan 20 kids))∧w=w':=by
 have HR:=hQ (show Qan 20 kids=Qax kids 2 4 from rfl)
 go_enter Tryz.func145,Tryz.ntmps145
 go_wp2_with (go_at_call 200;refine (Qb4 _ _ _ _).mono ?_;rintro e w' ⟨rfl,rfl⟩)
 go_ret
 rw [HR.out]
 exact ⟨rfl,rfl⟩
theorem Qut (kids:Int) (w:World):Calls Tryz.prog 145 #[.int .i64 21,.int .i64 kids] w fun e w'=>e = .returned (.int .i64 (Qan 21 kids))∧w=w':=by
 have HR:=hQ (show Qan 21 kids=Qax kids 2 1 from rfl)
 go_enter Tryz.func145,Tryz.ntmps145
 go_wp2_with (go_at_call 200;refine (Qb4 _ _ _ _).mono ?_;rintro e w' ⟨rfl,rfl⟩)
 go_ret
 rw [HR.out]
 exact ⟨rfl,rfl⟩
theorem Quu (kids:Int) (w:World):Calls Tryz.prog 145 #[.int .i64 22,.int .i64 kids] w fun e w'=>e = .returned (.int .i64 (Qan 22 kids))∧w=w':=by
 have HR:=hQ (show Qan 22 kids=Qax kids 1 2 from rfl)
 go_enter Tryz.func145,Tryz.ntmps145
 go_wp2_with (go_at_call 200;refine (Qb4 _ _ _ _).mono ?_;rintro e w' ⟨rfl,rfl⟩)
 go_ret
 rw [HR.out]
 exact ⟨rfl,rfl⟩
theorem Qw0 (kids:Int) (w:World) (_hk:kids≤1000):Calls Tryz.prog 145 #[.int .i64 1,.int .i64 kids] w fun e w'=>e = .returned (.int .i64 (Qan 1 kids))∧w=w':=by
 by_cases h:0≤kids
 ·have HR:=hQ (show Qan 1 kids=3 from by show (if 0≤kids then 3 else -1)=_;rw [xO h])
  go_enter Tryz.func145,Tryz.ntmps145
  go_wp2
  go_ret
  rw [HR.out]
  exact ⟨Qbi (by omega),rfl⟩
 ·have HR:=hQ (show Qan 1 kids = -1 from by show (if 0≤kids then 3 else -1)=_;rw [xN h])
  have hd:=xR h
  go_enter Tryz.func145,Tryz.ntmps145
  go_wp2
  go_ret
  rw [HR.out]
  exact ⟨rfl,rfl⟩
theorem Qw1 (kids:Int) (w:World) (hk:kids≤1000):Calls Tryz.prog 145 #[.int .i64 2,.int .i64 kids] w fun e w'=>e = .returned (.int .i64 (Qan 2 kids))∧w=w':=by
 by_cases h:2≤kids
 ·have HR:=hQ (show Qan 2 kids=6+max 0 (kids-3) from by show (if 2≤kids then 6+max 0 (kids-3) else -1)=_;rw [xO h])
  go_enter Tryz.func145,Tryz.ntmps145
  go_wp2
  go_ret
  rw [HR.out]
  exact ⟨Qbi (by omega),rfl⟩
 ·have HR:=hQ (show Qan 2 kids = -1 from by show (if 2≤kids then 6+max 0 (kids-3) else -1)=_;rw [xN h])
  have hd:=xR h
  go_enter Tryz.func145,Tryz.ntmps145
  go_wp2
  go_ret
  rw [HR.out]
  exact ⟨rfl,rfl⟩
theorem Quv (kids:Int) (w:World) (hk:kids≤1000):Calls Tryz.prog 145 #[.int .i64 16,.int .i64 kids] w fun e w'=>e = .returned (.int .i64 (Qan 16 kids))∧w=w':=by
 by_cases h:0≤kids
 ·have HR:=hQ (show Qan 16 kids=3+max 0 (kids-1) from by show (if 0≤kids then 3+max 0 (kids-1) else -1)=_;rw [xO h])
  go_enter Tryz.func145,Tryz.ntmps145
  go_wp2
  go_ret
  rw [HR.out]
  exact ⟨Qbi (by omega),rfl⟩
 ·have HR:=hQ (show Qan 16 kids = -1 from by show (if 0≤kids then 3+max 0 (kids-1) else -1)=_;rw [xN h])
  have hd:=xR h
  go_enter Tryz.func145,Tryz.ntmps145
  go_wp2
  go_ret
  rw [HR.out]
  exact ⟨rfl,rfl⟩
theorem Quw (kids:Int) (w:World) (hk:kids≤1000):Calls Tryz.prog 145 #[.int .i64 18,.int .i64 kids] w fun e w'=>e = .returned (.int .i64 (Qan 18 kids))∧w=w':=by
 by_cases h:1≤kids
 ·have HR:=hQ (show Qan 18 kids=1+kids from by show (if 1≤kids then 1+kids else -1)=_;rw [xO h])
  go_enter Tryz.func145,Tryz.ntmps145
  go_wp2
  go_ret
  rw [HR.out]
  exact ⟨Qbi (by omega),rfl⟩
 ·have HR:=hQ (show Qan 18 kids = -1 from by show (if 1≤kids then 1+kids else -1)=_;rw [xN h])
  have hd:=xR h
  go_enter Tryz.func145,Tryz.ntmps145
  go_wp2
  go_ret
  rw [HR.out]
  exact ⟨rfl,rfl⟩
theorem Qpm (kind kids:Int) (w:World) (h:kind≤0∨23≤kind):Calls Tryz.prog 145 #[.int .i64 kind,.int .i64 kids] w fun e w'=>e = .returned (.int .i64 (Qan kind kids))∧w=w':=by
 have HR:=hQ (show Qan kind kids = -1 from by unfold Qan;simp only [show kind≠1 from by omega,show kind≠2 from by omega,show kind≠3 from by omega,show kind≠4 from by omega,show kind≠5 from by omega,show kind≠6 from by omega,show kind≠7 from by omega,show kind≠8 from by omega,show kind≠9 from by omega,show kind≠10 from by omega,show kind≠11 from by omega,show kind≠12 from by omega,show kind≠13 from by omega,show kind≠14 from by omega,show kind≠15 from by omega,show kind≠16 from by omega,show kind≠17 from by omega,show kind≠18 from by omega,show kind≠19 from by omega,show kind≠20 from by omega,show kind≠21 from by omega,show kind≠22 from by omega,if_false])
 have e1:=Qdh (show kind≠1 from by omega)
 have e2:=Qdh (show kind≠2 from by omega)
 have e3:=Qdh (show kind≠3 from by omega)
 have e4:=Qdh (show kind≠4 from by omega)
 have e5:=Qdh (show kind≠5 from by omega)
 have e6:=Qdh (show kind≠6 from by omega)
 have e7:=Qdh (show kind≠7 from by omega)
 have e8:=Qdh (show kind≠8 from by omega)
 have e9:=Qdh (show kind≠9 from by omega)
 have e10:=Qdh (show kind≠10 from by omega)
 have e11:=Qdh (show kind≠11 from by omega)
 have e12:=Qdh (show kind≠12 from by omega)
 have e13:=Qdh (show kind≠13 from by omega)
 have e14:=Qdh (show kind≠14 from by omega)
 have e15:=Qdh (show kind≠15 from by omega)
 have e16:=Qdh (show kind≠16 from by omega)
 have e17:=Qdh (show kind≠17 from by omega)
 have e18:=Qdh (show kind≠18 from by omega)
 have e19:=Qdh (show kind≠19 from by omega)
 have e20:=Qdh (show kind≠20 from by omega)
 have e21:=Qdh (show kind≠21 from by omega)
 have e22:=Qdh (show kind≠22 from by omega)
 clear h
 go_enter Tryz.func145,Tryz.ntmps145
 go_wp2
 go_ret
 rw [HR.out]
 exact ⟨rfl,rfl⟩
theorem Qiz (kind kids:Int) (w:World) (hk:kids≤1000):Calls Tryz.prog 145 #[.int .i64 kind,.int .i64 kids] w fun e w'=>e = .returned (.int .i64 (Qan kind kids))∧w=w':=by
 by_cases h:kind≤0∨23≤kind
 ·exact Qpm kind kids w h
 ·rcases (show kind=1∨kind=2∨kind=3∨kind=4∨kind=5∨kind=6∨kind=7∨kind=8∨kind=9∨kind=10∨kind=11∨kind=12∨kind=13∨kind=14∨kind=15∨kind=16∨kind=17∨kind=18∨kind=19∨kind=20∨kind=21∨kind=22 from by omega) with rfl | rfl | rfl | rfl | rfl | rfl | rfl | rfl | rfl | rfl | rfl | rfl | rfl | rfl | rfl | rfl | rfl | rfl | rfl | rfl | rfl | rfl
  ·exact Qw0 kids w hk
  ·exact Qw1 kids w hk
  ·exact Qwt kids w
  ·exact Qwu kids w
  ·exact Qwv kids w
  ·exact Qww kids w
  ·exact Qwx kids w
  ·exact Qwy kids w
  ·exact Qwz kids w
  ·exact Quk kids w
  ·exact Qul kids w
  ·exact Qum kids w
  ·exact Qun kids w
  ·exact Quo kids w
  ·exact Qup kids w
  ·exact Quv kids w hk
  ·exact Quq kids w
  ·exact Quw kids w hk
  ·exact Qur kids w
  ·exact Qus kids w
  ·exact Qut kids w
  ·exact Quu kids w
theorem Qap {kind a b o tk:Int} {cm:Bool} (kids:Int) (hl:Qae kind≠[]) (h1:∀ k,(Qcz (Qae kind) 0 0 k).1=a) (h2:∀ k,(Qcz (Qae kind) 0 0 k).2.1=b) (ho:(Qmj (Qae kind):Int)=o) (ht:(Qo0 (Qae kind):Int)=tk) (hc:∀ n,Qgn (Qae kind) n=if cm=true∧1<n then n-1 else 0) :
  Qle kind kids=if 0≤kids∧a≤kids-o∧kids-o≤b then tk+(if cm=true∧1<kids-o then kids-o-1 else 0) else -1:=by
 by_cases h0:kids<0
 ·have hf:Qb6 (Qae kind) kids=(0,false):=by
   unfold Qb6
   rw [xO (Or.inr h0)]
  unfold Qle
  rw [hf,xN (by decide),xN (fun h=>by omega)]
 ·have hf:Qb6 (Qae kind) kids=(kids-o,decide (a≤kids-o) && decide (kids-o≤b)):=by
   unfold Qb6
   rw [xN (fun h=>by rcases h with h | h;exact hl h;exact h0 h),Qin,h1,h2,ho]
  unfold Qle
  rw [hf,ht]
  dsimp only
  rw [hc]
  by_cases h3:a≤kids-o∧kids-o≤b
  ·rw [xS h3.1,xS h3.2,xO (show (true && true)=true from rfl),xO (show 0≤kids∧a≤kids-o∧kids-o≤b from ⟨by omega,h3⟩)]
  ·rw [xN (fun h=>by simp only [Bool.and_eq_true,decide_eq_true_eq] at h;exact h3 h),xN (fun h=>h3 h.2)]
theorem Qw2 (kind kids:Int) (hk:kids≤1000):Qle kind kids=Qan kind kids:=by
 by_cases h:kind≤0∨23≤kind
 ·unfold Qle
  rw [Qee h]
  unfold Qan
  simp only [show kind≠1 from by omega,show kind≠2 from by omega,show kind≠3 from by omega,show kind≠4 from by omega,show kind≠5 from by omega,show kind≠6 from by omega,show kind≠7 from by omega,show kind≠8 from by omega,show kind≠9 from by omega,show kind≠10 from by omega,show kind≠11 from by omega,show kind≠12 from by omega,show kind≠13 from by omega,show kind≠14 from by omega,show kind≠15 from by omega,show kind≠16 from by omega,show kind≠17 from by omega,show kind≠18 from by omega,show kind≠19 from by omega,show kind≠20 from by omega,show kind≠21 from by omega,show kind≠22 from by omega,if_false]
  rfl
 ·rcases (show kind=1∨kind=2∨kind=3∨kind=4∨kind=5∨kind=6∨kind=7∨kind=8∨kind=9∨kind=10∨kind=11∨kind=12∨kind=13∨kind=14∨kind=15∨kind=16∨kind=17∨kind=18∨kind=19∨kind=20∨kind=21∨kind=22 from by omega) with rfl | rfl | rfl | rfl | rfl | rfl | rfl | rfl | rfl | rfl | rfl | rfl | rfl | rfl | rfl | rfl | rfl | rfl | rfl | rfl | rfl | rfl
  ·rw [Qap (a:=0) (b:=9223372036854775807) (o:=0) (tk:=3) (cm:=false) kids (by decide) (fun _=>rfl) (fun _=>rfl) rfl rfl (fun n=>rfl)]
   show _=(if 0≤kids then 3 else -1)
   repeat' split
   all_goals first | rfl | omega | (exfalso;omega) | (simp at * <;> omega)
  ·rw [Qap (a:=0) (b:=9223372036854775807) (o:=2) (tk:=6) (cm:=true) kids (by decide) (fun _=>rfl) (fun _=>rfl) rfl rfl (fun n=>by simp [Qae,Qgn,Qcy,Qg6,Qoe,Qj5])]
   show _=(if 2≤kids then 6+max 0 (kids-3) else -1)
   rw [Int.max_def]
   repeat' split
   all_goals first | rfl | omega | (exfalso;omega) | (simp at * <;> omega)
  ·rw [Qap (a:=0) (b:=0) (o:=1) (tk:=3) (cm:=false) kids (by decide) (fun _=>rfl) (fun _=>rfl) rfl rfl (fun n=>rfl)]
   show _=(Qax kids 1 3)
   unfold Qax
   repeat' split
   all_goals first | rfl | omega | (exfalso;omega) | (simp at * <;> omega)
  ·rw [Qap (a:=0) (b:=0) (o:=1) (tk:=2) (cm:=false) kids (by decide) (fun _=>rfl) (fun _=>rfl) rfl rfl (fun n=>rfl)]
   show _=(Qax kids 1 2)
   unfold Qax
   repeat' split
   all_goals first | rfl | omega | (exfalso;omega) | (simp at * <;> omega)
  ·rw [Qap (a:=0) (b:=0) (o:=0) (tk:=1) (cm:=false) kids (by decide) (fun _=>rfl) (fun _=>rfl) rfl rfl (fun n=>rfl)]
   show _=(Qax kids 0 1)
   unfold Qax
   repeat' split
   all_goals first | rfl | omega | (exfalso;omega) | (simp at * <;> omega)
  ·rw [Qap (a:=0) (b:=0) (o:=0) (tk:=1) (cm:=false) kids (by decide) (fun _=>rfl) (fun _=>rfl) rfl rfl (fun n=>rfl)]
   show _=(Qax kids 0 1)
   unfold Qax
   repeat' split
   all_goals first | rfl | omega | (exfalso;omega) | (simp at * <;> omega)
  ·rw [Qap (a:=0) (b:=0) (o:=0) (tk:=1) (cm:=false) kids (by decide) (fun _=>rfl) (fun _=>rfl) rfl rfl (fun n=>rfl)]
   show _=(Qax kids 0 1)
   unfold Qax
   repeat' split
   all_goals first | rfl | omega | (exfalso;omega) | (simp at * <;> omega)
  ·rw [Qap (a:=0) (b:=0) (o:=1) (tk:=2) (cm:=false) kids (by decide) (fun _=>rfl) (fun _=>rfl) rfl rfl (fun n=>rfl)]
   show _=(Qax kids 1 2)
   unfold Qax
   repeat' split
   all_goals first | rfl | omega | (exfalso;omega) | (simp at * <;> omega)
  ·rw [Qap (a:=0) (b:=0) (o:=0) (tk:=1) (cm:=false) kids (by decide) (fun _=>rfl) (fun _=>rfl) rfl rfl (fun n=>rfl)]
   show _=(Qax kids 0 1)
   unfold Qax
   repeat' split
   all_goals first | rfl | omega | (exfalso;omega) | (simp at * <;> omega)
  ·rw [Qap (a:=0) (b:=0) (o:=0) (tk:=1) (cm:=false) kids (by decide) (fun _=>rfl) (fun _=>rfl) rfl rfl (fun n=>rfl)]
   show _=(Qax kids 0 1)
   unfold Qax
   repeat' split
   all_goals first | rfl | omega | (exfalso;omega) | (simp at * <;> omega)
  ·rw [Qap (a:=0) (b:=0) (o:=0) (tk:=1) (cm:=false) kids (by decide) (fun _=>rfl) (fun _=>rfl) rfl rfl (fun n=>rfl)]
   show _=(Qax kids 0 1)
   unfold Qax
   repeat' split
   all_goals first | rfl | omega | (exfalso;omega) | (simp at * <;> omega)
  ·rw [Qap (a:=0) (b:=0) (o:=0) (tk:=1) (cm:=false) kids (by decide) (fun _=>rfl) (fun _=>rfl) rfl rfl (fun n=>rfl)]
   show _=(Qax kids 0 1)
   unfold Qax
   repeat' split
   all_goals first | rfl | omega | (exfalso;omega) | (simp at * <;> omega)
  ·rw [Qap (a:=0) (b:=0) (o:=0) (tk:=1) (cm:=false) kids (by decide) (fun _=>rfl) (fun _=>rfl) rfl rfl (fun n=>rfl)]
   show _=(Qax kids 0 1)
   unfold Qax
   repeat' split
   all_goals first | rfl | omega | (exfalso;omega) | (simp at * <;> omega)
  ·rw [Qap (a:=0) (b:=0) (o:=0) (tk:=1) (cm:=false) kids (by decide) (fun _=>rfl) (fun _=>rfl) rfl rfl (fun n=>rfl)]
   show _=(Qax kids 0 1)
   unfold Qax
   repeat' split
   all_goals first | rfl | omega | (exfalso;omega) | (simp at * <;> omega)
  ·rw [Qap (a:=0) (b:=0) (o:=0) (tk:=1) (cm:=false) kids (by decide) (fun _=>rfl) (fun _=>rfl) rfl rfl (fun n=>rfl)]
   show _=(Qax kids 0 1)
   unfold Qax
   repeat' split
   all_goals first | rfl | omega | (exfalso;omega) | (simp at * <;> omega)
  ·rw [Qap (a:=0) (b:=9223372036854775807) (o:=0) (tk:=3) (cm:=true) kids (by decide) (fun _=>rfl) (fun _=>rfl) rfl rfl (fun n=>by simp [Qae,Qgn,Qcy,Qg6,Qj5])]
   show _=(if 0≤kids then 3+max 0 (kids-1) else -1)
   rw [Int.max_def]
   repeat' split
   all_goals first | rfl | omega | (exfalso;omega) | (simp at * <;> omega)
  ·rw [Qap (a:=0) (b:=0) (o:=1) (tk:=0) (cm:=false) kids (by decide) (fun _=>rfl) (fun _=>rfl) rfl rfl (fun n=>rfl)]
   show _=(Qax kids 1 0)
   unfold Qax
   repeat' split
   all_goals first | rfl | omega | (exfalso;omega) | (simp at * <;> omega)
  ·rw [Qap (a:=1) (b:=9223372036854775807) (o:=0) (tk:=2) (cm:=true) kids (by decide) (fun _=>rfl) (fun _=>rfl) rfl rfl (fun n=>by simp [Qae,Qgn,Qcy,Qj5])]
   show _=(if 1≤kids then 1+kids else -1)
   repeat' split
   all_goals first | rfl | omega | (exfalso;omega) | (simp at * <;> omega)
  ·rw [Qap (a:=0) (b:=0) (o:=3) (tk:=3) (cm:=false) kids (by decide) (fun _=>rfl) (fun _=>rfl) rfl rfl (fun n=>rfl)]
   show _=(Qax kids 3 3)
   unfold Qax
   repeat' split
   all_goals first | rfl | omega | (exfalso;omega) | (simp at * <;> omega)
  ·rw [Qap (a:=0) (b:=0) (o:=2) (tk:=4) (cm:=false) kids (by decide) (fun _=>rfl) (fun _=>rfl) rfl rfl (fun n=>rfl)]
   show _=(Qax kids 2 4)
   unfold Qax
   repeat' split
   all_goals first | rfl | omega | (exfalso;omega) | (simp at * <;> omega)
  ·rw [Qap (a:=0) (b:=0) (o:=2) (tk:=1) (cm:=false) kids (by decide) (fun _=>rfl) (fun _=>rfl) rfl rfl (fun n=>rfl)]
   show _=(Qax kids 2 1)
   unfold Qax
   repeat' split
   all_goals first | rfl | omega | (exfalso;omega) | (simp at * <;> omega)
  ·rw [Qap (a:=0) (b:=0) (o:=1) (tk:=2) (cm:=false) kids (by decide) (fun _=>rfl) (fun _=>rfl) rfl rfl (fun n=>rfl)]
   show _=(Qax kids 1 2)
   unfold Qax
   repeat' split
   all_goals first | rfl | omega | (exfalso;omega) | (simp at * <;> omega)
end Go.Proofs.YtjidpkcjpgdafaaGreat
