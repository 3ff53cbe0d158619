/- Part 27 -/
import Derived.Test.YtjidpkcjpgdafaaGreatSe17
set_option maxRecDepth 100000
set_option maxHeartbeats 4000000
namespace Go.Proofs.YtjidpkcjpgdafaaGreat
open Go.RowKit
def Qbb (kids must n:Int):Int:=if kids=must then n else -1
def Qat (kind kids:Int):Int :=
 if kind=1 then (if 0≤kids then 3 else -1) else
 if kind=2 then (if 2≤kids then 6+max 0 (kids-3) else -1) else
 if kind=3 then (Qbb kids 1 3) else
 if kind=4 then (Qbb kids 1 2) else
 if kind=5 then (Qbb kids 0 1) else
 if kind=6 then (Qbb kids 0 1) else
 if kind=7 then (Qbb kids 0 1) else
 if kind=8 then (Qbb kids 1 2) else
 if kind=9 then (Qbb kids 0 1) else
 if kind=10 then (Qbb kids 0 1) else
 if kind=11 then (Qbb kids 0 1) else
 if kind=12 then (Qbb kids 0 1) else
 if kind=13 then (Qbb kids 0 1) else
 if kind=14 then (Qbb kids 0 1) else
 if kind=15 then (Qbb kids 0 1) else
 if kind=16 then (if 0≤kids then 3+max 0 (kids-1) else -1) else
 if kind=17 then (Qbb kids 1 0) else
 if kind=18 then (if 1≤kids then 1+kids else -1) else
 if kind=19 then (Qbb kids 3 3) else
 if kind=20 then (Qbb kids 2 4) else
 if kind=21 then (Qbb kids 2 1) else
 if kind=22 then (Qbb kids 1 2) else
 -1
theorem Qc0 (kids must n:Int) (w:World):Calls Tryz.prog 200 #[.int .i64 kids,.int .i64 must,.int .i64 n] w fun e w'=>e = .returned (.int .i64 (Qbb kids must n))∧w=w':=by
 by_cases h:kids=must
 ·have HR:=hQ (show Qbb kids must n=n from by unfold Qbb;rw [xO h]);subst h
  go_enter Tryz.func200,Tryz.ntmps200
  go_wp2
  go_ret
  rw [HR.out];exact ⟨rfl,rfl⟩
 ·have HR:=hQ (show Qbb kids must n = -1 from by unfold Qbb;rw [xN h]);have h':=Qcn h
  go_enter Tryz.func200,Tryz.ntmps200
  go_wp2
  go_ret
  rw [HR.out];exact ⟨rfl,rfl⟩
theorem Zc1 (kids:Int) (w:World):Calls Tryz.prog 145 #[.int .i64 3,.int .i64 kids] w fun e w'=>e = .returned (.int .i64 (Qat 3 kids))∧w=w':=by
 have HR:=hQ (show Qat 3 kids=Qbb kids 1 3 from rfl)
 go_enter Tryz.func145,Tryz.ntmps145
 go_wp2_with (go_at_call 200;refine (Qc0 _ _ _ _).mono ?_;rintro e w' ⟨rfl,rfl⟩)
 go_ret
 rw [HR.out];exact ⟨rfl,rfl⟩
theorem Zc2 (kids:Int) (w:World):Calls Tryz.prog 145 #[.int .i64 4,.int .i64 kids] w fun e w'=>e = .returned (.int .i64 (Qat 4 kids))∧w=w':=by
 have HR:=hQ (show Qat 4 kids=Qbb kids 1 2 from rfl)
 go_enter Tryz.func145,Tryz.ntmps145
 go_wp2_with (go_at_call 200;refine (Qc0 _ _ _ _).mono ?_;rintro e w' ⟨rfl,rfl⟩)
 go_ret
 rw [HR.out];exact ⟨rfl,rfl⟩
theorem Zc3 (kids:Int) (w:World):Calls Tryz.prog 145 #[.int .i64 5,.int .i64 kids] w fun e w'=>e = .returned (.int .i64 (Qat 5 kids))∧w=w':=by
 have HR:=hQ (show Qat 5 kids=Qbb kids 0 1 from rfl)
 go_enter Tryz.func145,Tryz.ntmps145
 go_wp2_with (go_at_call 200;refine (Qc0 _ _ _ _).mono ?_;rintro e w' ⟨rfl,rfl⟩)
 go_ret
 rw [HR.out];exact ⟨rfl,rfl⟩
theorem Zc4 (kids:Int) (w:World):Calls Tryz.prog 145 #[.int .i64 6,.int .i64 kids] w fun e w'=>e = .returned (.int .i64 (Qat 6 kids))∧w=w':=by
 have HR:=hQ (show Qat 6 kids=Qbb kids 0 1 from rfl)
 go_enter Tryz.func145,Tryz.ntmps145
 go_wp2_with (go_at_call 200;refine (Qc0 _ _ _ _).mono ?_;rintro e w' ⟨rfl,rfl⟩)
 go_ret
 rw [HR.out];exact ⟨rfl,rfl⟩
theorem Zc5 (kids:Int) (w:World):Calls Tryz.prog 145 #[.int .i64 7,.int .i64 kids] w fun e w'=>e = .returned (.int .i64 (Qat 7 kids))∧w=w':=by
 have HR:=hQ (show Qat 7 kids=Qbb kids 0 1 from rfl)
 go_enter Tryz.func145,Tryz.ntmps145
 go_wp2_with (go_at_call 200;refine (Qc0 _ _ _ _).mono ?_;rintro e w' ⟨rfl,rfl⟩)
 go_ret
 rw [HR.out];exact ⟨rfl,rfl⟩
theorem Zc6 (kids:Int) (w:World):Calls Tryz.prog 145 #[.int .i64 8,.int .i64 kids] w fun e w'=>e = .returned (.int .i64 (Qat 8 kids))∧w=w':=by
 have HR:=hQ (show Qat 8 kids=Qbb kids 1 2 from rfl)
 go_enter Tryz.func145,Tryz.ntmps145
 go_wp2_with (go_at_call 200;refine (Qc0 _ _ _ _).mono ?_;rintro e w' ⟨rfl,rfl⟩)
 go_ret
 rw [HR.out];exact ⟨rfl,rfl⟩
theorem Zc7 (kids:Int) (w:World):Calls Tryz.prog 145 #[.int .i64 9,.int .i64 kids] w fun e w'=>e = .returned (.int .i64 (Qat 9 kids))∧w=w':=by
 have HR:=hQ (show Qat 9 kids=Qbb kids 0 1 from rfl)
 go_enter Tryz.func145,Tryz.ntmps145
 go_wp2_with (go_at_call 200;refine (Qc0 _ _ _ _).mono ?_;rintro e w' ⟨rfl,rfl⟩)
 go_ret
 rw [HR.out];exact ⟨rfl,rfl⟩
theorem Qzg (kids:Int) (w:World):Calls Tryz.prog 145 #[.int .i64 10,.int .i64 kids] w fun e w'=>e = .returned (.int .i64 (Qat 10 kids))∧w=w':=by
 have HR:=hQ (show Qat 10 kids=Qbb kids 0 1 from rfl)
 go_enter Tryz.func145,Tryz.ntmps145
 go_wp2_with (go_at_call 200;refine (Qc0 _ _ _ _).mono ?_;rintro e w' ⟨rfl,rfl⟩)
 go_ret
 rw [HR.out];exact ⟨rfl,rfl⟩
theorem Qzh (kids:Int) (w:World):Calls Tryz.prog 145 #[.int .i64 11,.int .i64 kids] w fun e w'=>e = .returned (.int .i64 (Qat 11 kids))∧w=w':=by
 have HR:=hQ (show Qat 11 kids=Qbb kids 0 1 from rfl)
 go_enter Tryz.func145,Tryz.ntmps145
 go_wp2_with (go_at_call 200;refine (Qc0 _ _ _ _).mono ?_;rintro e w' ⟨rfl,rfl⟩)
 go_ret
 rw [HR.out];exact ⟨rfl,rfl⟩
theorem Qzi (kids:Int) (w:World):Calls Tryz.prog 145 #[.int .i64 12,.int .i64 kids] w fun e w'=>e = .returned (.int .i64 (Qat 12 kids))∧w=w':=by
 have HR:=hQ (show Qat 12 kids=Qbb kids 0 1 from rfl)
 go_enter Tryz.func145,Tryz.ntmps145
 go_wp2_with (go_at_call 200;refine (Qc0 _ _ _ _).mono ?_;rintro e w' ⟨rfl,rfl⟩)
 go_ret
 rw [HR.out];exact ⟨rfl,rfl⟩
theorem Qzj (kids:Int) (w:World):Calls Tryz.prog 145 #[.int .i64 13,.int .i64 kids] w fun e w'=>e = .returned (.int .i64 (Qat 13 kids))∧w=w':=by
 have HR:=hQ (show Qat 13 kids=Qbb kids 0 1 from rfl)
 go_enter Tryz.func145,Tryz.ntmps145
 go_wp2_with (go_at_call 200;refine (Qc0 _ _ _ _).mono ?_;rintro e w' ⟨rfl,rfl⟩)
 go_ret
 rw [HR.out];exact ⟨rfl,rfl⟩
theorem Qzk (kids:Int) (w:World):Calls Tryz.prog 145 #[.int .i64 14,.int .i64 kids] w fun e w'=>e = .returned (.int .i64 (Qat 14 kids))∧w=w':=by
 have HR:=hQ (show Qat 14 kids=Qbb kids 0 1 from rfl)
 go_enter Tryz.func145,Tryz.ntmps145
 go_wp2_with (go_at_call 200;refine (Qc0 _ _ _ _).mono ?_;rintro e w' ⟨rfl,rfl⟩)
 go_ret
 rw [HR.out];exact ⟨rfl,rfl⟩
theorem Qzl (kids:Int) (w:World):Calls Tryz.prog 145 #[.int .i64 15,.int .i64 kids] w fun e w'=>e = .returned (.int .i64 (Qat 15 kids))∧w=w':=by
 have HR:=hQ (show Qat 15 kids=Qbb kids 0 1 from rfl)
 go_enter Tryz.func145,Tryz.ntmps145
 go_wp2_with (go_at_call 200;refine (Qc0 _ _ _ _).mono ?_;rintro e w' ⟨rfl,rfl⟩)
 go_ret
 rw [HR.out];exact ⟨rfl,rfl⟩
theorem Qzm (kids:Int) (w:World):Calls Tryz.prog 145 #[.int .i64 17,.int .i64 kids] w fun e w'=>e = .returned (.int .i64 (Qat 17 kids))∧w=w':=by
 have HR:=hQ (show Qat 17 kids=Qbb kids 1 0 from rfl)
 go_enter Tryz.func145,Tryz.ntmps145
 go_wp2_with (go_at_call 200;refine (Qc0 _ _ _ _).mono ?_;rintro e w' ⟨rfl,rfl⟩)
 go_ret
 rw [HR.out];exact ⟨rfl,rfl⟩
theorem Qzn (kids:Int) (w:World):Calls Tryz.prog 145 #[.int .i64 19,.int .i64 kids] w fun e w'=>e = .returned (.int .i64 (Qat 19 kids))∧w=w':=by
 have HR:=hQ (show Qat 19 kids=Qbb kids 3 3 from rfl)
 go_enter Tryz.func145,Tryz.ntmps145
 go_wp2_with (go_at_call 200;refine (Qc0 _ _ _ _).mono ?_;rintro e w' ⟨rfl,rfl⟩)
 go_ret
 rw [HR.out];exact ⟨rfl,rfl⟩
theorem Qzo (kids:Int) (w:World):Calls Tryz.prog 145 #[.int .i64 20,.int .i64 kids] w fun e w'=>e = .returned (.int .i64 (Qat 20 kids))∧w=w':=by
 have HR:=hQ (show Qat 20 kids=Qbb kids 2 4 from rfl)
 go_enter Tryz.func145,Tryz.ntmps145
 go_wp2_with (go_at_call 200;refine (Qc0 _ _ _ _).mono ?_;rintro e w' ⟨rfl,rfl⟩)
 go_ret
 rw [HR.out];exact ⟨rfl,rfl⟩
theorem Qzp (kids:Int) (w:World):Calls Tryz.prog 145 #[.int .i64 21,.int .i64 kids] w fun e w'=>e = .returned (.int .i64 (Qat 21 kids))∧w=w':=by
 have HR:=hQ (show Qat 21 kids=Qbb kids 2 1 from rfl)
 go_enter Tryz.func145,Tryz.ntmps145
 go_wp2_with (go_at_call 200;refine (Qc0 _ _ _ _).mono ?_;rintro e w' ⟨rfl,rfl⟩)
 go_ret
 rw [HR.out];exact ⟨rfl,rfl⟩
theorem Qzq (kids:Int) (w:World):Calls Tryz.prog 145 #[.int .i64 22,.int .i64 kids] w fun e w'=>e = .returned (.int .i64 (Qat 22 kids))∧w=w':=by
 have HR:=hQ (show Qat 22 kids=Qbb kids 1 2 from rfl)
 go_enter Tryz.func145,Tryz.ntmps145
 go_wp2_with (go_at_call 200;refine (Qc0 _ _ _ _).mono ?_;rintro e w' ⟨rfl,rfl⟩)
 go_ret
 rw [HR.out];exact ⟨rfl,rfl⟩
theorem Zc8 (kids:Int) (w:World) (_hk:kids≤1000):Calls Tryz.prog 145 #[.int .i64 1,.int .i64 kids] w fun e w'=>e = .returned (.int .i64 (Qat 1 kids))∧w=w':=by
 by_cases h:0≤kids
 ·have HR:=hQ (show Qat 1 kids=3 from by show (if 0≤kids then 3 else -1)=_;rw [xO h])
  go_enter Tryz.func145,Tryz.ntmps145
  go_wp2
  go_ret
  rw [HR.out];exact ⟨Qb2 (by omega),rfl⟩
 ·have HR:=hQ (show Qat 1 kids = -1 from by show (if 0≤kids then 3 else -1)=_;rw [xN h]);have hd:=xR h
  go_enter Tryz.func145,Tryz.ntmps145
  go_wp2
  go_ret
  rw [HR.out];exact ⟨rfl,rfl⟩
theorem Zc9 (kids:Int) (w:World) (hk:kids≤1000):Calls Tryz.prog 145 #[.int .i64 2,.int .i64 kids] w fun e w'=>e = .returned (.int .i64 (Qat 2 kids))∧w=w':=by
 by_cases h:2≤kids
 ·have HR:=hQ (show Qat 2 kids=6+max 0 (kids-3) from by show (if 2≤kids then 6+max 0 (kids-3) else -1)=_;rw [xO h])
  go_enter Tryz.func145,Tryz.ntmps145
  go_wp2
  go_ret
  rw [HR.out];exact ⟨Qb2 (by omega),rfl⟩
 ·have HR:=hQ (show Qat 2 kids = -1 from by show (if 2≤kids then 6+max 0 (kids-3) else -1)=_;rw [xN h]);have hd:=xR h
  go_enter Tryz.func145,Tryz.ntmps145
  go_wp2
  go_ret
  rw [HR.out];exact ⟨rfl,rfl⟩
theorem Qzr (kids:Int) (w:World) (hk:kids≤1000):Calls Tryz.prog 145 #[.int .i64 16,.int .i64 kids] w fun e w'=>e = .returned (.int .i64 (Qat 16 kids))∧w=w':=by
 by_cases h:0≤kids
 ·have HR:=hQ (show Qat 16 kids=3+max 0 (kids-1) from by show (if 0≤kids then 3+max 0 (kids-1) else -1)=_;rw [xO h])
  go_enter Tryz.func145,Tryz.ntmps145
  go_wp2
  go_ret
  rw [HR.out];exact ⟨Qb2 (by omega),rfl⟩
 ·have HR:=hQ (show Qat 16 kids = -1 from by show (if 0≤kids then 3+max 0 (kids-1) else -1)=_;rw [xN h]);have hd:=xR h
  go_enter Tryz.func145,Tryz.ntmps145
  go_wp2
  go_ret
  rw [HR.out];exact ⟨rfl,rfl⟩
theorem Qzs (kids:Int) (w:World) (hk:kids≤1000):Calls Tryz.prog 145 #[.int .i64 18,.int .i64 kids] w fun e w'=>e = .returned (.int .i64 (Qat 18 kids))∧w=w':=by
 by_cases h:1≤kids
 ·have HR:=hQ (show Qat 18 kids=1+kids from by show (if 1≤kids then 1+kids else -1)=_;rw [xO h])
  go_enter Tryz.func145,Tryz.ntmps145
  go_wp2
  go_ret
  rw [HR.out];exact ⟨Qb2 (by omega),rfl⟩
 ·have HR:=hQ (show Qat 18 kids = -1 from by show (if 1≤kids then 1+kids else -1)=_;rw [xN h]);have hd:=xR h
  go_enter Tryz.func145,Tryz.ntmps145
  go_wp2
  go_ret
  rw [HR.out];exact ⟨rfl,rfl⟩
theorem Qsy (kind kids:Int) (w:World) (h:kind≤0∨23≤kind):Calls Tryz.prog 145 #[.int .i64 kind,.int .i64 kids] w fun e w'=>e = .returned (.int .i64 (Qat kind kids))∧w=w':=by
 have HR:=hQ (show Qat kind kids = -1 from by unfold Qat;simp only [show kind≠1 from by omega,show kind≠2 from by omega,show kind≠3 from by omega,show kind≠4 from by omega,show kind≠5 from by omega,show kind≠6 from by omega,show kind≠7 from by omega,show kind≠8 from by omega,show kind≠9 from by omega,show kind≠10 from by omega,show kind≠11 from by omega,show kind≠12 from by omega,show kind≠13 from by omega,show kind≠14 from by omega,show kind≠15 from by omega,show kind≠16 from by omega,show kind≠17 from by omega,show kind≠18 from by omega,show kind≠19 from by omega,show kind≠20 from by omega,show kind≠21 from by omega,show kind≠22 from by omega,if_false]);have e1:=Qcn (show kind≠1 from by omega);have e2:=Qcn (show kind≠2 from by omega);have e3:=Qcn (show kind≠3 from by omega);have e4:=Qcn (show kind≠4 from by omega);have e5:=Qcn (show kind≠5 from by omega);have e6:=Qcn (show kind≠6 from by omega);have e7:=Qcn (show kind≠7 from by omega);have e8:=Qcn (show kind≠8 from by omega);have e9:=Qcn (show kind≠9 from by omega);have e10:=Qcn (show kind≠10 from by omega);have e11:=Qcn (show kind≠11 from by omega);have e12:=Qcn (show kind≠12 from by omega);have e13:=Qcn (show kind≠13 from by omega);have e14:=Qcn (show kind≠14 from by omega);have e15:=Qcn (show kind≠15 from by omega);have e16:=Qcn (show kind≠16 from by omega);have e17:=Qcn (show kind≠17 from by omega);have e18:=Qcn (show kind≠18 from by omega);have e19:=Qcn (show kind≠19 from by omega);have e20:=Qcn (show kind≠20 from by omega);have e21:=Qcn (show kind≠21 from by omega);have e22:=Qcn (show kind≠22 from by omega);clear h
 go_enter Tryz.func145,Tryz.ntmps145
 go_wp2
 go_ret
 rw [HR.out];exact ⟨rfl,rfl⟩
theorem Qhe (kind kids:Int) (w:World) (hk:kids≤1000):Calls Tryz.prog 145 #[.int .i64 kind,.int .i64 kids] w fun e w'=>e = .returned (.int .i64 (Qat kind kids))∧w=w':=by
 by_cases h:kind≤0∨23≤kind
 ·exact Qsy kind kids w h
 ·rcases (show kind=1∨kind=2∨kind=3∨kind=4∨kind=5∨kind=6∨kind=7∨kind=8∨kind=9∨kind=10∨kind=11∨kind=12∨kind=13∨kind=14∨kind=15∨kind=16∨kind=17∨kind=18∨kind=19∨kind=20∨kind=21∨kind=22 from by omega) with rfl | rfl | rfl | rfl | rfl | rfl | rfl | rfl | rfl | rfl | rfl | rfl | rfl | rfl | rfl | rfl | rfl | rfl | rfl | rfl | rfl | rfl
  ·exact Zc8 kids w hk
  ·exact Zc9 kids w hk
  ·exact Zc1 kids w
  ·exact Zc2 kids w
  ·exact Zc3 kids w
  ·exact Zc4 kids w
  ·exact Zc5 kids w
  ·exact Zc6 kids w
  ·exact Zc7 kids w
  ·exact Qzg kids w
  ·exact Qzh kids w
  ·exact Qzi kids w
  ·exact Qzj kids w
  ·exact Qzk kids w
  ·exact Qzl kids w
  ·exact Qzr kids w hk
  ·exact Qzm kids w
  ·exact Qzs kids w hk
  ·exact Qzn kids w
  ·exact Qzo kids w
  ·exact Qzp kids w
  ·exact Qzq kids w
theorem Qa7 {kind a b o tk:Int} {cm:Bool} (kids:Int) (hl:Qae kind≠[]) (h1:∀ k,(Qd2 (Qae kind) 0 0 k).1=a) (h2:∀ k,(Qd2 (Qae kind) 0 0 k).2.1=b) (ho:(Qpj (Qae kind):Int)=o) (ht:(Qb9 (Qae kind):Int)=tk) (hc:∀ n,Qib (Qae kind) n=if cm=true∧1<n then n-1 else 0) :
  Qk9 kind kids=if 0≤kids∧a≤kids-o∧kids-o≤b then tk+(if cm=true∧1<kids-o then kids-o-1 else 0) else -1:=by
 by_cases h0:kids<0
 ·have hf:Qb1 (Qae kind) kids=(0,false):=by
   unfold Qb1;rw [xO (Or.inr h0)]
  unfold Qk9;rw [hf,xN (by decide),xN (fun h=>by omega)]
 ·have hf:Qb1 (Qae kind) kids=(kids-o,decide (a≤kids-o) && decide (kids-o≤b)):=by
   unfold Qb1;rw [xN (fun h=>by rcases h with h | h;exact hl h;exact h0 h),Qkn,h1,h2,ho]
  unfold Qk9;rw [hf,ht]
  dsimp only
  rw [hc]
  by_cases h3:a≤kids-o∧kids-o≤b
  ·rw [xS h3.1,xS h3.2,xO (show (true && true)=true from rfl),xO (show 0≤kids∧a≤kids-o∧kids-o≤b from ⟨by omega,h3⟩)]
  ·rw [xN (fun h=>by simp only [Bool.and_eq_true,decide_eq_true_eq] at h;exact h3 h),xN (fun h=>h3 h.2)]
theorem Qt8 (kind kids:Int) (hk:kids≤1000):Qk9 kind kids=Qat kind kids:=by
 by_cases h:kind≤0∨23≤kind
 ·unfold Qk9;rw [Qds h];unfold Qat;simp only [show kind≠1 from by omega,show kind≠2 from by omega,show kind≠3 from by omega,show kind≠4 from by omega,show kind≠5 from by omega,show kind≠6 from by omega,show kind≠7 from by omega,show kind≠8 from by omega,show kind≠9 from by omega,show kind≠10 from by omega,show kind≠11 from by omega,show kind≠12 from by omega,show kind≠13 from by omega,show kind≠14 from by omega,show kind≠15 from by omega,show kind≠16 from by omega,show kind≠17 from by omega,show kind≠18 from by omega,show kind≠19 from by omega,show kind≠20 from by omega,show kind≠21 from by omega,show kind≠22 from by omega,if_false];rfl
 ·rcases (show kind=1∨kind=2∨kind=3∨kind=4∨kind=5∨kind=6∨kind=7∨kind=8∨kind=9∨kind=10∨kind=11∨kind=12∨kind=13∨kind=14∨kind=15∨kind=16∨kind=17∨kind=18∨kind=19∨kind=20∨kind=21∨kind=22 from by omega) with rfl | rfl | rfl | rfl | rfl | rfl | rfl | rfl | rfl | rfl | rfl | rfl | rfl | rfl | rfl | rfl | rfl | rfl | rfl | rfl | rfl | rfl
  ·rw [Qa7 (a:=0) (b:=9223372036854775807) (o:=0) (tk:=3) (cm:=false) kids (by decide) (fun _=>rfl) (fun _=>rfl) rfl rfl (fun n=>rfl)]
   show _=(if 0≤kids then 3 else -1)
   repeat' split
   all_goals first | rfl | omega | (exfalso;omega) | (simp at * <;> omega)
  ·rw [Qa7 (a:=0) (b:=9223372036854775807) (o:=2) (tk:=6) (cm:=true) kids (by decide) (fun _=>rfl) (fun _=>rfl) rfl rfl (fun n=>by simp [Qae,Qib,Qcj,Qe4,Qkl,Qgg])]
   show _=(if 2≤kids then 6+max 0 (kids-3) else -1)
   rw [Int.max_def]
   repeat' split
   all_goals first | rfl | omega | (exfalso;omega) | (simp at * <;> omega)
  ·rw [Qa7 (a:=0) (b:=0) (o:=1) (tk:=3) (cm:=false) kids (by decide) (fun _=>rfl) (fun _=>rfl) rfl rfl (fun n=>rfl)]
   show _=(Qbb kids 1 3)
   unfold Qbb
   repeat' split
   all_goals first | rfl | omega | (exfalso;omega) | (simp at * <;> omega)
  ·rw [Qa7 (a:=0) (b:=0) (o:=1) (tk:=2) (cm:=false) kids (by decide) (fun _=>rfl) (fun _=>rfl) rfl rfl (fun n=>rfl)]
   show _=(Qbb kids 1 2)
   unfold Qbb
   repeat' split
   all_goals first | rfl | omega | (exfalso;omega) | (simp at * <;> omega)
  ·rw [Qa7 (a:=0) (b:=0) (o:=0) (tk:=1) (cm:=false) kids (by decide) (fun _=>rfl) (fun _=>rfl) rfl rfl (fun n=>rfl)]
   show _=(Qbb kids 0 1)
   unfold Qbb
   repeat' split
   all_goals first | rfl | omega | (exfalso;omega) | (simp at * <;> omega)
  ·rw [Qa7 (a:=0) (b:=0) (o:=0) (tk:=1) (cm:=false) kids (by decide) (fun _=>rfl) (fun _=>rfl) rfl rfl (fun n=>rfl)]
   show _=(Qbb kids 0 1)
   unfold Qbb
   repeat' split
   all_goals first | rfl | omega | (exfalso;omega) | (simp at * <;> omega)
  ·rw [Qa7 (a:=0) (b:=0) (o:=0) (tk:=1) (cm:=false) kids (by decide) (fun _=>rfl) (fun _=>rfl) rfl rfl (fun n=>rfl)]
   show _=(Qbb kids 0 1)
   unfold Qbb
   repeat' split
   all_goals first | rfl | omega | (exfalso;omega) | (simp at * <;> omega)
  ·rw [Qa7 (a:=0) (b:=0) (o:=1) (tk:=2) (cm:=false) kids (by decide) (fun _=>rfl) (fun _=>rfl) rfl rfl (fun n=>rfl)]
   show _=(Qbb kids 1 2)
   unfold Qbb
   repeat' split
   all_goals first | rfl | omega | (exfalso;omega) | (simp at * <;> omega)
  ·rw [Qa7 (a:=0) (b:=0) (o:=0) (tk:=1) (cm:=false) kids (by decide) (fun _=>rfl) (fun _=>rfl) rfl rfl (fun n=>rfl)]
   show _=(Qbb kids 0 1)
   unfold Qbb
   repeat' split
   all_goals first | rfl | omega | (exfalso;omega) | (simp at * <;> omega)
  ·rw [Qa7 (a:=0) (b:=0) (o:=0) (tk:=1) (cm:=false) kids (by decide) (fun _=>rfl) (fun _=>rfl) rfl rfl (fun n=>rfl)]
   show _=(Qbb kids 0 1)
   unfold Qbb
   repeat' split
   all_goals first | rfl | omega | (exfalso;omega) | (simp at * <;> omega)
  ·rw [Qa7 (a:=0) (b:=0) (o:=0) (tk:=1) (cm:=false) kids (by decide) (fun _=>rfl) (fun _=>rfl) rfl rfl (fun n=>rfl)]
   show _=(Qbb kids 0 1)
   unfold Qbb
   repeat' split
   all_goals first | rfl | omega | (exfalso;omega) | (simp at * <;> omega)
  ·rw [Qa7 (a:=0) (b:=0) (o:=0) (tk:=1) (cm:=false) kids (by decide) (fun _=>rfl) (fun _=>rfl) rfl rfl (fun n=>rfl)]
   show _=(Qbb kids 0 1)
   unfold Qbb
   repeat' split
   all_goals first | rfl | omega | (exfalso;omega) | (simp at * <;> omega)
  ·rw [Qa7 (a:=0) (b:=0) (o:=0) (tk:=1) (cm:=false) kids (by decide) (fun _=>rfl) (fun _=>rfl) rfl rfl (fun n=>rfl)]
   show _=(Qbb kids 0 1)
   unfold Qbb
   repeat' split
   all_goals first | rfl | omega | (exfalso;omega) | (simp at * <;> omega)
  ·rw [Qa7 (a:=0) (b:=0) (o:=0) (tk:=1) (cm:=false) kids (by decide) (fun _=>rfl) (fun _=>rfl) rfl rfl (fun n=>rfl)]
   show _=(Qbb kids 0 1)
   unfold Qbb
   repeat' split
   all_goals first | rfl | omega | (exfalso;omega) | (simp at * <;> omega)
  ·rw [Qa7 (a:=0) (b:=0) (o:=0) (tk:=1) (cm:=false) kids (by decide) (fun _=>rfl) (fun _=>rfl) rfl rfl (fun n=>rfl)]
   show _=(Qbb kids 0 1)
   unfold Qbb
   repeat' split
   all_goals first | rfl | omega | (exfalso;omega) | (simp at * <;> omega)
  ·rw [Qa7 (a:=0) (b:=9223372036854775807) (o:=0) (tk:=3) (cm:=true) kids (by decide) (fun _=>rfl) (fun _=>rfl) rfl rfl (fun n=>by simp [Qae,Qib,Qcj,Qe4,Qgg])]
   show _=(if 0≤kids then 3+max 0 (kids-1) else -1)
   rw [Int.max_def]
   repeat' split
   all_goals first | rfl | omega | (exfalso;omega) | (simp at * <;> omega)
  ·rw [Qa7 (a:=0) (b:=0) (o:=1) (tk:=0) (cm:=false) kids (by decide) (fun _=>rfl) (fun _=>rfl) rfl rfl (fun n=>rfl)]
   show _=(Qbb kids 1 0)
   unfold Qbb
   repeat' split
   all_goals first | rfl | omega | (exfalso;omega) | (simp at * <;> omega)
  ·rw [Qa7 (a:=1) (b:=9223372036854775807) (o:=0) (tk:=2) (cm:=true) kids (by decide) (fun _=>rfl) (fun _=>rfl) rfl rfl (fun n=>by simp [Qae,Qib,Qcj,Qgg])]
   show _=(if 1≤kids then 1+kids else -1)
   repeat' split
   all_goals first | rfl | omega | (exfalso;omega) | (simp at * <;> omega)
  ·rw [Qa7 (a:=0) (b:=0) (o:=3) (tk:=3) (cm:=false) kids (by decide) (fun _=>rfl) (fun _=>rfl) rfl rfl (fun n=>rfl)]
   show _=(Qbb kids 3 3)
   unfold Qbb
   repeat' split
   all_goals first | rfl | omega | (exfalso;omega) | (simp at * <;> omega)
  ·rw [Qa7 (a:=0) (b:=0) (o:=2) (tk:=4) (cm:=false) kids (by decide) (fun _=>rfl) (fun _=>rfl) rfl rfl (fun n=>rfl)]
   show _=(Qbb kids 2 4)
   unfold Qbb
   repeat' split
   all_goals first | rfl | omega | (exfalso;omega) | (simp at * <;> omega)
  ·rw [Qa7 (a:=0) (b:=0) (o:=2) (tk:=1) (cm:=false) kids (by decide) (fun _=>rfl) (fun _=>rfl) rfl rfl (fun n=>rfl)]
   show _=(Qbb kids 2 1)
   unfold Qbb
   repeat' split
   all_goals first | rfl | omega | (exfalso;omega) | (simp at * <;> omega)
  ·rw [Qa7 (a:=0) (b:=0) (o:=1) (tk:=2) (cm:=false) kids (by decide) (fun _=>rfl) (fun _=>rfl) rfl rfl (fun n=>rfl)]
   show _=(Qbb kids 1 2)
   unfold Qbb
   repeat' split
   all_goals first | rfl | omega | (exfalso;omega) | (simp at * <;> omega)
end Go.Proofs.YtjidpkcjpgdafaaGreat
