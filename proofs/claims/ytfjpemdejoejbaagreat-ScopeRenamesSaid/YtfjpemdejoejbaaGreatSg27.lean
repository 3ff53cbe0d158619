/- Part 27 -/
import Derived.Test.YtfjpemdejoejbaaGreatSg17
set_option maxRecDepth 100000
set_option maxHeartbeats 4000000
namespace Go.Proofs.YtfjpemdejoejbaaGreat
open Go.RowKit
def Qbd (kids must n:Int):Int:=if kids=must then n else -1
def Qau (kind kids:Int):Int :=
 if kind=1 then (if 0≤kids then 3 else -1) else
 if kind=2 then (if 2≤kids then 6+max 0 (kids-3) else -1) else
 if kind=3 then (Qbd kids 1 3) else
 if kind=4 then (Qbd kids 1 2) else
 if kind=5 then (Qbd kids 0 1) else
 if kind=6 then (Qbd kids 0 1) else
 if kind=7 then (Qbd kids 0 1) else
 if kind=8 then (Qbd kids 1 2) else
 if kind=9 then (Qbd kids 0 1) else
 if kind=10 then (Qbd kids 0 1) else
 if kind=11 then (Qbd kids 0 1) else
 if kind=12 then (Qbd kids 0 1) else
 if kind=13 then (Qbd kids 0 1) else
 if kind=14 then (Qbd kids 0 1) else
 if kind=15 then (Qbd kids 0 1) else
 if kind=16 then (if 0≤kids then 3+max 0 (kids-1) else -1) else
 if kind=17 then (Qbd kids 1 0) else
 if kind=18 then (if 1≤kids then 1+kids else -1) else
 if kind=19 then (Qbd kids 3 3) else
 if kind=20 then (Qbd kids 2 4) else
 if kind=21 then (Qbd kids 2 1) else
 if kind=22 then (Qbd kids 1 2) else
 -1
theorem Qc3 (kids must n:Int) (w:World):Calls Tryz.prog 89 #[.int .i64 kids,.int .i64 must,.int .i64 n] w fun e w'=>e = .returned (.int .i64 (Qbd kids must n))∧w=w':=by
 by_cases h:kids=must
 ·have HR:=hQ (show Qbd kids must n=n from by unfold Qbd;rw [xO h]);subst h
  go_enter Tryz.func89,Tryz.ntmps89
  go_wp2
  go_ret
  rw [HR.out];exact ⟨rfl,rfl⟩
 ·have HR:=hQ (show Qbd kids must n = -1 from by unfold Qbd;rw [xN h]);have h':=Qcr h
  go_enter Tryz.func89,Tryz.ntmps89
  go_wp2
  go_ret
  rw [HR.out];exact ⟨rfl,rfl⟩
theorem Zdt (kids:Int) (w:World):Calls Tryz.prog 57 #[.int .i64 3,.int .i64 kids] w fun e w'=>e = .returned (.int .i64 (Qau 3 kids))∧w=w':=by
 have HR:=hQ (show Qau 3 kids=Qbd kids 1 3 from rfl)
 go_enter Tryz.func57,Tryz.ntmps57
 go_wp2_with (go_at_call 89;refine (Qc3 _ _ _ _).mono ?_;rintro e w' ⟨rfl,rfl⟩)
 go_ret
 rw [HR.out];exact ⟨rfl,rfl⟩
theorem Zdu (kids:Int) (w:World):Calls Tryz.prog 57 #[.int .i64 4,.int .i64 kids] w fun e w'=>e = .returned (.int .i64 (Qau 4 kids))∧w=w':=by
 have HR:=hQ (show Qau 4 kids=Qbd kids 1 2 from rfl)
 go_enter Tryz.func57,Tryz.ntmps57
 go_wp2_with (go_at_call 89;refine (Qc3 _ _ _ _).mono ?_;rintro e w' ⟨rfl,rfl⟩)
 go_ret
 rw [HR.out];exact ⟨rfl,rfl⟩
theorem Zdv (kids:Int) (w:World):Calls Tryz.prog 57 #[.int .i64 5,.int .i64 kids] w fun e w'=>e = .returned (.int .i64 (Qau 5 kids))∧w=w':=by
 have HR:=hQ (show Qau 5 kids=Qbd kids 0 1 from rfl)
 go_enter Tryz.func57,Tryz.ntmps57
 go_wp2_with (go_at_call 89;refine (Qc3 _ _ _ _).mono ?_;rintro e w' ⟨rfl,rfl⟩)
 go_ret
 rw [HR.out];exact ⟨rfl,rfl⟩
theorem Zdw (kids:Int) (w:World):Calls Tryz.prog 57 #[.int .i64 6,.int .i64 kids] w fun e w'=>e = .returned (.int .i64 (Qau 6 kids))∧w=w':=by
 have HR:=hQ (show Qau 6 kids=Qbd kids 0 1 from rfl)
 go_enter Tryz.func57,Tryz.ntmps57
 go_wp2_with (go_at_call 89;refine (Qc3 _ _ _ _).mono ?_;rintro e w' ⟨rfl,rfl⟩)
 go_ret
 rw [HR.out];exact ⟨rfl,rfl⟩
theorem Zdx (kids:Int) (w:World):Calls Tryz.prog 57 #[.int .i64 7,.int .i64 kids] w fun e w'=>e = .returned (.int .i64 (Qau 7 kids))∧w=w':=by
 have HR:=hQ (show Qau 7 kids=Qbd kids 0 1 from rfl)
 go_enter Tryz.func57,Tryz.ntmps57
 go_wp2_with (go_at_call 89;refine (Qc3 _ _ _ _).mono ?_;rintro e w' ⟨rfl,rfl⟩)
 go_ret
 rw [HR.out];exact ⟨rfl,rfl⟩
theorem Zdy (kids:Int) (w:World):Calls Tryz.prog 57 #[.int .i64 8,.int .i64 kids] w fun e w'=>e = .returned (.int .i64 (Qau 8 kids))∧w=w':=by
 have HR:=hQ (show Qau 8 kids=Qbd kids 1 2 from rfl)
 go_enter Tryz.func57,Tryz.ntmps57
 go_wp2_with (go_at_call 89;refine (Qc3 _ _ _ _).mono ?_;rintro e w' ⟨rfl,rfl⟩)
 go_ret
 rw [HR.out];exact ⟨rfl,rfl⟩
theorem Zdz (kids:Int) (w:World):Calls Tryz.prog 57 #[.int .i64 9,.int .i64 kids] w fun e w'=>e = .returned (.int .i64 (Qau 9 kids))∧w=w':=by
 have HR:=hQ (show Qau 9 kids=Qbd kids 0 1 from rfl)
 go_enter Tryz.func57,Tryz.ntmps57
 go_wp2_with (go_at_call 89;refine (Qc3 _ _ _ _).mono ?_;rintro e w' ⟨rfl,rfl⟩)
 go_ret
 rw [HR.out];exact ⟨rfl,rfl⟩
theorem Qz2 (kids:Int) (w:World):Calls Tryz.prog 57 #[.int .i64 10,.int .i64 kids] w fun e w'=>e = .returned (.int .i64 (Qau 10 kids))∧w=w':=by
 have HR:=hQ (show Qau 10 kids=Qbd kids 0 1 from rfl)
 go_enter Tryz.func57,Tryz.ntmps57
 go_wp2_with (go_at_call 89;refine (Qc3 _ _ _ _).mono ?_;rintro e w' ⟨rfl,rfl⟩)
 go_ret
 rw [HR.out];exact ⟨rfl,rfl⟩
theorem Qz3 (kids:Int) (w:World):Calls Tryz.prog 57 #[.int .i64 11,.int .i64 kids] w fun e w'=>e = .returned (.int .i64 (Qau 11 kids))∧w=w':=by
 have HR:=hQ (show Qau 11 kids=Qbd kids 0 1 from rfl)
 go_enter Tryz.func57,Tryz.ntmps57
 go_wp2_with (go_at_call 89;refine (Qc3 _ _ _ _).mono ?_;rintro e w' ⟨rfl,rfl⟩)
 go_ret
 rw [HR.out];exact ⟨rfl,rfl⟩
theorem Qz4 (kids:Int) (w:World):Calls Tryz.prog 57 #[.int .i64 12,.int .i64 kids] w fun e w'=>e = .returned (.int .i64 (Qau 12 kids))∧w=w':=by
 have HR:=hQ (show Qau 12 kids=Qbd kids 0 1 from rfl)
 go_enter Tryz.func57,Tryz.ntmps57
 go_wp2_with (go_at_call 89;refine (Qc3 _ _ _ _).mono ?_;rintro e w' ⟨rfl,rfl⟩)
 go_ret
 rw [HR.out];exact ⟨rfl,rfl⟩
theorem Qz5 (kids:Int) (w:World):Calls Tryz.prog 57 #[.int .i64 13,.int .i64 kids] w fun e w'=>e = .returned (.int .i64 (Qau 13 kids))∧w=w':=by
 have HR:=hQ (show Qau 13 kids=Qbd kids 0 1 from rfl)
 go_enter Tryz.func57,Tryz.ntmps57
 go_wp2_with (go_at_call 89;refine (Qc3 _ _ _ _).mono ?_;rintro e w' ⟨rfl,rfl⟩)
 go_ret
 rw [HR.out];exact ⟨rfl,rfl⟩
theorem Qz6 (kids:Int) (w:World):Calls Tryz.prog 57 #[.int .i64 14,.int .i64 kids] w fun e w'=>e = .returned (.int .i64 (Qau 14 kids))∧w=w':=by
 have HR:=hQ (show Qau 14 kids=Qbd kids 0 1 from rfl)
 go_enter Tryz.func57,Tryz.ntmps57
 go_wp2_with (go_at_call 89;refine (Qc3 _ _ _ _).mono ?_;rintro e w' ⟨rfl,rfl⟩)
 go_ret
 rw [HR.out];exact ⟨rfl,rfl⟩
theorem Qz7 (kids:Int) (w:World):Calls Tryz.prog 57 #[.int .i64 15,.int .i64 kids] w fun e w'=>e = .returned (.int .i64 (Qau 15 kids))∧w=w':=by
 have HR:=hQ (show Qau 15 kids=Qbd kids 0 1 from rfl)
 go_enter Tryz.func57,Tryz.ntmps57
 go_wp2_with (go_at_call 89;refine (Qc3 _ _ _ _).mono ?_;rintro e w' ⟨rfl,rfl⟩)
 go_ret
 rw [HR.out];exact ⟨rfl,rfl⟩
theorem Qz8 (kids:Int) (w:World):Calls Tryz.prog 57 #[.int .i64 17,.int .i64 kids] w fun e w'=>e = .returned (.int .i64 (Qau 17 kids))∧w=w':=by
 have HR:=hQ (show Qau 17 kids=Qbd kids 1 0 from rfl)
 go_enter Tryz.func57,Tryz.ntmps57
 go_wp2_with (go_at_call 89;refine (Qc3 _ _ _ _).mono ?_;rintro e w' ⟨rfl,rfl⟩)
 go_ret
 rw [HR.out];exact ⟨rfl,rfl⟩
theorem Qz9 (kids:Int) (w:World):Calls Tryz.prog 57 #[.int .i64 19,.int .i64 kids] w fun e w'=>e = .returned (.int .i64 (Qau 19 kids))∧w=w':=by
 have HR:=hQ (show Qau 19 kids=Qbd kids 3 3 from rfl)
 go_enter Tryz.func57,Tryz.ntmps57
 go_wp2_with (go_at_call 89;refine (Qc3 _ _ _ _).mono ?_;rintro e w' ⟨rfl,rfl⟩)
 go_ret
 rw [HR.out];exact ⟨rfl,rfl⟩
theorem Zaa (kids:Int) (w:World):Calls Tryz.prog 57 #[.int .i64 20,.int .i64 kids] w fun e w'=>e = .returned (.int .i64 (Qau 20 kids))∧w=w':=by
 have HR:=hQ (show Qau 20 kids=Qbd kids 2 4 from rfl)
 go_enter Tryz.func57,Tryz.ntmps57
 go_wp2_with (go_at_call 89;refine (Qc3 _ _ _ _).mono ?_;rintro e w' ⟨rfl,rfl⟩)
 go_ret
 rw [HR.out];exact ⟨rfl,rfl⟩
theorem Zab (kids:Int) (w:World):Calls Tryz.prog 57 #[.int .i64 21,.int .i64 kids] w fun e w'=>e = .returned (.int .i64 (Qau 21 kids))∧w=w':=by
 have HR:=hQ (show Qau 21 kids=Qbd kids 2 1 from rfl)
 go_enter Tryz.func57,Tryz.ntmps57
 go_wp2_with (go_at_call 89;refine (Qc3 _ _ _ _).mono ?_;rintro e w' ⟨rfl,rfl⟩)
 go_ret
 rw [HR.out];exact ⟨rfl,rfl⟩
theorem Zac (kids:Int) (w:World):Calls Tryz.prog 57 #[.int .i64 22,.int .i64 kids] w fun e w'=>e = .returned (.int .i64 (Qau 22 kids))∧w=w':=by
 have HR:=hQ (show Qau 22 kids=Qbd kids 1 2 from rfl)
 go_enter Tryz.func57,Tryz.ntmps57
 go_wp2_with (go_at_call 89;refine (Qc3 _ _ _ _).mono ?_;rintro e w' ⟨rfl,rfl⟩)
 go_ret
 rw [HR.out];exact ⟨rfl,rfl⟩
theorem Zd0 (kids:Int) (w:World) (_hk:kids≤1000):Calls Tryz.prog 57 #[.int .i64 1,.int .i64 kids] w fun e w'=>e = .returned (.int .i64 (Qau 1 kids))∧w=w':=by
 by_cases h:0≤kids
 ·have HR:=hQ (show Qau 1 kids=3 from by show (if 0≤kids then 3 else -1)=_;rw [xO h])
  go_enter Tryz.func57,Tryz.ntmps57
  go_wp2
  go_ret
  rw [HR.out];exact ⟨Qb5 (by omega),rfl⟩
 ·have HR:=hQ (show Qau 1 kids = -1 from by show (if 0≤kids then 3 else -1)=_;rw [xN h]);have hd:=xR h
  go_enter Tryz.func57,Tryz.ntmps57
  go_wp2
  go_ret
  rw [HR.out];exact ⟨rfl,rfl⟩
theorem Zd1 (kids:Int) (w:World) (hk:kids≤1000):Calls Tryz.prog 57 #[.int .i64 2,.int .i64 kids] w fun e w'=>e = .returned (.int .i64 (Qau 2 kids))∧w=w':=by
 by_cases h:2≤kids
 ·have HR:=hQ (show Qau 2 kids=6+max 0 (kids-3) from by show (if 2≤kids then 6+max 0 (kids-3) else -1)=_;rw [xO h])
  go_enter Tryz.func57,Tryz.ntmps57
  go_wp2
  go_ret
  rw [HR.out];exact ⟨Qb5 (by omega),rfl⟩
 ·have HR:=hQ (show Qau 2 kids = -1 from by show (if 2≤kids then 6+max 0 (kids-3) else -1)=_;rw [xN h]);have hd:=xR h
  go_enter Tryz.func57,Tryz.ntmps57
  go_wp2
  go_ret
  rw [HR.out];exact ⟨rfl,rfl⟩
theorem Zad (kids:Int) (w:World) (hk:kids≤1000):Calls Tryz.prog 57 #[.int .i64 16,.int .i64 kids] w fun e w'=>e = .returned (.int .i64 (Qau 16 kids))∧w=w':=by
 by_cases h:0≤kids
 ·have HR:=hQ (show Qau 16 kids=3+max 0 (kids-1) from by show (if 0≤kids then 3+max 0 (kids-1) else -1)=_;rw [xO h])
  go_enter Tryz.func57,Tryz.ntmps57
  go_wp2
  go_ret
  rw [HR.out];exact ⟨Qb5 (by omega),rfl⟩
 ·have HR:=hQ (show Qau 16 kids = -1 from by show (if 0≤kids then 3+max 0 (kids-1) else -1)=_;rw [xN h]);have hd:=xR h
  go_enter Tryz.func57,Tryz.ntmps57
  go_wp2
  go_ret
  rw [HR.out];exact ⟨rfl,rfl⟩
theorem Zae (kids:Int) (w:World) (hk:kids≤1000):Calls Tryz.prog 57 #[.int .i64 18,.int .i64 kids] w fun e w'=>e = .returned (.int .i64 (Qau 18 kids))∧w=w':=by
 by_cases h:1≤kids
 ·have HR:=hQ (show Qau 18 kids=1+kids from by show (if 1≤kids then 1+kids else -1)=_;rw [xO h])
  go_enter Tryz.func57,Tryz.ntmps57
  go_wp2
  go_ret
  rw [HR.out];exact ⟨Qb5 (by omega),rfl⟩
 ·have HR:=hQ (show Qau 18 kids = -1 from by show (if 1≤kids then 1+kids else -1)=_;rw [xN h]);have hd:=xR h
  go_enter Tryz.func57,Tryz.ntmps57
  go_wp2
  go_ret
  rw [HR.out];exact ⟨rfl,rfl⟩
theorem Qs7 (kind kids:Int) (w:World) (h:kind≤0∨23≤kind):Calls Tryz.prog 57 #[.int .i64 kind,.int .i64 kids] w fun e w'=>e = .returned (.int .i64 (Qau kind kids))∧w=w':=by
 have HR:=hQ (show Qau kind kids = -1 from by unfold Qau;simp only [show kind≠1 from by omega,show kind≠2 from by omega,show kind≠3 from by omega,show kind≠4 from by omega,show kind≠5 from by omega,show kind≠6 from by omega,show kind≠7 from by omega,show kind≠8 from by omega,show kind≠9 from by omega,show kind≠10 from by omega,show kind≠11 from by omega,show kind≠12 from by omega,show kind≠13 from by omega,show kind≠14 from by omega,show kind≠15 from by omega,show kind≠16 from by omega,show kind≠17 from by omega,show kind≠18 from by omega,show kind≠19 from by omega,show kind≠20 from by omega,show kind≠21 from by omega,show kind≠22 from by omega,if_false]);have e1:=Qcr (show kind≠1 from by omega);have e2:=Qcr (show kind≠2 from by omega);have e3:=Qcr (show kind≠3 from by omega);have e4:=Qcr (show kind≠4 from by omega);have e5:=Qcr (show kind≠5 from by omega);have e6:=Qcr (show kind≠6 from by omega);have e7:=Qcr (show kind≠7 from by omega);have e8:=Qcr (show kind≠8 from by omega);have e9:=Qcr (show kind≠9 from by omega);have e10:=Qcr (show kind≠10 from by omega);have e11:=Qcr (show kind≠11 from by omega);have e12:=Qcr (show kind≠12 from by omega);have e13:=Qcr (show kind≠13 from by omega);have e14:=Qcr (show kind≠14 from by omega);have e15:=Qcr (show kind≠15 from by omega);have e16:=Qcr (show kind≠16 from by omega);have e17:=Qcr (show kind≠17 from by omega);have e18:=Qcr (show kind≠18 from by omega);have e19:=Qcr (show kind≠19 from by omega);have e20:=Qcr (show kind≠20 from by omega);have e21:=Qcr (show kind≠21 from by omega);have e22:=Qcr (show kind≠22 from by omega);clear h
 go_enter Tryz.func57,Tryz.ntmps57
 go_wp2
 go_ret
 rw [HR.out];exact ⟨rfl,rfl⟩
theorem Qhg (kind kids:Int) (w:World) (hk:kids≤1000):Calls Tryz.prog 57 #[.int .i64 kind,.int .i64 kids] w fun e w'=>e = .returned (.int .i64 (Qau kind kids))∧w=w':=by
 by_cases h:kind≤0∨23≤kind
 ·exact Qs7 kind kids w h
 ·rcases (show kind=1∨kind=2∨kind=3∨kind=4∨kind=5∨kind=6∨kind=7∨kind=8∨kind=9∨kind=10∨kind=11∨kind=12∨kind=13∨kind=14∨kind=15∨kind=16∨kind=17∨kind=18∨kind=19∨kind=20∨kind=21∨kind=22 from by omega) with rfl | rfl | rfl | rfl | rfl | rfl | rfl | rfl | rfl | rfl | rfl | rfl | rfl | rfl | rfl | rfl | rfl | rfl | rfl | rfl | rfl | rfl
  ·exact Zd0 kids w hk
  ·exact Zd1 kids w hk
  ·exact Zdt kids w
  ·exact Zdu kids w
  ·exact Zdv kids w
  ·exact Zdw kids w
  ·exact Zdx kids w
  ·exact Zdy kids w
  ·exact Zdz kids w
  ·exact Qz2 kids w
  ·exact Qz3 kids w
  ·exact Qz4 kids w
  ·exact Qz5 kids w
  ·exact Qz6 kids w
  ·exact Qz7 kids w
  ·exact Zad kids w hk
  ·exact Qz8 kids w
  ·exact Zae kids w hk
  ·exact Qz9 kids w
  ·exact Zaa kids w
  ·exact Zab kids w
  ·exact Zac kids w
theorem Qa8 {kind a b o tk:Int} {cm:Bool} (kids:Int) (hl:Qae kind≠[]) (h1:∀ k,(Qd3 (Qae kind) 0 0 k).1=a) (h2:∀ k,(Qd3 (Qae kind) 0 0 k).2.1=b) (ho:(Qo6 (Qae kind):Int)=o) (ht:(Qce (Qae kind):Int)=tk) (hc:∀ n,Qig (Qae kind) n=if cm=true∧1<n then n-1 else 0) :
  Qla kind kids=if 0≤kids∧a≤kids-o∧kids-o≤b then tk+(if cm=true∧1<kids-o then kids-o-1 else 0) else -1:=by
 by_cases h0:kids<0
 ·have hf:Qb4 (Qae kind) kids=(0,false):=by
   unfold Qb4;rw [xO (Or.inr h0)]
  unfold Qla;rw [hf,xN (by decide),xN (fun h=>by omega)]
 ·have hf:Qb4 (Qae kind) kids=(kids-o,decide (a≤kids-o) && decide (kids-o≤b)):=by
   unfold Qb4;rw [xN (fun h=>by rcases h with h | h;exact hl h;exact h0 h),Qks,h1,h2,ho]
  unfold Qla;rw [hf,ht]
  dsimp only
  rw [hc]
  by_cases h3:a≤kids-o∧kids-o≤b
  ·rw [xS h3.1,xS h3.2,xO (show (true && true)=true from rfl),xO (show 0≤kids∧a≤kids-o∧kids-o≤b from ⟨by omega,h3⟩)]
  ·rw [xN (fun h=>by simp only [Bool.and_eq_true,decide_eq_true_eq] at h;exact h3 h),xN (fun h=>h3 h.2)]
theorem Qun (kind kids:Int) (hk:kids≤1000):Qla kind kids=Qau kind kids:=by
 by_cases h:kind≤0∨23≤kind
 ·unfold Qla;rw [Qdv h];unfold Qau;simp only [show kind≠1 from by omega,show kind≠2 from by omega,show kind≠3 from by omega,show kind≠4 from by omega,show kind≠5 from by omega,show kind≠6 from by omega,show kind≠7 from by omega,show kind≠8 from by omega,show kind≠9 from by omega,show kind≠10 from by omega,show kind≠11 from by omega,show kind≠12 from by omega,show kind≠13 from by omega,show kind≠14 from by omega,show kind≠15 from by omega,show kind≠16 from by omega,show kind≠17 from by omega,show kind≠18 from by omega,show kind≠19 from by omega,show kind≠20 from by omega,show kind≠21 from by omega,show kind≠22 from by omega,if_false];rfl
 ·rcases (show kind=1∨kind=2∨kind=3∨kind=4∨kind=5∨kind=6∨kind=7∨kind=8∨kind=9∨kind=10∨kind=11∨kind=12∨kind=13∨kind=14∨kind=15∨kind=16∨kind=17∨kind=18∨kind=19∨kind=20∨kind=21∨kind=22 from by omega) with rfl | rfl | rfl | rfl | rfl | rfl | rfl | rfl | rfl | rfl | rfl | rfl | rfl | rfl | rfl | rfl | rfl | rfl | rfl | rfl | rfl | rfl
  ·rw [Qa8 (a:=0) (b:=9223372036854775807) (o:=0) (tk:=3) (cm:=false) kids (by decide) (fun _=>rfl) (fun _=>rfl) rfl rfl (fun n=>rfl)]
   show _=(if 0≤kids then 3 else -1)
   repeat' split
   all_goals first | rfl | omega | (exfalso;omega) | (simp at * <;> omega)
  ·rw [Qa8 (a:=0) (b:=9223372036854775807) (o:=2) (tk:=6) (cm:=true) kids (by decide) (fun _=>rfl) (fun _=>rfl) rfl rfl (fun n=>by simp [Qae,Qig,Qcn,Qe5,Qkq,Qge])]
   show _=(if 2≤kids then 6+max 0 (kids-3) else -1)
   rw [Int.max_def]
   repeat' split
   all_goals first | rfl | omega | (exfalso;omega) | (simp at * <;> omega)
  ·rw [Qa8 (a:=0) (b:=0) (o:=1) (tk:=3) (cm:=false) kids (by decide) (fun _=>rfl) (fun _=>rfl) rfl rfl (fun n=>rfl)]
   show _=(Qbd kids 1 3)
   unfold Qbd
   repeat' split
   all_goals first | rfl | omega | (exfalso;omega) | (simp at * <;> omega)
  ·rw [Qa8 (a:=0) (b:=0) (o:=1) (tk:=2) (cm:=false) kids (by decide) (fun _=>rfl) (fun _=>rfl) rfl rfl (fun n=>rfl)]
   show _=(Qbd kids 1 2)
   unfold Qbd
   repeat' split
   all_goals first | rfl | omega | (exfalso;omega) | (simp at * <;> omega)
  ·rw [Qa8 (a:=0) (b:=0) (o:=0) (tk:=1) (cm:=false) kids (by decide) (fun _=>rfl) (fun _=>rfl) rfl rfl (fun n=>rfl)]
   show _=(Qbd kids 0 1)
   unfold Qbd
   repeat' split
   all_goals first | rfl | omega | (exfalso;omega) | (simp at * <;> omega)
  ·rw [Qa8 (a:=0) (b:=0) (o:=0) (tk:=1) (cm:=false) kids (by decide) (fun _=>rfl) (fun _=>rfl) rfl rfl (fun n=>rfl)]
   show _=(Qbd kids 0 1)
   unfold Qbd
   repeat' split
   all_goals first | rfl | omega | (exfalso;omega) | (simp at * <;> omega)
  ·rw [Qa8 (a:=0) (b:=0) (o:=0) (tk:=1) (cm:=false) kids (by decide) (fun _=>rfl) (fun _=>rfl) rfl rfl (fun n=>rfl)]
   show _=(Qbd kids 0 1)
   unfold Qbd
   repeat' split
   all_goals first | rfl | omega | (exfalso;omega) | (simp at * <;> omega)
  ·rw [Qa8 (a:=0) (b:=0) (o:=1) (tk:=2) (cm:=false) kids (by decide) (fun _=>rfl) (fun _=>rfl) rfl rfl (fun n=>rfl)]
   show _=(Qbd kids 1 2)
   unfold Qbd
   repeat' split
   all_goals first | rfl | omega | (exfalso;omega) | (simp at * <;> omega)
  ·rw [Qa8 (a:=0) (b:=0) (o:=0) (tk:=1) (cm:=false) kids (by decide) (fun _=>rfl) (fun _=>rfl) rfl rfl (fun n=>rfl)]
   show _=(Qbd kids 0 1)
   unfold Qbd
   repeat' split
   all_goals first | rfl | omega | (exfalso;omega) | (simp at * <;> omega)
  ·rw [Qa8 (a:=0) (b:=0) (o:=0) (tk:=1) (cm:=false) kids (by decide) (fun _=>rfl) (fun _=>rfl) rfl rfl (fun n=>rfl)]
   show _=(Qbd kids 0 1)
   unfold Qbd
   repeat' split
   all_goals first | rfl | omega | (exfalso;omega) | (simp at * <;> omega)
  ·rw [Qa8 (a:=0) (b:=0) (o:=0) (tk:=1) (cm:=false) kids (by decide) (fun _=>rfl) (fun _=>rfl) rfl rfl (fun n=>rfl)]
   show _=(Qbd kids 0 1)
   unfold Qbd
   repeat' split
   all_goals first | rfl | omega | (exfalso;omega) | (simp at * <;> omega)
  ·rw [Qa8 (a:=0) (b:=0) (o:=0) (tk:=1) (cm:=false) kids (by decide) (fun _=>rfl) (fun _=>rfl) rfl rfl (fun n=>rfl)]
   show _=(Qbd kids 0 1)
   unfold Qbd
   repeat' split
   all_goals first | rfl | omega | (exfalso;omega) | (simp at * <;> omega)
  ·rw [Qa8 (a:=0) (b:=0) (o:=0) (tk:=1) (cm:=false) kids (by decide) (fun _=>rfl) (fun _=>rfl) rfl rfl (fun n=>rfl)]
   show _=(Qbd kids 0 1)
   unfold Qbd
   repeat' split
   all_goals first | rfl | omega | (exfalso;omega) | (simp at * <;> omega)
  ·rw [Qa8 (a:=0) (b:=0) (o:=0) (tk:=1) (cm:=false) kids (by decide) (fun _=>rfl) (fun _=>rfl) rfl rfl (fun n=>rfl)]
   show _=(Qbd kids 0 1)
   unfold Qbd
   repeat' split
   all_goals first | rfl | omega | (exfalso;omega) | (simp at * <;> omega)
  ·rw [Qa8 (a:=0) (b:=0) (o:=0) (tk:=1) (cm:=false) kids (by decide) (fun _=>rfl) (fun _=>rfl) rfl rfl (fun n=>rfl)]
   show _=(Qbd kids 0 1)
   unfold Qbd
   repeat' split
   all_goals first | rfl | omega | (exfalso;omega) | (simp at * <;> omega)
  ·rw [Qa8 (a:=0) (b:=9223372036854775807) (o:=0) (tk:=3) (cm:=true) kids (by decide) (fun _=>rfl) (fun _=>rfl) rfl rfl (fun n=>by simp [Qae,Qig,Qcn,Qe5,Qge])]
   show _=(if 0≤kids then 3+max 0 (kids-1) else -1)
   rw [Int.max_def]
   repeat' split
   all_goals first | rfl | omega | (exfalso;omega) | (simp at * <;> omega)
  ·rw [Qa8 (a:=0) (b:=0) (o:=1) (tk:=0) (cm:=false) kids (by decide) (fun _=>rfl) (fun _=>rfl) rfl rfl (fun n=>rfl)]
   show _=(Qbd kids 1 0)
   unfold Qbd
   repeat' split
   all_goals first | rfl | omega | (exfalso;omega) | (simp at * <;> omega)
  ·rw [Qa8 (a:=1) (b:=9223372036854775807) (o:=0) (tk:=2) (cm:=true) kids (by decide) (fun _=>rfl) (fun _=>rfl) rfl rfl (fun n=>by simp [Qae,Qig,Qcn,Qge])]
   show _=(if 1≤kids then 1+kids else -1)
   repeat' split
   all_goals first | rfl | omega | (exfalso;omega) | (simp at * <;> omega)
  ·rw [Qa8 (a:=0) (b:=0) (o:=3) (tk:=3) (cm:=false) kids (by decide) (fun _=>rfl) (fun _=>rfl) rfl rfl (fun n=>rfl)]
   show _=(Qbd kids 3 3)
   unfold Qbd
   repeat' split
   all_goals first | rfl | omega | (exfalso;omega) | (simp at * <;> omega)
  ·rw [Qa8 (a:=0) (b:=0) (o:=2) (tk:=4) (cm:=false) kids (by decide) (fun _=>rfl) (fun _=>rfl) rfl rfl (fun n=>rfl)]
   show _=(Qbd kids 2 4)
   unfold Qbd
   repeat' split
   all_goals first | rfl | omega | (exfalso;omega) | (simp at * <;> omega)
  ·rw [Qa8 (a:=0) (b:=0) (o:=2) (tk:=1) (cm:=false) kids (by decide) (fun _=>rfl) (fun _=>rfl) rfl rfl (fun n=>rfl)]
   show _=(Qbd kids 2 1)
   unfold Qbd
   repeat' split
   all_goals first | rfl | omega | (exfalso;omega) | (simp at * <;> omega)
  ·rw [Qa8 (a:=0) (b:=0) (o:=1) (tk:=2) (cm:=false) kids (by decide) (fun _=>rfl) (fun _=>rfl) rfl rfl (fun n=>rfl)]
   show _=(Qbd kids 1 2)
   unfold Qbd
   repeat' split
   all_goals first | rfl | omega | (exfalso;omega) | (simp at * <;> omega)
end Go.Proofs.YtfjpemdejoejbaaGreat
