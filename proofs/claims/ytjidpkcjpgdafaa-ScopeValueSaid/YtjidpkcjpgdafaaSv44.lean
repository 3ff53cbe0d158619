/- Part 44: The contract of the reference's SamePath, and that of samePaths at equal lists. -/
import Derived.Test.YtjidpkcjpgdafaaSv1
import Derived.Test.YtjidpkcjpgdafaaSv29
import Derived.Lib.AppendZerosOnto
import Derived.Lib.Walk
import Derived.Lib.SliceRun
import Derived.Deep.RegionHeld3
import Derived.Laws.EntriesVeiled
import Derived.Deep.QuietTactic
set_option maxRecDepth 100000
set_option maxHeartbeats 4000000
namespace Go.Proofs.Ytjidpkcjpgdafaa
open Go.RowKit Go.Shelf
def Qby:List Int → List Int → Bool
 | [],[]=>true
 | x :: r,y :: s=>(x == y) && Qby r s
 | _,_=>false
theorem intsEq_iff:(p q:List Int) → (Qby p q = true ↔ p = q)
 | [],[]=>by simp [Qby]
 | [],_ :: _=>by simp [Qby]
 | _ :: _,[]=>by simp [Qby]
 | x :: r,y :: s=>by rw [Qby,Bool.and_eq_true,intsEq_iff r s];simp
def SPAt (p q:List Int) (w:World) (i:Value) (wr:World):Prop:=∃ j:Nat,i = .int .i64 j ∧ j ≤ p.length ∧ Qby p q = Qby (p.drop j) (q.drop j) ∧ ∃ n:Nat,wr = w.drewN n
theorem samepath_q (A C:Option Addr) (a c:Nat) (p q:List Int) (w:World) (hA:IntsAt w A p) (hC:IntsAt w C q) (hp:p.length ≤ maxLen) (hq:q.length ≤ maxLen) :
  Calls Try.prog 11 #[.slice A p.length a,.slice C q.length c] w fun e w'=>e = .returned (.bool (Qby p q)) ∧ ∃ n:Nat,w' = w.drewN n:=by
 have HA:=hQ hA
 have HC:=hQ hC
 have hp6:p.length ≤ 9223372036854775807:=by unfold maxLen at hp;omega
 have hq6:q.length ≤ 9223372036854775807:=by unfold maxLen at hq;omega
 have mixedL:Try.prog.follows Departure.mixedOrders = true:=mixed
 clear hA hC hp hq
 by_cases hl:p.length = q.length
 ·have HL:=hQ hl
  rw [show Value.slice C q.length c = .slice C p.length c from by rw [hl]]
  clear hl hq6
  go_enter Try.func11,Try.ntmps11
  go_wp2
  go_loopw [5] (fun i wr=>SPAt p q w i wr) (fun i _=>p.length - (intOf i).toNat)
  case atStart=>exact ⟨0,rfl,Nat.zero_le _,rfl,0,rfl⟩
  case round =>
   obtain ⟨j,rfl,hj,hf,n,rfl⟩:=hrel
   have HF:=hQ hf
   clear hf
   by_cases hlt:j < p.length
   ·obtain ⟨x,hx⟩:∃ x,p[j]? = some x:=⟨_,xF hlt⟩
    obtain ⟨y,hy⟩:∃ y,q[j]? = some y:=⟨_,xF (by rw [← HL.out];exact hlt)⟩
    obtain ⟨ab,ao,rfl,abl,hac⟩:=HA.out.at hlt
    obtain ⟨cb,co,rfl,cbl,hcc⟩:=HC.out.at (show j < q.length by rw [← HL.out];exact hlt)
    have a0:=hac j x hx
    have c0:=hcc j y hy
    have HD:=hQ (show Qby (p.drop j) (q.drop j) = ((x == y) && Qby (p.drop (j + 1)) (q.drop (j + 1))) from by rw [drop_cons hx,drop_cons hy,Qby])
    have hja:(j:Int) < (p.length:Int):=by omega
    have hj0:(0:Int) ≤ (j:Int):=by omega
    clear hac hcc hx hy
    by_cases hxy:x = y
    ·subst hxy
     have HR:=hQ (show Qby p q = Qby (p.drop (j + 1)) (q.drop (j + 1)) from by rw [HF.out,HD.out];simp)
     go_wp2_with fail
     go_region_o
     all_goals
      go_wp2
      go_roundw
      case measure=>simp [intOf];omega
      case rel=>exact ⟨j + 1,by go_num,by omega,HR.out,n + 1,rfl⟩
    ·have e1:(x == y) = false:=beq_eq_false_iff_ne.2 hxy
     have e2:(x != y) = true:=by rw [bne_iff_ne];exact hxy
     have HR:=hQ (show Qby p q = false from by rw [HF.out,HD.out,e1];rfl)
     go_wp2_with fail
     go_region_o
     all_goals
      go_wp2
      go_ret
      exact ⟨Qca HR.out.symm,n + 1,rfl⟩
   ·have HR:=hQ (show Qby p q = true from by rw [HF.out,List.drop_eq_nil_of_le (by omega),List.drop_eq_nil_of_le (by have:=HL.out;omega)];rfl)
    go_wp2
    go_ret
    exact ⟨Qca HR.out.symm,n,rfl⟩
 ·have HR:=hQ (show Qby p q = false from by
   cases h:Qby p q with
   | false=>rfl
   | true=>exact absurd (congrArg List.length ((intsEq_iff p q).1 h)) hl)
  have e1:((p.length:Int) == (q.length:Int)) = false:=beq_eq_false_iff_ne.2 (by omega)
  have e2:((p.length:Int) != (q.length:Int)) = true:=by rw [bne_iff_ne];omega
  have e3:(p.length == q.length) = false:=beq_eq_false_iff_ne.2 hl
  have e4:(p.length != q.length) = true:=by rw [bne_iff_ne];exact hl
  go_enter Try.func11,Try.ntmps11
  go_wp2
  go_ret
  exact ⟨Qca HR.out.symm,0,rfl⟩
theorem tbelow_drewN (w:World) (n:Nat):Below w.heap.size w (w.drewN n):=⟨rfl,rfl,rfl,xA _,fun _ _=>rfl⟩
theorem samepath_any (A C:Option Addr) (a c:Nat) (p q:List Int) (w:World) (hA:IntsAt w A p) (hC:IntsAt w C q) (hp:p.length ≤ maxLen) (hq:q.length ≤ maxLen) :
  Calls Try.prog 11 #[.slice A p.length a,.slice C q.length c] w fun e w'=>e = .returned (.bool (Qby p q)) ∧ Below w.heap.size w w' :=
 (samepath_q A C a c p q w hA hC hp hq).mono fun _ _ ⟨he,n,hn⟩=>⟨he,by rw [hn];exact tbelow_drewN w n⟩
end Go.Proofs.Ytjidpkcjpgdafaa
