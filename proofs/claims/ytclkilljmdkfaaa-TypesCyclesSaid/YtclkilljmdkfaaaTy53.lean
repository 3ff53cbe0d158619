/- Part 53: A slice of bools that came in, opened. -/
import Derived.Test.YtclkilljmdkfaaaTy1
import Derived.Test.YtclkilljmdkfaaaTy51
set_option maxRecDepth 100000
set_option maxHeartbeats 4000000
namespace Go.Proofs.Ytclkilljmdkfaaa
open Go.RowKit Go.ChangeShapes Go.WideShapes
section
variable {H:Type} {enc:TypeId × Value → H} {w:World} {base:Nat} {held:Bool}
theorem cells_bool1:Try.prog.cellsOf 4 = 1:=by kernel_rfl
theorem open_bools1 {fuel:Nat} {cs:List Value} {x:DataW H × List MemPlace} (h:DataW.trod enc Try.prog w base (fun _=>true) held fuel 22 cs = some x) :
  ∃ (A:Option Addr) (c:Nat) (ls:List Bool),cs = [.slice A ls.length c] ∧ BoolsAt w A ls:=by
 rcases Go.Deep.open_bools Try.underlying22 Try.underlying4 cells_bool1 h with ⟨hcs,_⟩ | ⟨a,len,cap,B,hcs,_,hl,_,_,hc⟩
 ·exact ⟨none,0,[],hcs,fun h=>absurd rfl h⟩
 ·refine ⟨some a,cap,(List.range len).map B,by rw [List.length_map,List.length_range];exact hcs,fun hne=>?_⟩
  have h0:0 < len:=by
   rcases Nat.eq_zero_or_pos len with h | h
   ·subst h
    exact absurd rfl hne
   ·exact h
  obtain ⟨b,off,spot⟩:=a
  have hspot:spot = none:=by
   have:=World.cell?_spot (hc 0 (by omega))
   simpa [Addr.add] using this
  subst hspot
  have hadd:∀ n:Nat,((⟨b,off,none⟩:Addr).add n) = ⟨b,off + n,none⟩:=fun n=>by unfold Addr.add;split <;> simp_all
  refine ⟨b,off,rfl,?_,fun i x hx=>?_⟩
  ·have:=hc 0 (by omega)
   rw [hadd] at this
   exact xK w _ this
  ·have hi:=(List.getElem?_eq_some_iff.1 hx).1
   rw [List.length_map,List.length_range] at hi
   rw [List.getElem?_map,List.getElem?_range hi] at hx
   injection hx with hx
   have:=hc i (by omega)
   rw [hadd] at this
   rw [this,hx]
end
end Go.Proofs.Ytclkilljmdkfaaa
