/- Part 26: The contracts of slices.Clone at ints, of slices.Backward at binders, and of innermost. -/
import Derived.Test.YtclkilljmdkfaaaTy1
import Derived.Test.YtclkilljmdkfaaaTy25
import Derived.RangeFuncNested
import Derived.RangeFuncBound
import Derived.RangeFuncCalls
import Derived.RangeFuncLeaves
import Derived.RangeFuncBox
import Derived.Shelf.Abstract
import Derived.OwnWalkIn
import Derived.TacticsInMore
import Derived.LoopNIn
import Derived.LoopIn
import Derived.Deep.AppendLies
set_option maxRecDepth 100000
set_option maxHeartbeats 4000000
namespace Go.Proofs.Ytclkilljmdkfaaa
open Go.RowKit Go.Shelf
attribute [local go_sem] Oper.semAt_some
theorem int_info2:(Try.prog.info? 3).map (fun i=>(i.zero,i.size,i.bytes)) = some (some (.int .i64 0),1,8):=by kernel_rfl
def IRow (w:World) (B:Nat) (v:Value) (p:List Int):Prop:=w.ownsRow B 3 1 v p.length (p.map (Value.int .i64))
theorem IRow.keep {w w':World} {B:Nat} {v:Value} {p:List Int} (h:IRow w B v p) (hb:Below w.heap.size w w'):IRow w' B v p:=by
 refine ⟨h.1,?_⟩
 rcases h.2 with h0 | ⟨g,cap,cur,hv,hb',hh,hr⟩
 ·exact .inl h0
 ·exact .inr ⟨g,cap,cur,hv,hb',(hb.block g (Qab hh)).trans hh,hr⟩
theorem IRow.ints {w:World} {B n c:Nat} {A:Option Addr} {p:List Int} (h:IRow w B (.slice A n c) p):n = p.length ∧ IntsAt w A p:=by
 rcases h.2 with ⟨hv,h0⟩ | ⟨g,cap,cur,hv,hb,hh,hnc,hm,hsz,htk⟩
 ·injection hv with e1 e2 e3
  exact ⟨by omega,fun hne=>absurd (List.eq_nil_of_length_eq_zero h0) hne⟩
 ·injection hv with e1 e2 e3
  refine ⟨e2,fun hne=>⟨g,0,e1,Qab hh,fun i x hx=>?_⟩⟩
  rw [Nat.zero_add,Lib.cell_of_heap hh]
  have hi:=(List.getElem?_eq_some_iff.1 hx).1
  rw [← Array.getElem?_toList]
  have h1:(p.map (Value.int .i64))[i]? = some (.int .i64 x):=by rw [List.getElem?_map,hx];rfl
  rw [← htk,List.getElem?_take_of_lt (by omega)] at h1
  exact h1
theorem equal_nil_some (w:World) (d:Nat) (b off l c:Nat):(Op.equalIn (d + 1) 38 (.slice (some ⟨b,off,none⟩) l c) (.slice none 0 0)).run Try.prog w = .ok false w:=by
 simp [Op.equalIn,run_underlying Try.underlying38]
theorem eql_nil_some (w:World) (b off l c:Nat):(binOp .eql 38 (.slice (some ⟨b,off,none⟩) l c) (.slice none 0 0)).run Try.prog w = .ok (.bool false) w:=by
 have h:(Op.equal 38 (.slice (some ⟨b,off,none⟩) l c) (.slice none 0 0)).run Try.prog w = .ok false w:=equal_nil_some w 9999 b off l c
 simp [binOp,h]
theorem clone_ints (A:Option Addr) (c:Nat) (p:List Int) (w:World) (hA:IntsAt w A p) (h0:p ≠ []) (hl:p.length ≤ 1000000) :
  Calls Try.prog 35 #[.slice A p.length c] w fun e w'=>∃ v,e = .returned v ∧ IRow w' w.heap.size v p ∧ Below w.heap.size w w':=by
 obtain ⟨b,off,rfl,hb,hc⟩:=hA h0
 have hpos:0 < p.length:=by cases p with
  | nil=>exact absurd rfl h0
  | cons a r=>simp
 obtain ⟨ii,hii,iz0,iz1,iz2⟩:=info_parts int_info2
 have HC:=hQ (show ∀ (j:Nat) (u:Value),(p.map (Value.int .i64))[j]? = some u → (w.alloc (.cells #[] 3)).cell? ((⟨b,off,none⟩:Addr).add j) = some u from fun j u hu=>by
  rw [List.getElem?_map,Option.map_eq_some_iff] at hu
  obtain ⟨x,hx,rfl⟩:=hu
  have h2:=hc j x hx
  rw [plain_add]
  exact (xJ (w:=w) (a:=⟨b,off + j,none⟩) (Below.heap_alloc _ _ b hb)).trans h2)
 have HO:=hQ (show (w.alloc (.cells #[] 3)).ownsRow w.heap.size 3 1 (.slice (some ⟨w.heap.size,0,none⟩) 0 0) 0 [] from ⟨rfl,.inr ⟨w.heap.size,0,#[],rfl,xA _,xH w _,xA _,Nat.zero_le _,rfl,rfl⟩⟩)
 have HSZ:=hQ (show w.heap.size ≤ (w.alloc (.cells #[] 3)).heap.size from by rw [xI];omega)
 have HB:=hQ ((xC w.heap.size w).alloc (xA _) (.cells #[] 3))
 have HP:=hQ hpos
 have hen:=fun w=>eql_nil_some w b off p.length c
 clear hc hb h0 hpos hA
 go_enter Try.func35,Try.ntmps35
 go_wp2_with (at_builtin;refine wpList_append_lies _ rfl _ _ 38 rfl w.heap.size 3 ii _ 1 8 Try.underlying38 hii iz0 iz1 iz2 rfl (by decide) (.slice (some ⟨w.heap.size,0,none⟩) 0 0) 0 [] rfl HO.out ⟨b,off,none⟩ p.length c (p.map (Value.int .i64)) rfl (by simp) HC.out (fun u hu=>by obtain ⟨x,_,rfl⟩:=List.mem_map.1 hu;rfl) HP.out (by unfold maxLen;omega) (by omega) HSZ.out _ rfl ?_;intro g2 c2 w3 hown hgr _ hlt;simp only [Nat.zero_add,List.nil_append] at hown ⊢;have HR3:=hQ (show IRow w3 w.heap.size (.slice (some ⟨g2,0,none⟩) p.length c2) p from hown);have HB3:=hQ (HB.out.grown hgr HSZ.out (fun k hk=>by injection hk with hk;subst hk;exact xA _));clear hown hgr hlt)
 go_ret
 exact ⟨_,rfl,HR3.out,HB3.out⟩
theorem IRow.slice {w:World} {B:Nat} {v:Value} {p:List Int} (h:IRow w B v p):∃ A n c,v = .slice A n c:=by
 rcases h.2 with h0 | ⟨g,cap,cur,hv,_⟩
 ·exact ⟨_,_,_,h0.1⟩
 ·exact ⟨_,_,_,hv⟩
theorem same_text {x y:ByteArray} (h:(x.toList == y.toList) = true):x = y:=by
 have h2:x.toList = y.toList:=by simpa using h
 rw [ByteArray.toList_eq,ByteArray.toList_eq] at h2
 cases x;cases y
 simp only [ByteArray.mk.injEq]
 exact Array.toList_inj.1 h2
theorem irow_set {w:World} {B:Nat} {v:Value} {p:List Int} {a:Addr} (h:IRow w B v p) (ha:a.block < B) (u:Value):IRow (w.setCell a u) B v p:=by
 refine ⟨h.1,?_⟩
 rcases h.2 with h0 | ⟨g,cap,cur,hv,hb',hh,hr⟩
 ·exact .inl h0
 ·exact .inr ⟨g,cap,cur,hv,hb',(heap_setCell_other w a g u (by omega)).trans hh,hr⟩
end Go.Proofs.Ytclkilljmdkfaaa
