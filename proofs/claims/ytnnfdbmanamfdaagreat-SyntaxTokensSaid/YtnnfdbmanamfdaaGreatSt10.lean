/- Part 10: The contracts of strings.Builder inside a writer. -/
import Derived.Test.YtnnfdbmanamfdaaGreatSt1
import Derived.Test.YtnnfdbmanamfdaaGreatSt4
import Derived.Test.YtnnfdbmanamfdaaGreatSt9
set_option maxRecDepth 100000
set_option maxHeartbeats 4000000
namespace Go.Proofs.YtnnfdbmanamfdaaGreat
open Go.RowKit Go.Shelf
def WrAt (B b:Nat) (p:Value) (bs:List Value) (last:ByteArray) (w:World):Prop :=
 B ≤ b ∧ ∃ v,w.heap[b]? = some (.cells #[p,v,.string last] 140 (0,0)) ∧ w.ownsRow B 5 1 v bs.length bs ∧ v.ownBlock ≠ some b
def IsWr (B b:Nat) (bs:List Value) (last:ByteArray) (w:World):Prop:=WrAt B b (.pointer none) bs last w ∨ WrAt B b (.pointer (some ⟨b,0,none⟩)) bs last w
theorem liesW:liesAt Tryz.prog Tryz.prog.depth 140 (3 / Tryz.prog.cellsOf 140) 0 138 1 = true:=by kernel_rfl
theorem WrAt.lt {B b:Nat} {p:Value} {bs:List Value} {last:ByteArray} {w:World} (h:WrAt B b p bs last w):b < w.heap.size:=by
 obtain ⟨_,v,hb,_⟩:=h
 exact Qaa hb
theorem IsWr.lt {B b:Nat} {bs:List Value} {last:ByteArray} {w:World} (h:IsWr B b bs last w):b < w.heap.size:=h.elim (·.lt) (·.lt)
theorem copyCheck_usedW (b:Nat) (w:World) (h0:w.cell? ⟨b,0,none⟩ = some (.pointer (some ⟨b,0,none⟩))) :
  Calls Tryz.prog 186 #[.pointer (some ⟨b,0,none⟩)] w fun e w'=>e = .returned (.tuple #[]) ∧ w' = w:=copyCheck_used b w h0
theorem copyCheck_freshW (b:Nat) (w:World) (h0:w.cell? ⟨b,0,none⟩ = some (.pointer none)) (hsh:w.shape? b = some (140,3)) (hfz:w.frozen? ⟨b,0,none⟩ = false) :
  Calls Tryz.prog 186 #[.pointer (some ⟨b,0,none⟩)] w fun e w'=>e = .returned (.tuple #[]) ∧ w' = w.setCell ⟨b,0,none⟩ (.pointer (some ⟨b,0,none⟩)):=by
 obtain ⟨j,hj,hjs⟩:=Option.map_eq_some_iff.1 sizeB
 go_enter Tryz.func186,Tryz.ntmps186
 go_wp2
 rw [Lib.run_to_unsafe w ⟨b,0,none⟩ Tryz.underlying135 Tryz.underlying191 hj (by rw [hjs];decide) hsh (Nat.zero_lt_succ 2)]
 simp only [Result.andThen]
 rw [Oper.upon_value]
 go_wp2
 rw [run_callFunc_extern Tryz.func194 (by kernel_rfl) (by kernel_rfl) (by kernel_rfl) (e:=Extern.AbiNoEscape.same) (by kernel_rfl)]
 rw [Lib.run_noEscape]
 simp only [Result.andThen]
 rw [Oper.upon_value]
 go_wp2
 rw [Lib.run_from_unsafe w ⟨b,0,none⟩ Tryz.underlying191 Tryz.underlying135 hj hsh liesW]
 simp only [Result.andThen]
 rw [Oper.upon_value]
 go_wp2
 go_end0
 exact ⟨rfl,rfl⟩
theorem WrAt.cells {B b:Nat} {p:Value} {bs:List Value} {last:ByteArray} {w:World} (h:WrAt B b p bs last w):w.cell? ⟨b,0,none⟩ = some p:=by
 obtain ⟨_,v,hb,_⟩:=h
 rw [Lib.cell_of_heap hb]
 rfl
theorem WrAt.shape {B b:Nat} {p:Value} {bs:List Value} {last:ByteArray} {w:World} (h:WrAt B b p bs last w):w.shape? b = some (140,3):=by
 obtain ⟨_,v,hb,_⟩:=h
 unfold World.shape?
 rw [hb]
 rfl
theorem WrAt.frozen0 {B b:Nat} {p:Value} {bs:List Value} {last:ByteArray} {w:World} (h:WrAt B b p bs last w):w.frozen? ⟨b,0,none⟩ = false:=by
 obtain ⟨_,v,hb,_⟩:=h
 exact Lib.frozen_of_heap hb 0
theorem heap_cell {w:World} {b i:Nat} {cs:Array Value} {T:TypeId} {fr:Nat × Nat} (hb:w.heap[b]? = some (.cells cs T fr)) (v:Value):(w.setCell ⟨b,i,none⟩ v).heap[b]? = some (.cells (cs.set! i v) T fr):=by
 simp [World.setCell,Array.getElem?_modify,hb]
theorem own_cell {w:World} {b i:Nat} {B:Nat} {e:TypeId} {n:Nat} {v:Value} {xs:List Value} (h:w.ownsRow B e 1 v n xs) (hne:v.ownBlock ≠ some b) (u:Value):(w.setCell ⟨b,i,none⟩ u).ownsRow B e 1 v n xs :=
 h.kept (row:=some b) ⟨rfl,rfl,rfl,by simp [World.setCell],fun k _ hk=>Below.heap_setCell _ _ _ _ (fun e=>hk (by simp [e]))⟩ (Or.inr hne)
theorem own_apart {w:World} {b:Nat} {B:Nat} {n:Nat} {v:Value} {xs:List Value} {cs:Array Value} (h:w.ownsRow B 5 1 v n xs) (hb:w.heap[b]? = some (.cells cs 140 (0,0))):v.ownBlock ≠ some b :=
 Lib.ownBlock_ne h hb (by decide)
theorem WrAt.used {B b:Nat} {p:Value} {bs:List Value} {last:ByteArray} {w:World} (h:WrAt B b p bs last w):WrAt B b (.pointer (some ⟨b,0,none⟩)) bs last (w.setCell ⟨b,0,none⟩ (.pointer (some ⟨b,0,none⟩))):=by
 obtain ⟨hB,v,hb,hown,hne⟩:=h
 refine ⟨hB,v,?_,?_,hne⟩
 ·rw [heap_cell hb]
  rfl
 ·exact own_cell hown hne _
theorem copyCheck_anyW (B b:Nat) (bs:List Value) (last:ByteArray) (w:World) (h:IsWr B b bs last w) :
  Calls Tryz.prog 186 #[.pointer (some ⟨b,0,none⟩)] w fun e w'=>e = .returned (.tuple #[]) ∧ (WrAt B b (.pointer (some ⟨b,0,none⟩)) bs last w' ∧ Below B w w' ∧ Kept b w w'):=by
 rcases h with h | h
 ·refine (copyCheck_freshW b w h.cells h.shape h.frozen0).mono ?_
  rintro e w' ⟨rfl,rfl⟩
  exact ⟨rfl,h.used,(xC B w).setCell (p:=⟨b,0,none⟩) h.1 _,Kept.set _ _⟩
 ·refine (copyCheck_usedW b w h.cells).mono ?_
  rintro e w' ⟨rfl,rfl⟩
  exact ⟨rfl,h,xC B _,Kept.refl _ _⟩
theorem writeString_anyW (B b:Nat) (bs:List Value) (last s:ByteArray) (w:World) (h:IsWr B b bs last w) (hlen:bs.length + s.size ≤ 140737488355328) (hBw:B ≤ w.heap.size) :
  Calls Tryz.prog 178 #[.pointer (some ⟨b,0,none⟩),.string s] w fun e w'=>e = .returned (.tuple #[.int .i64 s.size,.nilIface]) ∧ (WrAt B b (.pointer (some ⟨b,0,none⟩)) (bs ++ Lib.strCells s) last w' ∧ Below B w w' ∧ Kept b w w'):=by
 obtain ⟨i0,hi,hz0,hz1,hz2⟩:=info_parts byte_info
 go_enter Tryz.func178,Tryz.ntmps178
 go_wp2_with (go_at_call 186;refine (copyCheck_anyW B b bs last _ h).mono ?_)
 rintro e w1 ⟨rfl,h1,hb1,hkp⟩
 have HK:=hQ hkp
 clear hkp
 obtain ⟨hB,v,hbk,hown,hne⟩:=h1
 have c0:w1.cell? ⟨b,0,none⟩ = some (.pointer (some ⟨b,0,none⟩)):=by rw [Lib.cell_of_heap hbk];rfl
 have c1:w1.cell? ⟨b,1,none⟩ = some v:=by rw [Lib.cell_of_heap hbk];rfl
 go_wp2_with (at_builtin;refine Lib.wpList_append_own_string _ rfl _ _ 136 9 rfl B 5 i0 Tryz.underlying136 Tryz.underlying9 hi hz0 hz1 hz2 _ _ _ rfl hown s rfl ?c3 ?c4 ?c5 ?_)
 case c3=>unfold maxLen;omega
 case c4=>omega
 case c5=>have:=hb1.size;omega
 intro v' w2 hown' hgrow _
 have hlt:b < w1.heap.size:=by
  rcases Nat.lt_or_ge b w1.heap.size with h' | h'
  ·exact h'
  ·simp [Array.getElem?_eq_none h'] at hbk
 have hb2:w2.heap[b]? = some (.cells #[.pointer (some ⟨b,0,none⟩),v,.string last] 140 (0,0)):=by
  rw [hgrow.block b hlt (fun e=>hne e.symm)]
  exact hbk
 have d0:w2.cell? ⟨b,0,none⟩ = some (.pointer (some ⟨b,0,none⟩)):=by rw [Lib.cell_of_heap hb2];rfl
 have d1:w2.cell? ⟨b,1,none⟩ = some v:=by rw [Lib.cell_of_heap hb2];rfl
 have f1:w2.frozen? ⟨b,1,none⟩ = false:=Lib.frozen_of_heap hb2 1
 have hne':v'.ownBlock ≠ some b:=own_apart hown' hb2
 obtain ⟨ao,n',cap,rfl⟩:∃ ao n' cap,v' = .slice ao n' cap:=by
  rcases hown'.2 with ⟨hv,_⟩ | ⟨g,cap,cur,hv,_⟩
  ·exact ⟨_,_,_,hv⟩
  ·exact ⟨_,_,_,hv⟩
 go_wp2
 go_ret2
 refine ⟨rfl,⟨hB,_,heap_cell hb2 _,?_,hne'⟩,?_,(HK.out.trans (Kept.grown hown hgrow)).trans (Kept.set _ _)⟩
 ·have:=own_cell (i:=1) hown' hne' (.slice ao n' cap)
  simpa [Lib.strCells_length] using this
 ·exact (hb1.grown hgrow (by have:=hb1.size;omega) (fun k hk=>(hown.lt k hk).1)).setCell (p:=⟨b,1,none⟩) hB _
theorem stringW_some (B b:Nat) (l:List UInt8) (last:ByteArray) (w:World) (h:IsWr B b (Lib.byteCells l) last w) (h0:l ≠ []) :
  Calls Tryz.prog (stringRen.f 169) #[.pointer (some ⟨b,0,none⟩)] w fun e w'=>e = .returned (.string ⟨l.toArray⟩) ∧ Below B w w':=by
 obtain ⟨p,hB,v,hbk,hown,hne⟩:∃ p,WrAt B b p (Lib.byteCells l) last w:=by
  rcases h with h | h
  ·exact ⟨_,h⟩
  ·exact ⟨_,h⟩
 have hl0:l.length ≠ 0:=by simpa using h0
 rw [Lib.byteCells_length] at hown
 obtain ⟨g,cap,cur,rfl,hbg,hg,hnc,hcm,hcs,htake⟩:∃ g cap cur,v = .slice (some ⟨g,0,none⟩) l.length cap ∧ B ≤ g ∧ w.heap[g]? = some (.cells cur (stringRen.t 5) (0,0)) ∧ l.length ≤ cap ∧ cap ≤ maxLen ∧ cur.size = cap * 1 ∧ cur.toList.take (l.length * 1) = Lib.byteCells l:=by
  rcases hown.2 with ⟨_,hz⟩ | ⟨g,cap,cur,hv,r⟩
  ·exact absurd hz hl0
  ·exact ⟨g,cap,cur,hv,r⟩
 have c1:w.drew.cell? ⟨b,1,none⟩ = some (.slice (some ⟨g,0,none⟩) l.length cap):=by
  have:w.drew.heap[b]? = some (.cells #[p,.slice (some ⟨g,0,none⟩) l.length cap,.string last] 140 (0,0)):=hbk
  rw [Lib.cell_of_heap this];rfl
 have hSD:(Builtin.unsafeSliceData_ #[(stringRen.t 37)] (stringRen.t 127) #[.slice (some ⟨g,0,none⟩) l.length cap]).run Tryz.prog w.drew = .ok (.pointer (some ⟨g,0,none⟩)) w.drew :=
  Lib.run_unsafeSliceData_row _ _ _ _ _ _ (by omega)
 have hUS:(Builtin.unsafeString_ #[(stringRen.t 127),(stringRen.t 3)] (stringRen.t 9) #[.pointer (some ⟨g,0,none⟩),.int .i64 l.length]).run Tryz.prog w.drew = .ok (.string ⟨l.toArray⟩) (w.drew.freeze ⟨g,0,none⟩ l.length):=by
  refine Lib.run_unsafeString_row w.drew (stringRen.t 127) (stringRen.t 3) (stringRen.t 9) (stringRen.t 5) stringLays.t127 stringExtra.cellsByte g cur.size (by have hg':w.drew.heap[g]? = some (.cells cur (stringRen.t 5) (0,0)):=hg;simp [World.shape?,hg']) l h0 (by omega) (by unfold maxLen at hcm;omega) ?_
  intro j x hx
  have:=hown.cells (g:=g) rfl j (.int .u8 x.toNat) (by simp [Lib.byteCells,hx])
  exact this
 have mixed:=stringLays.mixed
 have t72:=stringLays.t72;have a72:=stringLays.a72;have z72:=stringLays.z72;have v72:=stringLays.v72;have u72:=run_underlying stringLays.t72
 have t70:=stringLays.t70;have a70:=stringLays.a70;have z70:=stringLays.z70;have v70:=stringLays.v70;have u70:=run_underlying stringLays.t70
 have t37:=stringLays.t37;have a37:=stringLays.a37;have z37:=stringLays.z37;have v37:=stringLays.v37;have u37:=run_underlying stringLays.t37
 have t127:=stringLays.t127;have a127:=stringLays.a127;have z127:=stringLays.z127;have v127:=stringLays.v127;have u127:=run_underlying stringLays.t127
 have t3:=stringLays.t3;have a3:=stringLays.a3;have z3:=stringLays.z3;have v3:=stringLays.v3;have u3:=run_underlying stringLays.t3
 have t9:=stringLays.t9;have a9:=stringLays.a9;have z9:=stringLays.z9;have v9:=stringLays.v9;have u9:=run_underlying stringLays.t9
 have t5:=stringExtra.t5;have a5:=stringExtra.a5;have z5:=stringExtra.z5;have v5:=stringExtra.v5;have u5:=run_underlying stringExtra.t5
 go_enter stringLays.f169,Body.n169_ntmps stringRen
 go_wp2
 go_region_o
 all_goals (go_wp2;go_ret;exact ⟨rfl,Lib.below_freeze (Below.drew (xC B w)) (p:=⟨g,0,none⟩) hbg _⟩)
theorem stringW (B b:Nat) (l:List UInt8) (last:ByteArray) (w:World) (h:IsWr B b (Lib.byteCells l) last w) (h0:l ≠ []) :
  Calls Tryz.prog 107 #[.pointer (some ⟨b,0,none⟩)] w fun e w'=>e = .returned (.string ⟨l.toArray⟩) ∧ Below B w w':=stringW_some B b l last w h h0
theorem stringW_nil (B b:Nat) (p:Value) (last:ByteArray) (w:World) (hbk:w.heap[b]? = some (.cells #[p,.slice none 0 0,.string last] 140 (0,0))) :
  Calls Tryz.prog (stringRen.f 169) #[.pointer (some ⟨b,0,none⟩)] w fun e w'=>e = .returned (.string ⟨#[]⟩) ∧ Below B w w':=by
 have hUS:=Any.unsafeString_none stringLays stringExtra
 have c1:w.drew.cell? ⟨b,1,none⟩ = some (.slice none 0 0):=by
  have:w.drew.heap[b]? = some (.cells #[p,.slice none 0 0,.string last] 140 (0,0)):=hbk
  rw [Lib.cell_of_heap this];rfl
 have hSD:(Builtin.unsafeSliceData_ #[(stringRen.t 37)] (stringRen.t 127) #[.slice none 0 0]).run Tryz.prog w.drew = .ok (.pointer none) w.drew:=rfl
 have mixed:=stringLays.mixed
 have t72:=stringLays.t72;have a72:=stringLays.a72;have z72:=stringLays.z72;have v72:=stringLays.v72;have u72:=run_underlying stringLays.t72
 have t70:=stringLays.t70;have a70:=stringLays.a70;have z70:=stringLays.z70;have v70:=stringLays.v70;have u70:=run_underlying stringLays.t70
 have t37:=stringLays.t37;have a37:=stringLays.a37;have z37:=stringLays.z37;have v37:=stringLays.v37;have u37:=run_underlying stringLays.t37
 have t127:=stringLays.t127;have a127:=stringLays.a127;have z127:=stringLays.z127;have v127:=stringLays.v127;have u127:=run_underlying stringLays.t127
 have t3:=stringLays.t3;have a3:=stringLays.a3;have z3:=stringLays.z3;have v3:=stringLays.v3;have u3:=run_underlying stringLays.t3
 have t9:=stringLays.t9;have a9:=stringLays.a9;have z9:=stringLays.z9;have v9:=stringLays.v9;have u9:=run_underlying stringLays.t9
 have t5:=stringExtra.t5;have a5:=stringExtra.a5;have z5:=stringExtra.z5;have v5:=stringExtra.v5;have u5:=run_underlying stringExtra.t5
 go_enter stringLays.f169,Body.n169_ntmps stringRen
 go_wp2
 go_region_o
 all_goals (go_wp2;go_ret;exact ⟨rfl,Below.drew (xC B w)⟩)
theorem stringW_noroom (B b g:Nat) (p:Value) (last:ByteArray) (cur:Array Value) (w:World) (hBw:B ≤ w.heap.size) (hbk:w.heap[b]? = some (.cells #[p,.slice (some ⟨g,0,none⟩) 0 0,.string last] 140 (0,0))) (hg:w.heap[g]? = some (.cells cur (stringRen.t 5) (0,0))) :
  Calls Tryz.prog (stringRen.f 169) #[.pointer (some ⟨b,0,none⟩)] w fun e w'=>e = .returned (.string ⟨#[]⟩) ∧ Below B w w':=by
 have hUS:=Any.unsafeString_none stringLays stringExtra
 have hlt:b < w.heap.size:=Qaa hbk
 have c1:w.drew.cell? ⟨b,1,none⟩ = some (.slice (some ⟨g,0,none⟩) 0 0):=by
  have:w.drew.heap[b]? = some (.cells #[p,.slice (some ⟨g,0,none⟩) 0 0,.string last] 140 (0,0)):=hbk
  rw [Lib.cell_of_heap this];rfl
 have hSD:(Builtin.unsafeSliceData_ #[(stringRen.t 37)] (stringRen.t 127) #[.slice (some ⟨g,0,none⟩) 0 0]).run Tryz.prog w.drew = .ok (.pointer (some ⟨w.drew.heap.size,0,none⟩)) (w.drew.alloc (.view ⟨g,0,none⟩ (stringRen.t 5))) :=
  Lib.run_unsafeSliceData_zero w.drew _ _ (stringRen.t 5) stringLays.t127 ⟨g,0,none⟩ 0 ((stringRen.t 5),cur.size) (by have hg':w.drew.heap[g]? = some (.cells cur (stringRen.t 5) (0,0)):=hg;simp [World.shape?,hg'])
 have c2:(w.drew.alloc (.view ⟨g,0,none⟩ (stringRen.t 5))).cell? ⟨b,1,none⟩ = some (.slice (some ⟨g,0,none⟩) 0 0):=by
  have:(w.drew.alloc (.view ⟨g,0,none⟩ (stringRen.t 5))).heap[b]? = _:=(Lib.alloc_old w.drew _ b hlt).trans hbk
  rw [Lib.cell_of_heap this];rfl
 have c3:(w.alloc (.view ⟨g,0,none⟩ (stringRen.t 5))).drew.cell? ⟨b,1,none⟩ = some (.slice (some ⟨g,0,none⟩) 0 0):=c2
 have c0:w.cell? ⟨b,1,none⟩ = some (.slice (some ⟨g,0,none⟩) 0 0):=c1
 have mixed:=stringLays.mixed
 have t72:=stringLays.t72;have a72:=stringLays.a72;have z72:=stringLays.z72;have v72:=stringLays.v72;have u72:=run_underlying stringLays.t72
 have t70:=stringLays.t70;have a70:=stringLays.a70;have z70:=stringLays.z70;have v70:=stringLays.v70;have u70:=run_underlying stringLays.t70
 have t37:=stringLays.t37;have a37:=stringLays.a37;have z37:=stringLays.z37;have v37:=stringLays.v37;have u37:=run_underlying stringLays.t37
 have t127:=stringLays.t127;have a127:=stringLays.a127;have z127:=stringLays.z127;have v127:=stringLays.v127;have u127:=run_underlying stringLays.t127
 have t3:=stringLays.t3;have a3:=stringLays.a3;have z3:=stringLays.z3;have v3:=stringLays.v3;have u3:=run_underlying stringLays.t3
 have t9:=stringLays.t9;have a9:=stringLays.a9;have z9:=stringLays.z9;have v9:=stringLays.v9;have u9:=run_underlying stringLays.t9
 have t5:=stringExtra.t5;have a5:=stringExtra.a5;have z5:=stringExtra.z5;have v5:=stringExtra.v5;have u5:=run_underlying stringExtra.t5
 go_enter stringLays.f169,Body.n169_ntmps stringRen
 go_wp2
 go_region_o
 all_goals (go_wp2;go_ret;exact ⟨rfl,(Below.drew (xC B w)).alloc hBw _⟩)
theorem stringW_room (B b g cap:Nat) (p:Value) (last:ByteArray) (w:World) (hc0:cap ≠ 0) (hbk:w.heap[b]? = some (.cells #[p,.slice (some ⟨g,0,none⟩) 0 cap,.string last] 140 (0,0))) :
  Calls Tryz.prog (stringRen.f 169) #[.pointer (some ⟨b,0,none⟩)] w fun e w'=>e = .returned (.string ⟨#[]⟩) ∧ Below B w w':=by
 have hUS:=Any.unsafeString_none stringLays stringExtra
 have c1:w.drew.cell? ⟨b,1,none⟩ = some (.slice (some ⟨g,0,none⟩) 0 cap):=by
  have:w.drew.heap[b]? = some (.cells #[p,.slice (some ⟨g,0,none⟩) 0 cap,.string last] 140 (0,0)):=hbk
  rw [Lib.cell_of_heap this];rfl
 have hSD:(Builtin.unsafeSliceData_ #[(stringRen.t 37)] (stringRen.t 127) #[.slice (some ⟨g,0,none⟩) 0 cap]).run Tryz.prog w.drew = .ok (.pointer (some ⟨g,0,none⟩)) w.drew :=
  Lib.run_unsafeSliceData_row _ _ _ _ _ _ hc0
 clear hc0
 have mixed:=stringLays.mixed
 have t72:=stringLays.t72;have a72:=stringLays.a72;have z72:=stringLays.z72;have v72:=stringLays.v72;have u72:=run_underlying stringLays.t72
 have t70:=stringLays.t70;have a70:=stringLays.a70;have z70:=stringLays.z70;have v70:=stringLays.v70;have u70:=run_underlying stringLays.t70
 have t37:=stringLays.t37;have a37:=stringLays.a37;have z37:=stringLays.z37;have v37:=stringLays.v37;have u37:=run_underlying stringLays.t37
 have t127:=stringLays.t127;have a127:=stringLays.a127;have z127:=stringLays.z127;have v127:=stringLays.v127;have u127:=run_underlying stringLays.t127
 have t3:=stringLays.t3;have a3:=stringLays.a3;have z3:=stringLays.z3;have v3:=stringLays.v3;have u3:=run_underlying stringLays.t3
 have t9:=stringLays.t9;have a9:=stringLays.a9;have z9:=stringLays.z9;have v9:=stringLays.v9;have u9:=run_underlying stringLays.t9
 have t5:=stringExtra.t5;have a5:=stringExtra.a5;have z5:=stringExtra.z5;have v5:=stringExtra.v5;have u5:=run_underlying stringExtra.t5
 go_enter stringLays.f169,Body.n169_ntmps stringRen
 go_wp2
 go_region_o
 all_goals (go_wp2;go_ret;exact ⟨rfl,Below.drew (xC B w)⟩)
theorem stringW_any (B b:Nat) (l:List UInt8) (last:ByteArray) (w:World) (h:IsWr B b (Lib.byteCells l) last w) (hBw:B ≤ w.heap.size) :
  Calls Tryz.prog 107 #[.pointer (some ⟨b,0,none⟩)] w fun e w'=>e = .returned (.string ⟨l.toArray⟩) ∧ Below B w w':=by
 cases l with
 | cons x r=>exact stringW B b (x :: r) last w h (by simp)
 | nil =>
  obtain ⟨p,hB,v,hbk,hown,hne⟩:∃ p,WrAt B b p (Lib.byteCells []) last w:=by
   rcases h with h | h
   ·exact ⟨_,h⟩
   ·exact ⟨_,h⟩
  rcases hown.2 with ⟨rfl,_⟩ | ⟨g,cap,cur,rfl,hbg,hg,_,_,_,_⟩
  ·exact stringW_nil B b p last w hbk
  ·by_cases hc0:cap = 0
   ·subst hc0
    exact stringW_noroom B b g p last cur w hBw hbk hg
   ·exact stringW_room B b g cap p last w hc0 hbk
end Go.Proofs.YtnnfdbmanamfdaaGreat
