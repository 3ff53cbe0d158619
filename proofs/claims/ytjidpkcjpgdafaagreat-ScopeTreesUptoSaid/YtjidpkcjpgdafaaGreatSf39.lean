/- Part 39 -/
import Derived.Test.YtjidpkcjpgdafaaGreatSf38
import Derived.Test.YtjidpkcjpgdafaaGreatSf6
import Derived.Shelf.Spec.SlicesInsert
import Derived.Shelf.Spec.SlicesInsertGrow
import Derived.Lib.LazyBuf
set_option maxRecDepth 100000
set_option maxHeartbeats 4000000
namespace Go.Proofs.YtjidpkcjpgdafaaGreat
open Go.RowKit Go.Shelf
def Qyo:Go.Shelf.Ren:=⟨fun | 26=>72 | 33=>116 | 34=>117 | 38=>162 | n=>n,fun | 0=>0 | 3=>3 | 4=>4 | 9=>9 | 24=>27 | 40=>161 | n=>n,fun n=>n⟩
theorem Qqm:Go.Proofs.Lays2.n26 Tryz.prog Qyo:={
 mixed:=by kernel_rfl
 f26:=Tryz.func72.trans (congrArg some (by kernel_rfl))
 f33:=Tryz.func116.trans (congrArg some (by kernel_rfl))
 f34:=Tryz.func117.trans (congrArg some (by kernel_rfl))
 f38:=Tryz.func162.trans (congrArg some (by kernel_rfl))
 t0:=Tryz.underlying0
 a0:=Tryz.isAgg0
 z0:=Tryz.sizeOf0
 v0:=Tryz.zeroValue0
 t3:=Tryz.underlying3
 a3:=Tryz.isAgg3
 z3:=Tryz.sizeOf3
 v3:=Tryz.zeroValue3
 t4:=Tryz.underlying4
 a4:=Tryz.isAgg4
 z4:=Tryz.sizeOf4
 v4:=Tryz.zeroValue4
 t9:=Tryz.underlying9
 a9:=Tryz.isAgg9
 z9:=Tryz.sizeOf9
 v9:=Tryz.zeroValue9
 t24:=Tryz.underlying27
 a24:=Tryz.isAgg27
 z24:=Tryz.sizeOf27
 v24:=Tryz.zeroValue27
 t40:=Tryz.underlying161
 a40:=Tryz.isAgg161
 z40:=Tryz.sizeOf161
 v40:=Tryz.zeroValue161 }
def insRen:Go.Shelf.Ren:=⟨fun | 22=>73 | 17=>216 | 29=>118 | 30=>119 | 36=>163 | n=>n,fun | 0=>0 | 3=>3 | 4=>4 | 9=>9 | 24=>27 | n=>n,fun n=>n⟩
theorem Qmu:Go.Proofs.Lays2.n22 Tryz.prog insRen:={
 mixed:=by kernel_rfl
 f17:=Tryz.func216.trans (congrArg some (by kernel_rfl))
 f22:=Tryz.func73.trans (congrArg some (by kernel_rfl))
 f29:=Tryz.func118.trans (congrArg some (by kernel_rfl))
 f30:=Tryz.func119.trans (congrArg some (by kernel_rfl))
 f36:=Tryz.func163.trans (congrArg some (by kernel_rfl))
 t0:=Tryz.underlying0
 a0:=Tryz.isAgg0
 z0:=Tryz.sizeOf0
 v0:=Tryz.zeroValue0
 t3:=Tryz.underlying3
 a3:=Tryz.isAgg3
 z3:=Tryz.sizeOf3
 v3:=Tryz.zeroValue3
 t4:=Tryz.underlying4
 a4:=Tryz.isAgg4
 z4:=Tryz.sizeOf4
 v4:=Tryz.zeroValue4
 t9:=Tryz.underlying9
 a9:=Tryz.isAgg9
 z9:=Tryz.sizeOf9
 v9:=Tryz.zeroValue9
 t24:=Tryz.underlying27
 a24:=Tryz.isAgg27
 z24:=Tryz.sizeOf27
 v24:=Tryz.zeroValue27
 i9:=by kernel_rfl }
def NRow (w:World) (B:Nat) (v:Value) (l:List ByteArray):Prop:=w.ownsRow B 9 1 v l.length (l.map Value.string)
theorem NRow.nil (w:World) (B:Nat):NRow w B (.slice none 0 0) []:=World.ownsRow_nil _ _ _ _
theorem NRow.cells {w:World} {B g n c:Nat} {l:List ByteArray} (h:NRow w B (.slice (some ⟨g,0,none⟩) n c) l):n=l.length∧B≤g∧g<w.heap.size∧n≤c∧c≤maxLen∧w.rowIs g 9 c (fun j=>((w.cell? ⟨g,j,none⟩).getD default))∧∀ (j:Nat) (x:ByteArray),l[j]? = some x→w.cell? ⟨g,j,none⟩=some (.string x):=by
 rcases h.2 with ⟨hv,_⟩|⟨g',cap,cur,hv,hb,hh,hnc,hm,hsz,htk⟩
 ·cases hv
 ·injection hv with e1 e2 e3
  injection e1 with e1
  injection e1 with e1
  subst e1 e3
  rw [Nat.mul_one] at hsz
  refine ⟨e2,hb,Qab hh,by omega,hm,⟨cur,hh,hsz,fun i hi=>?_⟩,fun j x hx=>?_⟩
  ·show cur[i]? = some ((w.cell? ⟨g,i,none⟩).getD default)
   rw [Lib.cell_of_heap hh,Array.getElem?_eq_getElem (by omega)]
   rfl
  ·have hi:=(xP.1 hx).1
   rw [Lib.cell_of_heap hh,←Array.getElem?_toList]
   have h1:(l.map Value.string)[j]? = some (.string x):=by rw [List.getElem?_map,hx];rfl
   rw [←htk,List.getElem?_take_of_lt (by omega)] at h1
   exact h1
theorem NRow.of_row {w:World} {B g c:Nat} {l:List ByteArray} {f:Nat→Value} (hb:B≤g) (hc:l.length≤c) (hm:c≤maxLen) (h:w.rowIs g 9 c f) (hf:∀ (j:Nat) (x:ByteArray),l[j]? = some x→f j = .string x):NRow w B (.slice (some ⟨g,0,none⟩) l.length c) l:=by
 obtain ⟨cur,hh,hsz,hcs⟩:=h
 refine ⟨by simp,.inr ⟨g,c,cur,rfl,hb,hh,hc,hm,by rw [hsz,Nat.mul_one],?_⟩⟩
 apply List.ext_getElem?
 intro j
 rw [Nat.mul_one]
 by_cases hj:j<l.length
 ·rw [List.getElem?_take_of_lt hj,Array.getElem?_toList,hcs j (by omega),List.getElem?_map,xF hj,hf j _ (xF hj)]
  rfl
 ·rw [List.getElem?_eq_none (by rw [List.length_take];omega),List.getElem?_eq_none (by rw [List.length_map];omega)]
theorem NRow.keep {w w':World} {B:Nat} {v:Value} {l:List ByteArray} (h:NRow w B v l) (hb:Below w.heap.size w w'):NRow w' B v l:=by
 refine ⟨h.1,?_⟩
 rcases h.2 with h0|⟨g,cap,cur,hv,hb',hh,hr⟩
 ·exact .inl h0
 ·exact .inr ⟨g,cap,cur,hv,hb',(hb.block g (Qab hh)).trans hh,hr⟩
theorem Qix (B:Nat) (w:World) (q:Nat):Below B w (w.drewN q):=⟨rfl,rfl,rfl,xA _,fun _ _=>rfl⟩
theorem Qlv (B:Nat) (v:Value) (l:List ByteArray) (x:ByteArray) (w:World) (h:NRow w B v l) (ha:Asc l) (hl:l.length≤1000000) :
  Calls Tryz.prog 72 #[v,.string x] w fun e w'=>e = .returned (.tuple #[.int .i64 ((Qdk l x:Nat):Int),.bool (decide (l[Qdk l x]? = some x))])∧∃ q,w'=w.drewN q:=by
 rcases h.2 with ⟨rfl,h0⟩|⟨g,cap,cur,hv,_⟩
 ·obtain rfl:=List.eq_nil_of_length_eq_zero h0
  refine (Any2.slices_BinarySearch_string_empty Qqm none 0 x w).mono ?_
  rintro e w' ⟨rfl,rfl⟩
  exact ⟨rfl,0,rfl⟩
 ·subst hv
  obtain ⟨_,_,_,_,_,_,hc⟩:=h.cells
  have hS:∀ j,j<l.length→l[j]? = some (l.getD j x):=fun j hj=>by rw [List.getD_eq_getElem?_getD,xF hj];rfl
  have hb:=Qyn x ha (fun j=>l.getD j x) hS (fun j hj=>by
   show ltS (l.getD j x) x=false
   rw [List.getD_eq_getElem?_getD,List.getElem?_eq_none hj]
   exact Qmt x)
  refine (Any2.slices_BinarySearch_string Qqm g 0 l.length cap (fun j=>l.getD j x) x w (by omega) (fun j hj=>by rw [Nat.zero_add];exact hc j _ (hS j hj))).mono ?_
  rw [hb]
  rintro e w' ⟨rfl,hq⟩
  refine ⟨?_,hq⟩
  have:decide (Qdk l x<l.length∧l.getD (Qdk l x) x=x)=decide (l[Qdk l x]? = some x):=by
   by_cases hlt:Qdk l x<l.length
   ·rw [hS _ hlt]
    simp [hlt]
   ·rw [List.getElem?_eq_none (by omega)]
    simp [hlt]
  rw [this]
theorem Qub {l:List ByteArray} {i:Nat} {x y:ByteArray} {j:Nat} (hi:i≤l.length) (h:(l.take i ++ x :: l.drop i)[j]? = some y):(j<i∧l[j]? = some y)∨(j=i∧y=x)∨(i<j∧l[j-1]? = some y):=by
 have hl:(l.take i).length=i:=by rw [List.length_take];omega
 by_cases h1:j<i
 ·rw [yB (by omega),List.getElem?_take_of_lt h1] at h
  exact .inl ⟨h1,h⟩
 ·rw [xX (by omega),hl] at h
  by_cases h2:j=i
  ·subst h2
   rw [Nat.sub_self] at h
   injection h with h
   exact .inr (.inl ⟨rfl,h.symm⟩)
  ·obtain ⟨k,rfl⟩:∃ k,j=i+1+k:=⟨j-i-1,by omega⟩
   rw [show i+1+k-i=k+1 from by omega,List.getElem?_cons_succ,List.getElem?_drop] at h
   exact .inr (.inr ⟨by omega,by rw [show i+1+k-1=i+k from by omega];exact h⟩)
theorem Qyp {l:List ByteArray} {i:Nat} (x:ByteArray) (hi:i≤l.length):(l.take i ++ x :: l.drop i).length=l.length+1:=by
 rw [xB,xD,List.length_take,List.length_drop]
 omega
theorem Qcu (l:List ByteArray):∀ v∈l.map Value.string,v.oneCell'=true:=fun v hv=>by
 obtain ⟨x,_,rfl⟩:=List.mem_map.1 hv
 rfl
theorem NRow.of_heap {w:World} {B g c:Nat} {l:List ByteArray} {arr:Array Value} (hb:B≤g) (hh:w.heap[g]? = some (.cells arr 9 (0,0))) (hc:l.length≤c) (hm:c≤maxLen) (hs:arr.size=c) (ht:arr.toList.take l.length=l.map Value.string):NRow w B (.slice (some ⟨g,0,none⟩) l.length c) l :=
 ⟨by simp,.inr ⟨g,c,arr,rfl,hb,hh,hc,hm,by rw [hs,Nat.mul_one],by rw [Nat.mul_one];exact ht⟩⟩
theorem Qxk {l:List ByteArray} {i:Nat} {x y:ByteArray} {j:Nat} {f:Nat→Value} (hi:i≤l.length) (hf:∀ (j:Nat) (y:ByteArray),j<i→l[j]? = some y→f j = .string y) (hy:(l.take i ++ x :: l.drop i)[j]? = some y) :
  (if i≤j∧j<i + [Value.string x].length then [Value.string x][j-i]?.getD default else if i+1≤j∧j<i+1+((l.map Value.string).drop i).length then ((l.map Value.string).drop i)[j-(i+1)]?.getD default else f j) = .string y ∧
  (if i+1≤j∧j<i+1+((l.map Value.string).drop i).length then ((l.map Value.string).drop i)[j-(i+1)]?.getD default else if i≤j∧j<i + [Value.string x].length then [Value.string x][j-i]?.getD default else f j) = .string y:=by
 have hd:((l.map Value.string).drop i).length=l.length-i:=by rw [List.length_drop,List.length_map]
 have h1:[Value.string x].length=1:=rfl
 rw [hd,h1]
 rcases Qub hi hy with ⟨a,b⟩|⟨rfl,rfl⟩|⟨a,b⟩
 ·rw [xN (by omega),xN (by omega),xN (by omega),xN (by omega),hf j y a b]
  exact ⟨rfl,rfl⟩
 ·rw [xO (by omega),xN (by omega),xO (by omega),Nat.sub_self]
  exact ⟨rfl,rfl⟩
 ·have hj:=(xP.1 b).1
  rw [xN (by omega),xO (by omega),xO (by omega),List.getElem?_drop,show i+(j-(i+1))=j-1 from by omega,List.getElem?_map,b]
  exact ⟨rfl,rfl⟩
theorem Qsb (B:Nat) (v:Value) (l:List ByteArray) (i:Nat) (x:ByteArray) (vb:Nat) (w:World) (h:NRow w B v l) (hi:i≤l.length) (hl:l.length≤1000000) (hv:w.heap[vb]? = some (.cells #[.string x] 9 (0,0))) (hne:v.ownBlock≠some vb) (hB:B≤w.heap.size) :
  Calls Tryz.prog 73 #[v,.int .i64 (i:Int),.slice (some ⟨vb,0,none⟩) 1 1] w fun e w'=>∃ u,e = .returned u∧NRow w' B u (l.take i ++ x :: l.drop i)∧Below B w w':=by
 have hvs:∀ (j:Nat) (u:Value),[Value.string x][j]? = some u→w.cell? ⟨vb,0+j,none⟩=some u:=fun j u hu=>by
  rw [Nat.zero_add,Lib.cell_of_heap hv,←Array.getElem?_toList]
  exact hu
 have h1v:∀ u∈[Value.string x],u.oneCell'=true:=fun u hu=>by
  obtain rfl:=List.mem_singleton.1 hu
  rfl
 have hlen:=Qyp x hi
 have endgrow:∀ (base:Option Addr) (c:Nat),v = .slice base l.length c→l.length≤c→c<l.length+1→i=l.length→(base=none→l.length=0)→(∀ a,base=some a→∀ j u,(l.map Value.string)[j]? = some u→w.cell? (a.add j)=some u) →
   Calls Tryz.prog 73 #[v,.int .i64 (i:Int),.slice (some ⟨vb,0,none⟩) 1 1] w fun e w'=>∃ u,e = .returned u∧NRow w' B u (l.take i ++ x :: l.drop i)∧Below B w w':=by
  rintro base c rfl hnc hroom rfl hnil hcs
  refine (Any2.slices_Insert_string_end_grow Qmu base l.length c vb 0 1 1 (l.map Value.string) [.string x] w (by decide) hnc hroom (by omega) (by rw [List.length_map]) rfl hnil hcs hvs h1v).mono ?_
  rintro e w' ⟨rfl,rfl⟩
  have hg:=grownCap_ge w (l.length+1) c 9
  have hm:=grownCap_le_maxLen w (l.length+1) c 9 (by unfold maxLen;omega)
  refine ⟨_,rfl,?_,((Qix B w 1).trans ((Qaf w.drew _).mono hB))⟩
  have hn:=fun h1 h2 h3=>NRow.of_heap (w:=w.drew.alloc (.cells (((l.map Value.string) ++ [Value.string x]).toArray ++ Builtin.zeroCells (Value.string ⟨#[]⟩).cells (grownCap w (l.length+1) c 9-(l.length+1))) 9)) (c:=grownCap w (l.length+1) c 9) (l:=l.take l.length ++ x :: l.drop l.length) (arr:=((l.map Value.string) ++ [Value.string x]).toArray ++ Builtin.zeroCells (Value.string ⟨#[]⟩).cells (grownCap w (l.length+1) c 9-(l.length+1))) hB (xH w.drew _) h1 hm h2 h3
  rw [hlen] at hn
  refine hn hg ?_ ?_
  ·rw [Array.size_append,size_zeroCells]
   simp [Value.cells]
   omega
  ·rw [Array.toList_append,List.take_left' (by simp),List.take_length,List.drop_length]
   simp
 rcases h.2 with ⟨rfl,h0⟩|⟨g,cap,cur,hv0,_⟩
 ·exact endgrow none 0 (by rw [h0]) (by omega) (by omega) (by omega) (fun _=>h0) (fun a e=>by cases e)
 ·subst hv0
  obtain ⟨_,hBg,hgl,hnc,hcm,hrow,hc⟩:=h.cells
  have hgb:vb≠g:=fun e=>hne (by rw [e];rfl)
  have hcs:∀ (j:Nat) (u:Value),(l.map Value.string)[j]? = some u→w.cell? ⟨g,0+j,none⟩=some u:=fun j u hu=>by
   rw [List.getElem?_map,Option.map_eq_some_iff] at hu
   obtain ⟨y,hy,rfl⟩:=hu
   rw [Nat.zero_add]
   exact hc j y hy
  have hrow0:=hrow
  obtain ⟨cs,hh,hsz,_⟩:=hrow0
  have hfr:∀ j,w.frozen? ⟨g,j,none⟩=false:=fun j=>Qe3 hh
  have hcv:cap≤9223372036854775807:=by unfold maxLen at hcm;omega
  by_cases hin:i=l.length
  ·by_cases hroom:l.length+1≤cap
   ·subst hin
    refine (Any2.slices_Insert_string_end_room Qmu g 0 l.length cap vb 0 1 1 [.string x] w (by decide) hroom hcv rfl (fun j hj=>?_) (fun j _=>hfr _) hvs h1v).mono ?_
    ·rw [Nat.zero_add,hrow.cell (by omega)]
     rfl
    rintro e w' ⟨rfl,rfl⟩
    refine ⟨_,rfl,?_,_root_.Go.below_setCells hBg _ _ _ (xC _ _)⟩
    have hr:=rowIs_setCells [Value.string x] l.length w _ hrow
    rw [Nat.zero_add]
    have hn:=fun h1 h2=>NRow.of_row (l:=l.take l.length ++ x :: l.drop l.length) hBg h1 hcm hr h2
    rw [hlen] at hn
    refine hn hroom (fun j y hy=>?_)
    rcases Qub (xA _) hy with ⟨a,b⟩|⟨rfl,rfl⟩|⟨a,b⟩
    ·rw [xN (by omega),hc j y b]
     rfl
    ·rw [xO (by simp),Nat.sub_self]
     rfl
    ·have:=(xP.1 b).1
     omega
   ·exact endgrow _ cap rfl hnc (by omega) hin (fun e=>by cases e) (fun a ha j u hu=>by
     injection ha with ha
     subst ha
     rw [Addr.add_lit]
     exact hcs j u hu)
  ·by_cases hroom:l.length+1≤cap
   ·refine (Any2.slices_Insert_string_shift Qmu g 0 l.length cap i vb 0 1 1 (l.map Value.string) [.string x] w (by omega) (by decide) hroom hcv hgb (by rw [List.length_map]) rfl hcs (fun j hj=>?_) (fun j _=>hfr _) hvs (Qcu l) h1v 9 9 1 cap (by simp [World.shape?,hv]) (by simp [World.shape?,hh,hsz]) (by omega) (Qe3 hv) (Qe3 hv)).mono ?_
    ·rw [Nat.zero_add,hrow.cell (by omega)]
     rfl
    rintro e w' ⟨rfl,rfl⟩
    refine ⟨_,rfl,?_,_root_.Go.below_setCells hBg _ _ _ (_root_.Go.below_setCells hBg _ _ _ (Qix B w 1))⟩
    have hr:=rowIs_setCells [Value.string x] i _ _ (rowIs_setCells ((l.map Value.string).drop i) (i+1) w.drew _ (show w.drew.rowIs g 9 cap _ from hrow))
    rw [Nat.zero_add,Nat.zero_add]
    have hn:=fun h1 h2=>NRow.of_row (l:=l.take i ++ x :: l.drop i) hBg h1 hcm hr h2
    rw [hlen] at hn
    refine hn hroom (fun j y hy=>(Qxk (f:=fun j=>(w.cell? ⟨g,j,none⟩).getD default) hi (fun j y _ hj=>by show (w.cell? ⟨g,j,none⟩).getD default=_;rw [hc j y hj];rfl) hy).1)
   ·refine (Any2.slices_Insert_string_grow Qmu g 0 l.length cap i vb 0 1 1 (l.map Value.string) [.string x] w (by omega) (by decide) hnc (by omega) (by omega) (by rw [List.length_map]) rfl hcs hvs (Qcu l) h1v).mono ?_
    rintro e w' ⟨rfl,rfl⟩
    have hg:=grownCap_ge w (l.length+1) cap 9
    have hm:=grownCap_le_maxLen w (l.length+1) cap 9 (by unfold maxLen;omega)
    refine ⟨_,rfl,?_,_root_.Go.below_setCells hB _ _ _ ((_root_.Go.below_setCells hB _ _ _ (((Qaf w _).mono hB).trans (Qix B _ 1))).trans (Qix B _ 1))⟩
    have hr0:(w.alloc (.cells (((l.map Value.string).take i).toArray ++ Builtin.zeroCells (Value.string ⟨#[]⟩).cells (l.length+1-i) ++ Builtin.zeroCells (Value.string ⟨#[]⟩).cells (grownCap w (l.length+1) cap 9-(l.length+1))) 9)).rowIs w.heap.size 9 (grownCap w (l.length+1) cap 9) (fun j=>((((l.map Value.string).take i).toArray ++ Builtin.zeroCells (Value.string ⟨#[]⟩).cells (l.length+1-i) ++ Builtin.zeroCells (Value.string ⟨#[]⟩).cells (grownCap w (l.length+1) cap 9-(l.length+1)))[j]?).getD default):=by
     have hsz1:(((l.map Value.string).take i).toArray ++ Builtin.zeroCells (Value.string ⟨#[]⟩).cells (l.length+1-i) ++ Builtin.zeroCells (Value.string ⟨#[]⟩).cells (grownCap w (l.length+1) cap 9-(l.length+1))).size=grownCap w (l.length+1) cap 9:=by
      rw [Array.size_append,Array.size_append,size_zeroCells,size_zeroCells]
      simp [Value.cells]
      omega
     refine ⟨_,xH w _,hsz1,fun j hj=>?_⟩
     dsimp only
     rw [Array.getElem?_eq_getElem (by rw [hsz1];exact hj)]
     rfl
    obtain ⟨W0,hW0⟩:∃ W0,W0=w.alloc (.cells (((l.map Value.string).take i).toArray ++ Builtin.zeroCells (Value.string ⟨#[]⟩).cells (l.length+1-i) ++ Builtin.zeroCells (Value.string ⟨#[]⟩).cells (grownCap w (l.length+1) cap 9-(l.length+1))) 9):=⟨_,rfl⟩
    rw [←hW0] at hr0
    rw [show (insRen.t 9)=9 from rfl,←hW0]
    have hr:=rowIs_setCells ((l.map Value.string).drop i) (i+1) (W0.drew.setCells w.heap.size i [Value.string x]).drew _ (show (W0.drew.setCells w.heap.size i [Value.string x]).drew.rowIs w.heap.size 9 _ _ from rowIs_setCells [Value.string x] i W0.drew _ (show W0.drew.rowIs w.heap.size 9 _ _ from hr0))
    have hn:=fun h1 h2=>NRow.of_row (l:=l.take i ++ x :: l.drop i) hB h1 hm hr h2
    rw [hlen] at hn
    refine hn hg (fun j y hy=>(Qxk (f:=fun j=>((((l.map Value.string).take i).toArray ++ Builtin.zeroCells (Value.string ⟨#[]⟩).cells (l.length+1-i) ++ Builtin.zeroCells (Value.string ⟨#[]⟩).cells (grownCap w (l.length+1) cap 9-(l.length+1)))[j]?).getD default) hi (fun j y hji hj=>?_) hy).2)
    show ((((l.map Value.string).take i).toArray ++ Builtin.zeroCells (Value.string ⟨#[]⟩).cells (l.length+1-i) ++ Builtin.zeroCells (Value.string ⟨#[]⟩).cells (grownCap w (l.length+1) cap 9-(l.length+1)))[j]?).getD default=_
    have hjl:j<((l.map Value.string).take i).length:=by rw [List.length_take,List.length_map];omega
    rw [Array.getElem?_append_left (by rw [Array.size_append,List.size_toArray];omega),Array.getElem?_append_left (by rw [List.size_toArray];exact hjl),List.getElem?_toArray,List.getElem?_take_of_lt hji,List.getElem?_map,hj]
    rfl
end Go.Proofs.YtjidpkcjpgdafaaGreat
