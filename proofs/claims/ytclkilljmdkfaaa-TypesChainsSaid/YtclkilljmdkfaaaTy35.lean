/- Part 35: Pairs of numbers in memory: rows of them, a map from pairs to pairs; whether a pair is in a row. -/
import Derived.Test.YtclkilljmdkfaaaTy1
import Derived.Test.YtclkilljmdkfaaaTy30
import Derived.Test.YtclkilljmdkfaaaTy32
import Derived.Laws.StructEq
import Derived.Maps.OwnSet
import Derived.DeepKeys4
import Derived.Deep.QuietTactic
import Derived.BigQuiet
set_option maxRecDepth 100000
set_option maxHeartbeats 4000000
namespace Go.Proofs.Ytclkilljmdkfaaa
open Go.RowKit Go.Shelf
open Go.Maps (Keyed)
open Go.WideMaps (KeyLaw)
abbrev Pr:=Int × Int
theorem Qbk (w:World) (o:Obj):Below w.heap.size w (w.alloc o):=(xC w.heap.size w).alloc (xA _) o
def prC (a:Pr):List Value:=[.int .i64 a.1,.int .i64 a.2]
def Qdp (l:List Pr):List Value:=l.flatMap prC
theorem prCells_append (a b:List Pr):Qdp (a ++ b) = Qdp a ++ Qdp b:=by unfold Qdp;rw [List.flatMap_append]
theorem prCells_get:{l:List Pr} → {j:Nat} → {y:Pr} → l[j]? = some y → (Qdp l)[j * 2]? = some (.int .i64 y.1) ∧ (Qdp l)[j * 2 + 1]? = some (.int .i64 y.2)
 | [],_,_,h=>by simp at h
 | u :: r,0,y,h=>by
  injection h with h
  subst h
  exact ⟨rfl,rfl⟩
 | u :: r,j + 1,y,h=>by
  have ih:=prCells_get (l:=r) (j:=j) (y:=y) h
  have hs:∀ k,(Qdp (u :: r))[(j + 1) * 2 + k]? = (Qdp r)[j * 2 + k]?:=fun k=>by
   unfold Qdp
   rw [List.flatMap_cons,show (j + 1) * 2 + k = j * 2 + k + 2 from by omega,List.getElem?_append_right (by simp [prC])]
   simp [prC]
  exact ⟨(hs 0).trans ih.1,(hs 1).trans ih.2⟩
theorem pr_info:(Try.prog.info? 52).map (fun i=>(i.zero,i.size,i.bytes)) = some (some (.agg #[.int .i64 0,.int .i64 0]),2,16):=by kernel_rfl
def prO (a:Pr):Obj:=.cells #[.int .i64 a.1,.int .i64 a.2] 52
def QRow (w:World) (B:Nat) (v:Value) (l:List Pr):Prop:=w.ownsRow B 52 2 v l.length (Qdp l)
theorem QRow.nil (w:World) (B:Nat):QRow w B (.slice none 0 0) []:=World.ownsRow_nil _ _ _ _
theorem QRow.keep {w w':World} {B:Nat} {v:Value} {l:List Pr} (h:QRow w B v l) (hb:Below w.heap.size w w'):QRow w' B v l:=(Keeps.of_below (P:=fun _=>none) hb).row h fun _ _=>.inl rfl
theorem QRow.at {w:World} {B c:Nat} {A:Option Addr} {l:List Pr} (h:QRow w B (.slice A l.length c) l) {j:Nat} {y:Pr} (hy:l[j]? = some y):∃ g,A = some ⟨g,0,none⟩ ∧ B ≤ g ∧ g < w.heap.size ∧ w.cell? ⟨g,j * 2,none⟩ = some (.int .i64 y.1) ∧ w.cell? ⟨g,j * 2 + 1,none⟩ = some (.int .i64 y.2):=by
 have hj:=(List.getElem?_eq_some_iff.1 hy).1
 obtain ⟨g,cap,e,hg,hlt⟩:=World.ownsRow.form h (by omega)
 injection e with e _ _
 subst e
 have hc:=World.ownsRow.cells h (g:=g) rfl
 obtain ⟨q0,q1⟩:=prCells_get hy
 have e0:=hc _ _ q0
 have e1:=hc _ _ q1
 rw [Addr.add_lit] at e0 e1
 simp only [Nat.zero_add] at e0 e1
 exact ⟨g,rfl,hg,hlt,e0,e1⟩
theorem pr_under:Try.prog.underlying 52 = some (.struct (Try.prog.fieldsOf 52)):=by kernel_rfl
theorem pr_stood:Try.prog.stoodInHeld 52 = false:=by kernel_rfl
theorem pr_guard:Try.prog.eqGuardType Try.prog.depth 52 = false:=by kernel_rfl
theorem prt_0 (x y:Value) (w:World):(part 3 #[x,y] 0).run Try.prog w = .ok x w:=by
 simp [part,isAgg,run_underlying Try.underlying3]
theorem prt_1 (x y:Value) (w:World):(part 3 #[x,y] 1).run Try.prog w = .ok y w:=by
 simp [part,isAgg,run_underlying Try.underlying3]
theorem pr_equal (a b c d:Int) (w:World):(Op.equalIn 10000 52 (.agg #[.int .i64 a,.int .i64 b]) (.agg #[.int .i64 c,.int .i64 d])).run Try.prog w = .ok (a == c && b == d) w:=by
 rw [run_equalIn_agg w 9999 52 _ _ pr_under pr_stood]
 simp only [Program.fieldsOf,Try.underlying52,Op.eqFields,Sem.run_bind,Sem.run_ite,Sem.run_pure]
 have n1:("module" ≠ "_") = True:=by simp
 have n2:("def" ≠ "_") = True:=by simp
 simp only [n1,n2,if_true,prt_0,prt_1,Result.andThen_ok,run_equalIn_int _ 9998 3 _ _ _ _ Try.underlying3]
 cases h1:(a == c) <;> cases h2:(b == d) <;> simp
theorem pr_eql (a b c d:Int) (w:World):(binOp .eql 52 (.agg #[.int .i64 a,.int .i64 b]) (.agg #[.int .i64 c,.int .i64 d])).run Try.prog w = .ok (.bool (a == c && b == d)) w:=by
 rw [run_eql_struct,pr_equal]
 rfl
def NotIn (l:List Pr) (a:Pr) (k:Nat):Prop:=∀ (j:Nat) (y:Pr),j < k → l[j]? = some y → y ≠ a
theorem notin_more {l:List Pr} {a y:Pr} {k:Nat} (h:NotIn l a k) (hy:l[k]? = some y) (hne:y ≠ a):NotIn l a (k + 1):=fun j z hj hz=>by
 by_cases e:j = k
 ·subst e
  rw [hy] at hz
  injection hz with hz
  rw [← hz]
  exact hne
 ·exact h j z (by omega) hz
theorem notin_end {l:List Pr} {a:Pr} (h:NotIn l a l.length):a ∉ l:=fun hm=>by
 obtain ⟨j,hj,e⟩:=List.getElem_of_mem hm
 exact h j _ hj (xF hj) e
theorem pr_eqB {a b c d:Int} (h:(a,b) ≠ (c,d)):(c == a && d == b) = false:=by
 cases h1:(c == a)
 ·rfl
 ·cases h2:(d == b)
  ·rfl
  ·exact absurd (by rw [eq_of_beq h1,eq_of_beq h2]) h
theorem index_pr (B c:Nat) (A:Option Addr) (l:List Pr) (x y:Int) (w:World) (h:QRow w B (.slice A l.length c) l) (hl:l.length ≤ 1000000) :
  Calls Try.prog 33 #[.slice A l.length c,.agg #[.int .i64 x,.int .i64 y]] w fun e w'=>∃ i:Int,e = .returned (.int .i64 i) ∧ (0 ≤ i ↔ (x,y) ∈ l) ∧ Below w.heap.size w w':=by
 have HBA:=hQ (Qbk w (prO (x,y)))
 have HX:=xH w (prO (x,y))
 have HR:=hQ (h.keep HBA.out)
 clear h
 go_enter Try.func33,Try.ntmps33
 go_wp2
 go_loopw [8] (fun i wr=>∃ (k n:Nat),i = .int .i64 k ∧ k ≤ l.length ∧ Hid (NotIn l (x,y) k) ∧ wr = (w.alloc (prO (x,y))).drewN n) (fun i _=>l.length - (intOf i).toNat)
 case atStart=>exact ⟨0,0,rfl,Nat.zero_le _,hQ fun j z hj=>absurd hj (by omega),rfl⟩
 case round =>
  obtain ⟨k,n,rfl,hk,hn,rfl⟩:=hrel
  have HN:=hn
  clear hn
  have b0:(w.alloc (prO (x,y))).cell? ⟨w.heap.size,0,none⟩ = some (.int .i64 x):=Qaa HX 0 _ rfl
  have b1:(w.alloc (prO (x,y))).cell? ⟨w.heap.size,1,none⟩ = some (.int .i64 y):=Qaa HX 1 _ rfl
  by_cases hlt:k < l.length
  ·obtain ⟨z,hz⟩:∃ z,l[k]? = some z:=⟨_,xF hlt⟩
   obtain ⟨g,rfl,_,gl,c0,c1⟩:=HR.out.at hz
   have HZ:=hQ hz
   obtain ⟨z1,z2⟩:=z
   simp only at c0 c1
   have hk0:(0:Int) ≤ (k:Int):=by omega
   have hk1:(k:Int) < (l.length:Int):=by omega
   have hk2:(k:Int) + 1 ≤ 1000001:=by omega
   have hG:=fun (w:World) (p q:Operand)=>run_eqGuard_agg w .eql 52 p q #[.int .i64 x,.int .i64 y] #[.int .i64 z1,.int .i64 z2] pr_guard
   have hE:=fun (w:World)=>pr_eql x y z1 z2 w
   clear hz HX
   by_cases he:(z1,z2) = (x,y)
   ·have HM:=hQ (show (x,y) ∈ l from he ▸ List.mem_of_getElem? HZ.out)
    have hq:(x == z1 && y == z2) = true:=by injection he with e1 e2;subst e1 e2;simp
    clear he
    go_wp2_with fail
    go_quiet (fail)
    go_wp2
    go_ret
    exact ⟨k,rfl,⟨fun _=>HM.out,fun _=>by omega⟩,below_drewN (below_drewN HBA.out _) _⟩
   ·have HS:=hQ (notin_more HN.out HZ.out he)
    have hq:=pr_eqB he
    clear he
    go_wp2_with fail
    go_quiet (fail)
    go_wp2
    go_roundw
    case rel=>exact ⟨k + 1,_,by go_num,by omega,HS,rfl⟩
    case measure=>simp [intOf];omega
  ·obtain rfl:k = l.length:=by omega
   have HM:=hQ (notin_end HN.out)
   clear HX
   go_wp2
   go_ret
   exact ⟨-1,rfl,⟨fun h=>absurd h (by decide),fun h=>absurd h HM.out⟩,below_drewN HBA.out _⟩
theorem Qdh (B c:Nat) (A:Option Addr) (l:List Pr) (x y:Int) (w:World) (h:QRow w B (.slice A l.length c) l) (hl:l.length ≤ 1000000) :
  Calls Try.prog 19 #[.slice A l.length c,.agg #[.int .i64 x,.int .i64 y]] w fun e w'=>e = .returned (.bool (decide ((x,y) ∈ l))) ∧ Below w.heap.size w w':=by
 have HBA:=hQ (Qbk w (prO (x,y)))
 have HC:=hQ (index_pr B c A l x y (w.alloc (prO (x,y))) (h.keep HBA.out) hl)
 have HX:=xH w (prO (x,y))
 have b0:(w.alloc (prO (x,y))).cell? ⟨w.heap.size,0,none⟩ = some (.int .i64 x):=Qaa HX 0 _ rfl
 have b1:(w.alloc (prO (x,y))).cell? ⟨w.heap.size,1,none⟩ = some (.int .i64 y):=Qaa HX 1 _ rfl
 clear h HX
 go_enter Try.func19,Try.ntmps19
 go_wp2_with (go_at_call 33;refine HC.out.mono ?_;rintro e w1 ⟨i,rfl,hi,hb⟩;have HI:=hQ hi;have HB1:=hQ (HBA.out.trans (hb.mono HBA.out.size));clear hi hb)
 go_ret
 exact ⟨Qfa (decide_eq_decide.2 HI.out),HB1.out⟩
def prR:Value → Option (DataW Unit × List MemPlace)
 | .agg cs=>match cs.toList with
  | [.int .i64 a,.int .i64 b]=>some (.agg [.lit (.int .i64 a),.lit (.int .i64 b)],[])
  | _=>none
 | _=>none
def prD (a b:Int):DataW Unit:=.agg [.lit (.int .i64 a),.lit (.int .i64 b)]
theorem prR_mk (a b:Int):prR (.agg #[.int .i64 a,.int .i64 b]) = some (prD a b,[]):=rfl
theorem prR_inv {v:Value} {a b:Int} {ps:List MemPlace} (h:prR v = some (prD a b,ps)):v = .agg #[.int .i64 a,.int .i64 b]:=by
 unfold prR at h
 split at h
 ·rename_i cs
  split at h
  ·rename_i x y hc
   injection h with h
   injection h with h _
   unfold prD at h
   simp at h
   obtain ⟨rfl,rfl⟩:=h
   obtain ⟨l⟩:=cs
   simp at hc
   rw [hc]
  ·cases h
 ·cases h
def keyL (a b:Int):Lit:=.string (keyBytes [.int .i64 a,.int .i64 b])
theorem pr_laid:laidOutB Try.prog = true:=by kernel_rfl
theorem pr_row:(52:TypeId) < Try.prog.types.size:=of_decide_eq_true (by kernel_rfl)
theorem pr_wide:(match Try.prog.underlying 52 with | some (.array _ _) | some (.struct _)=>true | _=>false) = true:=by kernel_rfl
theorem prLaw:Keyed Try.prog 52:=Keyed.of_law (deep_law_laid pr_laid (m:=2) (by omega) pr_row (by kernel_rfl) pr_wide)
theorem pr_zero (w:World):(zeroValue 52).run Try.prog w = .ok (.agg #[.int .i64 0,.int .i64 0]) w:=by kernel_rfl
abbrev W64 (a:Int):Prop:=(Lit.int .i64 a).wf = true
theorem pr_keyOf {a b:Int} (wa:W64 a) (wb:W64 b):keyOf Try.prog 52 (.agg #[.int .i64 a,.int .i64 b]) = some (keyL a b):=by
 have hc:Try.prog.cellsOf 52 = 2:=by kernel_rfl
 have hi:Try.prog.cellsOf 3 = 1:=by kernel_rfl
 have hkt:Try.prog.keyType 52 = true:=by kernel_rfl
 obtain ⟨m,hm⟩:∃ m,Try.prog.types.size = m + 1:=Nat.exists_eq_succ_of_ne_zero (Nat.ne_of_gt (Nat.lt_of_le_of_lt (Nat.zero_le _) pr_row))
 unfold keyOf
 simp only [Try.underlying52]
 rw [if_pos (by simp [hkt,Value.formed,Try.underlying52,hc]),hm]
 unfold Program.keyLits
 simp only [Try.underlying52,Value.cells]
 rw [if_pos ⟨by rw [hc];rfl,by simp⟩]
 simp [hi,Program.keyLits,Try.underlying3,wa,wb,keyL]
theorem keyL_inj {a b c d:Int} (wa:W64 a) (wb:W64 b) (wc:W64 c) (wd:W64 d) (h:keyL a b = keyL c d):a = c ∧ b = d:=by
 have:=prLaw.inj (pr_keyOf wa wb) (h ▸ pr_keyOf wc wd)
 simp at this
 exact this
theorem keyL_key {a b:Int} (wa:W64 a) (wb:W64 b):WideAt.IsKeyLit (keyL a b):=prLaw.key (pr_keyOf wa wb)
def AMap (w:World) (b n:Nat) (f:Pr → Option Pr):Prop:=∃ D:DataW Unit,w.ownsMap Try.prog 52 prR b n D ∧ ∀ i j:Int,W64 i → W64 j → Maps.has D (keyL i j) = (f (i,j)).isSome ∧ ∀ r:Pr,f (i,j) = some r → D.atKey (keyL i j) (prD 0 0) = prD r.1 r.2
def updF (f:Pr → Option Pr) (k r:Pr):Pr → Option Pr:=fun x=>if x = k then some r else f x
theorem AMap.made (w:World):AMap (w.alloc (.map #[] 0)) w.heap.size 0 fun _=>none:=⟨.map [],World.ownsMap_made _ _ _ _,fun _ _ _ _=>⟨rfl,fun r h=>by cases h⟩⟩
theorem AMap.mono {w:World} {b n m:Nat} {f:Pr → Option Pr} (h:AMap w b n f) (hn:n ≤ m):AMap w b m f:=by
 obtain ⟨D,h1,h2⟩:=h
 exact ⟨D,h1.mono hn,h2⟩
theorem AMap.lt {w:World} {b n:Nat} {f:Pr → Option Pr} (h:AMap w b n f):b < w.heap.size:=by
 obtain ⟨D,h1,_⟩:=h
 exact h1.lt
theorem AMap.keep {w w':World} {b n:Nat} {f:Pr → Option Pr} (h:AMap w b n f) (hb:w'.heap[b]? = w.heap[b]?):AMap w' b n f:=by
 obtain ⟨D,⟨es,ck,q1,q2⟩,h2⟩:=h
 exact ⟨D,⟨es,ck,hb.trans q1,q2⟩,h2⟩
theorem AMap.below {w w':World} {b n:Nat} {f:Pr → Option Pr} (h:AMap w b n f) (hb:Below w.heap.size w w'):AMap w' b n f:=h.keep (hb.block b h.lt)
theorem wp_amap_put {w:World} {o:Oper} {a:Act} {K:Act → World → Prop} {Q:Exit → Act → World → Prop} (m x v:Operand) (hop:o.op = Op.mapUpdate 53 m x v) (b n:Nat) (f:Pr → Option Pr) (hm:a.eval m = .map (some b)) (h:AMap w b n f) (hn:n < maxLen)
  (i j c d:Int) (hx:a.eval x = .agg #[.int .i64 i,.int .i64 j]) (hv:a.eval v = .agg #[.int .i64 c,.int .i64 d]) (wi:W64 i) (wj:W64 j)
  (hK:∀ w',AMap w' b (n + 1) (updF f (i,j) (c,d)) → w.grownBy w' (some b) → K (a.put o.dst undef) w'):o.wp Try.prog a w K Q:=by
 obtain ⟨D,hown,hf⟩:=h
 obtain ⟨w',hrun,r1,r2⟩:=hown.update prLaw Try.underlying53 hn (pr_keyOf wi wj) (prR_mk c d)
 unfold Oper.wp
 simp [execOp,hop,hm,hx,hv,hrun,Result.andThen]
 refine hK w' ⟨_,r1,fun p q wp wq=>?_⟩ r2
 by_cases e:(p,q) = (i,j)
 ·injection e with e1 e2
  subst e1 e2
  refine ⟨by rw [Maps.has_put_same hown.isMap (keyL_key wi wj)];unfold updF;rw [if_pos rfl];rfl,fun r hr=>?_⟩
  unfold updF at hr
  rw [if_pos rfl] at hr
  injection hr with hr
  subst hr
  exact Maps.atKey_put_same hown.isMap (keyL_key wi wj) _ _
 ·have hne:keyL p q ≠ keyL i j:=fun h=>e (by obtain ⟨e1,e2⟩:=keyL_inj wp wq wi wj h;rw [e1,e2])
  have hu:updF f (i,j) (c,d) (p,q) = f (p,q):=by unfold updF;rw [if_neg e]
  rw [hu,Maps.has_put_other hne,Maps.atKey_put_other hne]
  exact hf p q wp wq
theorem wpList_amap_put {w:World} {ops:Array Oper} {rest:List Oper} {o:Oper} {a:Act} {Q:Exit → Act → World → Prop} (hg:o.guard = none) (m x v:Operand) (hop:o.op = Op.mapUpdate 53 m x v) (b n:Nat) (f:Pr → Option Pr) (hm:a.eval m = .map (some b)) (h:AMap w b n f) (hn:n < maxLen)
  (i j c d:Int) (hx:a.eval x = .agg #[.int .i64 i,.int .i64 j]) (hv:a.eval v = .agg #[.int .i64 c,.int .i64 d]) (wi:W64 i) (wj:W64 j)
  (hK:∀ w',AMap w' b (n + 1) (updF f (i,j) (c,d)) → w.grownBy w' (some b) → wpList Try.prog ops Q rest (a.put o.dst undef) w'):wpList Try.prog ops Q (o :: rest) a w :=
 wpList_plain hg fun _ hKK=>wp_amap_put m x v hop b n f hm h hn i j c d hx hv wi wj fun w' q1 q2=>hKK _ _ (hK w' q1 q2)
def lookF (f:Pr → Option Pr) (a:Pr):Pr:=(f a).getD (0,0)
theorem Qdq {w:World} {ops:Array Oper} {rest:List Oper} {o:Oper} {a:Act} {Q:Exit → Act → World → Prop} (hg:o.guard = none) (m x:Operand) (hop:o.op = Op.lookup 53 m x true) (b n:Nat) (f:Pr → Option Pr) (hm:a.eval m = .map (some b)) (h:AMap w b n f)
  (i j:Int) (hx:a.eval x = .agg #[.int .i64 i,.int .i64 j]) (wi:W64 i) (wj:W64 j)
  (hK:wpList Try.prog ops Q rest (a.put o.dst (.tuple #[.agg #[.int .i64 (lookF f (i,j)).1,.int .i64 (lookF f (i,j)).2],.bool (f (i,j)).isSome])) w):wpList Try.prog ops Q (o :: rest) a w:=by
 obtain ⟨D,hown,hf⟩:=h
 obtain ⟨f1,f2⟩:=hf i j wi wj
 refine wpList_lookup_own_ok w hg m x _ hop 52 52 prLaw Try.underlying53 prR (pr_zero w) (prD 0 0) [] (prR_mk 0 0) b n D hm hown _ (keyL i j) hx (pr_keyOf wi wj) fun v ps hv=>?_
 rw [f1]
 have e:v = .agg #[.int .i64 (lookF f (i,j)).1,.int .i64 (lookF f (i,j)).2]:=by
  cases hr:f (i,j) with
  | none =>
   rw [hr] at f1
   rw [Maps.atKey_of_not_has (by rw [f1];rfl)] at hv
   rw [prR_inv hv]
   unfold lookF
   rw [hr]
   rfl
  | some r =>
   rw [f2 r hr] at hv
   rw [prR_inv hv]
   unfold lookF
   rw [hr]
   rfl
 rw [e]
 exact hK
end Go.Proofs.Ytclkilljmdkfaaa
