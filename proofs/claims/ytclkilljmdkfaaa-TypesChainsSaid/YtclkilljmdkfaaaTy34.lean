/- Part 34: Plain: a program with the same definitions, in which types have no lists and functions are empty; trees in rows of the call's own. -/
import Derived.Test.YtclkilljmdkfaaaTy1
import Derived.Test.YtclkilljmdkfaaaTy33
import Derived.Test.YtclkilljmdkfaaaTy30
import Derived.Test.YtclkilljmdkfaaaTy31
set_option maxRecDepth 100000
set_option maxHeartbeats 4000000
namespace Go.Proofs.Ytclkilljmdkfaaa
open Go.RowKit Go.Shelf
def Qfh (d:Tr):Tr:=.mk d.kind d.text [] (if d.kind = 3 then [Qa2 ((d.kids[0]?).getD noTr)] else [Qcs 5,Qcs 15])
def outM (t:Tr):Tr:=.mk t.kind t.text [] (t.kids.map Qfh)
def Qfi (ps:List Tr):List Tr:=ps.map outM
theorem outP_get {ps:List Tr} {m:Nat}:(Qfi ps)[m]? = (ps[m]?).map outM:=List.getElem?_map
theorem Qb6 (w:World) (a b:Obj):((w.alloc a).alloc b).heap[w.heap.size]? = some a ∧ ((w.alloc a).alloc b).heap[w.heap.size + 1]? = some b :=
 ⟨(((xC (w.alloc a).heap.size _).alloc (xA _) _).block w.heap.size (by simp)).trans (xH w _),by rw [← xI w a];exact xH _ _⟩
theorem Qcl (w:World) (a b:Obj):Below w.heap.size w ((w.alloc a).alloc b):=((xC w.heap.size w).alloc (xA _) _).alloc (by rw [xI];omega) _
theorem Qdy {ps:List Tr} {j:Nat} {t:Tr} (h:Qbv ps = true) (ht:ps[j]? = some t):t.kind = 1 ∧ Qai t = true:=by
 unfold Qbv at h
 rw [List.all_eq_true] at h
 have:=h t (List.mem_of_getElem? ht)
 simp at this
 exact this
def OT (w:World) (B0 lo:Nat) (l:Value) (ts:List Tr):Prop:=∃ vs:List TV,vs.length = ts.length ∧ w.ownsRow lo 27 4 l ts.length (Qaf vs) ∧
 ∀ (i:Nat) (k:Tr) (u:TV),ts[i]? = some k → vs[i]? = some u → TrAt (fun b=>(b < B0 ∨ lo ≤ b) ∧ b < w.heap.size ∧ l.ownBlock ≠ some b) w k u
theorem OT.nil (w:World) (B0 lo:Nat):OT w B0 lo (.slice none 0 0) []:=⟨[],rfl,World.ownsRow_nil _ _ _ _,fun i k u h=>by simp at h⟩
theorem OT.empty {w:World} {B0 lo:Nat} {l:Value} (h:w.ownsRow lo 27 4 l 0 []):OT w B0 lo l []:=⟨[],rfl,h,fun i k u h=>by simp at h⟩
theorem OT.keep {w w':World} {B0 lo:Nat} {l:Value} {ts:List Tr} (h:OT w B0 lo l ts) (hs:w.heap.size ≤ w'.heap.size) (hb:∀ b,b < w.heap.size → (b < B0 ∨ lo ≤ b) → w'.heap[b]? = w.heap[b]?):OT w' B0 lo l ts:=by
 obtain ⟨vs,h1,h2,h3⟩:=h
 refine ⟨vs,h1,⟨h2.1,h2.2.imp id fun ⟨g,cap,cur,hv,hB,hh,r⟩=>⟨g,cap,cur,hv,hB,(hb g (Qab hh) (.inr hB)).trans hh,r⟩⟩,fun i k u hk hu=>?_⟩
 exact TrAt.move (fun b hb'=>⟨hb'.1,xE hb'.2.1 hs,hb'.2.2⟩) (fun b hb' hl=>hb b hl hb'.1) _ _ (h3 i k u hk hu)
theorem OT.below {w w':World} {B0 lo:Nat} {l:Value} {ts:List Tr} (h:OT w B0 lo l ts) (hb:Below w.heap.size w w'):OT w' B0 lo l ts:=h.keep hb.size fun b hl _=>hb.block b hl
theorem OT.slice {w:World} {B0 lo:Nat} {l:Value} {ts:List Tr} (h:OT w B0 lo l ts):∃ A c,l = .slice A ts.length c:=by
 obtain ⟨vs,_,h2,_⟩:=h
 exact own_shape h2
theorem OT.lt {w:World} {B0 lo:Nat} {l:Value} {ts:List Tr} (h:OT w B0 lo l ts):∀ b,l.ownBlock = some b → lo ≤ b ∧ b < w.heap.size:=by
 obtain ⟨vs,_,h2,_⟩:=h
 exact h2.lt
theorem OT.snoc {w w':World} {B0 lo g cap:Nat} {l:Value} {ts:List Tr} {vs:List TV} {k:Tr} {y:TV} (h1:vs.length = ts.length) (_hrow:w.ownsRow lo 27 4 l ts.length (Qaf vs))
  (h3:∀ (i:Nat) (k:Tr) (u:TV),ts[i]? = some k → vs[i]? = some u → TrAt (fun b=>(b < B0 ∨ lo ≤ b) ∧ b < w.heap.size ∧ l.ownBlock ≠ some b) w k u)
  (hy:TrAt (fun b=>(b < B0 ∨ lo ≤ b) ∧ b < w.heap.size ∧ l.ownBlock ≠ some b) w k y)
  (ho:w'.ownsRow lo 27 4 (.slice (some ⟨g,0,none⟩) (ts.length + 1) cap) (ts.length + 1) (Qaf vs ++ y.cells)) (hk:Keeps (pre l (ts.length * 4)) w w') (hg:l.ownBlock = some g ∨ w.heap.size ≤ g) :
  OT w' B0 lo (.slice (some ⟨g,0,none⟩) (ts.length + 1) cap) (ts ++ [k]):=by
 have hkeep:∀ (a:Tr) (u:TV),TrAt (fun b=>(b < B0 ∨ lo ≤ b) ∧ b < w.heap.size ∧ l.ownBlock ≠ some b) w a u → TrAt (fun b=>(b < B0 ∨ lo ≤ b) ∧ b < w'.heap.size ∧ (Value.slice (some ⟨g,0,none⟩) (ts.length + 1) cap).ownBlock ≠ some b) w' a u:=fun a u ha =>
  TrAt.move (fun b hb=>⟨hb.1,xE hb.2.1 hk.size,fun e=>by
   have e':g = b:=by simpa [Value.ownBlock] using e
   subst e'
   rcases hg with h | h
   ·exact hb.2.2 h
   ·have:=hb.2.1;omega⟩) (fun b hb hl=>hk.block b hl (Qbr hb.2.2)) _ _ ha
 refine ⟨vs ++ [y],by simp [h1],?_,fun i a u ha hu=>?_⟩
 ·have e:Qaf (vs ++ [y]) = Qaf vs ++ y.cells:=by unfold Qaf;simp
  rw [e,xB,List.length_singleton]
  exact ho
 ·by_cases hi:i < ts.length
  ·rw [List.getElem?_append_left hi] at ha
   rw [List.getElem?_append_left (by rw [h1];exact hi)] at hu
   exact hkeep a u (h3 i a u ha hu)
  ·have hl:=(List.getElem?_eq_some_iff.1 ha).1
   rw [xB,List.length_singleton] at hl
   obtain rfl:i = ts.length:=by omega
   rw [List.getElem?_append_right (xA _),Nat.sub_self] at ha
   rw [← h1,List.getElem?_append_right (xA _),Nat.sub_self] at hu
   injection ha with ha
   injection hu with hu
   subst ha hu
   exact hkeep _ _ hy
theorem node_in {S:Nat → Prop} {g:Nat} {w:World} {ks:List Tr} {us:List TV} (k:Int) (x:ByteArray) (hl:us.length = ks.length) (h:∀ (i:Nat) (a:Tr) (u:TV),ks[i]? = some a → us[i]? = some u → TrAt S w a u)
  (hg:w.heap[g]? = some (.cells (Qaf us).toArray 27 (0,0))) (hS:S g) (n:Nat) (hn:n = us.length):TrAt S w (.mk k x [] ks) ⟨k,x,none,0,0,some ⟨g,0,none⟩,n,n⟩:=by
 subst hn
 unfold TrAt
 refine ⟨rfl,rfl,rfl,hl,fun hne=>absurd rfl hne,fun _=>⟨g,0,rfl,hS,TrsAt.of ks 0 fun i t ht=>?_⟩,xA _,xA _⟩
 have hi:=(List.getElem?_eq_some_iff.1 ht).1
 obtain ⟨u,hu⟩:∃ u,us[i]? = some u:=⟨_,xF (by rw [hl];exact hi)⟩
 obtain ⟨q0,q1,q2,q3⟩:=tvCells_get us i u hu
 have hc:∀ (j:Nat) (x:Value),(Qaf us)[j]? = some x → w.cell? ⟨g,j,none⟩ = some x:=fun j x hx=>Qaa hg j x (by simpa using hx)
 rw [Nat.zero_add]
 exact ⟨u,hc _ _ q0,hc _ _ q1,hc _ _ q2,hc _ _ q3,h i t u ht hu⟩
theorem OT.node {w:World} {B0 lo c:Nat} {A:Option Addr} {ts:List Tr} {S:Nat → Prop} (h:OT w B0 lo (.slice A ts.length c) ts) (k:Int) (x:ByteArray) (hS:∀ b,b < B0 ∨ lo ≤ b → b < w.heap.size → S b):TrAt S w (.mk k x [] ts) ⟨k,x,none,0,0,A,ts.length,c⟩:=by
 obtain ⟨vs,h1,h2,h3⟩:=h
 unfold TrAt
 refine ⟨rfl,rfl,rfl,rfl,fun hne=>absurd rfl hne,fun hne=>?_,xA _,row_cap h2⟩
 obtain ⟨g,cap,hv,hg1,hg2⟩:=World.ownsRow.form h2 (List.length_pos_iff.2 hne)
 injection hv with hv1 hv2 hv3
 subst hv1 hv3
 have hcs:=h2.cells (g:=g) rfl
 have hc:∀ (j:Nat) (x:Value),(Qaf vs)[j]? = some x → w.cell? ⟨g,j,none⟩ = some x:=fun j x hx=>by
  have h:=hcs j x hx
  rw [Addr.add_lit] at h
  simp only [Nat.zero_add] at h
  exact h
 refine ⟨g,0,rfl,hS g (.inr hg1) hg2,TrsAt.of ts 0 fun i t ht=>?_⟩
 obtain ⟨u,hu⟩:∃ u,vs[i]? = some u:=⟨_,xF (by rw [h1];exact (List.getElem?_eq_some_iff.1 ht).1)⟩
 obtain ⟨q0,q1,q2,q3⟩:=tvCells_get vs i u hu
 rw [Nat.zero_add]
 exact ⟨u,hc _ _ q0,hc _ _ q1,hc _ _ q2,hc _ _ q3,TrAt.move (fun b hb=>hS b hb.1 hb.2.1) (fun _ _ _=>rfl) _ _ (h3 i t u ht hu)⟩
theorem map_take {α β:Type} (f:α → β) (l:List α) (j:Nat) (x:α) (h:l[j]? = some x):(l.take (j + 1)).map f = (l.take j).map f ++ [f x]:=by
 rw [List.take_add_one,h,Option.toList_some,List.map_append]
 rfl
end Go.Proofs.Ytclkilljmdkfaaa
