/- Part 1 -/
import Derived.Below
import Derived.Laws.Rows
import Derived.Laws.World
import Derived.Laws.AppendOwn
import Derived.Lib.Hide
import Derived.Lib.Builder
import Derived.Deep.AppendLies
set_option maxRecDepth 100000
set_option maxHeartbeats 4000000
namespace Go.Proofs.YtfjpemdejoejbaaGreat
theorem hQ {p : Prop} (h : p) : Go.RowKit.Hid p := Lib.hid h
open Go.RowKit
theorem xA (n : Nat) : n ≤ n := Nat.le_refl n
theorem xB.{u} {α : Type u} {xs ys : List α} : (xs ++ ys).length = xs.length + ys.length := List.length_append
theorem xC (B : Nat) (w : World) : Below B w w := Below.refl B w
theorem xD.{u} {α : Type u} {a : α} {xs : List α} : (a :: xs).length = xs.length + 1 := List.length_cons
theorem xE {n m k : Nat} : n < m → m ≤ k → n < k := Nat.lt_of_lt_of_le
theorem xF.{u} {α : Type u} {l : List α} {i : Nat} (h : i < l.length) : l[i]? = some l[i] := List.getElem?_eq_getElem h
theorem xG.{u} {α : Type u} : ([] : List α).length = 0 := List.length_nil
theorem xH (w : World) (o : Obj) : (w.alloc o).heap[w.heap.size]? = some o := heap_alloc_new w o
theorem xI (w : World) (o : Obj) : (w.alloc o).heap.size = w.heap.size + 1 := World.size_alloc w o
theorem xJ {w w' : World} {a : Addr} : w'.heap[a.block]? = w.heap[a.block]? → w'.cell? a = w.cell? a := World.cell?_of_block
theorem xK (w : World) (a : Addr) {u : Value} : w.cell? a = some u → a.block < w.heap.size := World.block_lt_of_cell? w a
theorem xL {w : World} {b : Nat} {cs : Array Value} {T : TypeId} (h : w.heap[b]? = some (.cells cs T)) (j : Nat) : w.frozen? ⟨b, j, none⟩ = false := Lib.frozen_of_heap h j
theorem xM {w : World} {B : Nat} {cs : Array Value} {t : TypeId} {fr : Nat × Nat} (h : w.heap[B]? = some (.cells cs t fr)) (j : Nat) (u : Value) (hu : cs.toList[j]? = some u) : w.cell? ((⟨B, 0, none⟩ : Addr).add j) = some u := World.news_of_block h j u hu
theorem xN.{u} {c : Prop} {h : Decidable c} (n : ¬c) {α : Sort u} {t e : α} : (if c then t else e) = e := if_neg n
theorem xO.{u} {c : Prop} {h : Decidable c} (n : c) {α : Sort u} {t e : α} : (if c then t else e) = t := if_pos n
theorem xP.{u} {α : Type u} {i : Nat} {a : α} {l : List α} : l[i]? = some a ↔ ∃ h : i < l.length, l[i] = a := List.getElem?_eq_some_iff
theorem xQ {n m k : Nat} : n ≤ m → m ≤ k → n ≤ k := Nat.le_trans
theorem xR {p : Prop} [Decidable p] : ¬p → decide p = false := decide_eq_false
theorem xS {p : Prop} [Decidable p] : p → decide p = true := decide_eq_true
theorem xT.{u} {α : Type u} (a b c : List α) : a ++ b ++ c = a ++ (b ++ c) := List.append_assoc a b c
theorem xU.{u} {α : Type u} (a : List α) : [] ++ a = a := List.nil_append a
theorem xV.{u} {α : Type u} {a : α} {b c : List α} : a :: b ++ c = a :: (b ++ c) := List.cons_append
theorem xW (n : Nat) : n < n.succ := Nat.lt_succ_self n
theorem xX.{u} {α : Type u} {a b : List α} {i : Nat} (h : a.length ≤ i) : (a ++ b)[i]? = b[i - a.length]? := List.getElem?_append_right h
theorem xY.{u} {α : Type u} {xs : Array α} {i j : Nat} (h : i ≠ j) {a : α} : (xs.setIfInBounds i a)[j]? = xs[j]? := Array.getElem?_setIfInBounds_ne h
theorem xZ (n : Nat) : 0 ≤ n := Nat.zero_le n
theorem yA.{u} {α : Type u} {l : List α} {i : Nat} {a : α} (h : l[i]? = some a) : a ∈ l := List.mem_of_getElem? h
theorem yB.{u} {α : Type u} {a b : List α} {i : Nat} (h : i < a.length) : (a ++ b)[i]? = a[i]? := List.getElem?_append_left h
def Qeo (c:Int):Bool:=c==9 || c==10 || c==13 || c==32
def Qbf (c:Int):Bool:=decide (65≤c) && decide (c≤90)
def Qgv (c:Int):Bool:=decide (97≤c) && decide (c≤122)
def Qai (c:Int):Bool:=Qbf c || Qgv c
def Qbm (c:Int):Bool:=decide (48≤c) && decide (c≤57)
def Qf0 (c:Int):Bool:=Qai c || Qbm c || c==95
def Qe7 (c:Int):Bool:=decide (32≤c) && decide (c≤126)
def Qaq (c:Int):Bool:=Qeo c || (decide (32<c) && decide (c≤126))
theorem Qgx (c:Int):Qaq c=(Qeo c || Qe7 c):=by
 unfold Qaq Qeo Qe7;rw [Bool.eq_iff_iff];simp
 omega
def suf (s:ByteArray) (k:Nat):List UInt8:=s.data.toList.drop k
theorem Qd0 (s:ByteArray) (k:Nat) (h:k<s.size):suf s k=s[k] :: suf s (k+1):=by
 unfold suf;rw [List.drop_eq_getElem_cons (by simpa using h)];rfl
theorem Qkd (s:ByteArray) (k:Nat) (h:s.size≤k):suf s k = []:=by
 unfold suf;exact List.drop_eq_nil_of_le (by simpa using h)
theorem Qb0 (s:ByteArray) (k:Nat):(suf s k).length=s.size-k:=by
 unfold suf;simp
def Qce:Bool→List UInt8→Nat × Bool
 | o,[]=>(0,o)
 | o,c :: r =>
  if Qaq c.toNat then
   if o then ((Qce (c.toNat != 10) r).1+1,(Qce (c.toNat != 10) r).2)
   else if c.toNat=35 then ((Qce true r).1+1,(Qce true r).2)
   else if Qeo c.toNat then ((Qce false r).1+1,(Qce false r).2)
   else (0,false)
  else (0,o)
theorem Qy9 (o:Bool) (l:List UInt8):(Qce o l).1≤l.length:=by
 induction l generalizing o with
 | nil=>simp [Qce]
 | cons c r ih =>
  have h1:=ih (c.toNat != 10);have h2:=ih true;have h3:=ih false;unfold Qce;simp only [xD]
  split
  ·split
   ·simp only [];omega
   ·split
    ·simp only [];omega
    ·split
     ·simp only [];omega
     ·simp
  ·simp
def Qao (s:ByteArray) (i:Nat):Nat:=i+(Qce false (suf s i)).1
def Qd1 (s:ByteArray) (i:Nat):Bool:=(Qce false (suf s i)).2
theorem Qh5 (s:ByteArray) (i:Nat):i≤Qao s i:=by unfold Qao;omega
theorem Qgy (s:ByteArray) (i:Nat) (h:i≤s.size):Qao s i≤s.size:=by
 have:=Qy9 false (suf s i)
 rw [Qb0] at this;unfold Qao;omega
def SkipAt (s:ByteArray) (i k:Nat) (o:Bool):Prop:=i≤k∧k≤s.size∧Qao s i=k+(Qce o (suf s k)).1∧Qd1 s i=(Qce o (suf s k)).2
theorem SkipAt.start (s:ByteArray) (i:Nat) (h:i≤s.size):SkipAt s i i false:=⟨xA _,h,rfl,rfl⟩
section
variable {s:ByteArray} {i k:Nat} {o:Bool}
theorem SkipAt.done (h:SkipAt s i k o) (hk:¬ k<s.size):Qao s i=k∧Qd1 s i=o:=by
 obtain ⟨_,_,h1,h2⟩:=h;rw [Qkd s k (by omega)] at h1 h2;exact ⟨h1,h2⟩
theorem SkipAt.bad (h:SkipAt s i k o) (hk:k<s.size) (ha:Qaq s[k].toNat=false):Qao s i=k∧Qd1 s i=o:=by
 obtain ⟨_,_,h1,h2⟩:=h;rw [Qd0 s k hk] at h1 h2;simp [Qce,ha] at h1 h2
 exact ⟨h1,h2⟩
theorem SkipAt.other (h:SkipAt s i k false) (hk:k<s.size) (ha:Qeo s[k].toNat=false) (hc:s[k].toNat≠35):Qao s i=k∧Qd1 s i=false:=by
 obtain ⟨_,_,h1,h2⟩:=h;rw [Qd0 s k hk] at h1 h2;simp [Qce,ha,hc] at h1 h2
 exact ⟨h1,h2⟩
theorem SkipAt.inside (h:SkipAt s i k true) (hk:k<s.size) (ha:Qaq s[k].toNat=true):SkipAt s i (k+1) (s[k].toNat != 10):=by
 obtain ⟨h0,_,h1,h2⟩:=h;rw [Qd0 s k hk] at h1 h2;simp only [Qce,ha,if_true] at h1 h2;exact ⟨by omega,by omega,by omega,h2⟩
theorem SkipAt.opens (h:SkipAt s i k false) (hk:k<s.size) (hc:s[k].toNat=35):SkipAt s i (k+1) true:=by
 obtain ⟨h0,_,h1,h2⟩:=h;have ha:Qaq ((35:Nat):Int)=true:=by decide
 rw [Qd0 s k hk] at h1 h2;simp only [Qce,hc,ha,if_true,Bool.false_eq_true,if_false] at h1 h2;exact ⟨by omega,by omega,by omega,h2⟩
theorem Qmx {c:Int} (h:Qeo c=true):Qaq c=true:=by unfold Qaq;simp [h]
theorem SkipAt.white (h:SkipAt s i k false) (hk:k<s.size) (ha:Qeo s[k].toNat=true):SkipAt s i (k+1) false:=by
 obtain ⟨h0,_,h1,h2⟩:=h;have hc:s[k].toNat≠35:=by intro e;rw [e] at ha;exact absurd ha (by decide)
 rw [Qd0 s k hk] at h1 h2;simp only [Qce,ha,hc,Qmx ha,if_true,Bool.false_eq_true,if_false] at h1 h2;exact ⟨by omega,by omega,by omega,h2⟩
end
def Qi6 (s:ByteArray) (fin:Bool):Bool:=(Qao s 0==s.size) && (fin || !Qd1 s 0)
theorem Qdf (s:ByteArray) (a b:Nat):suf (s.extract a b) 0=(suf s a).take (b-a):=by
 unfold suf;rw [List.drop_zero,ByteArray.data_extract,Array.toList_extract,List.extract_eq_take_drop]
theorem Qf1 (s:ByteArray) (a:Nat):suf (s.extract a s.size) 0=suf s a:=by
 rw [Qdf,List.take_of_length_le (by rw [Qb0];omega)]
theorem Qd2 (s:ByteArray) (a n:Nat):(suf s a).drop n=suf s (a+n):=by
 unfold suf;rw [List.drop_drop]
def Qc5 (p:Int→Bool):List UInt8→Nat
 | []=>0
 | c :: r=>if p c.toNat then Qc5 p r+1 else 0
theorem Qke (p:Int→Bool) (l:List UInt8):Qc5 p l≤l.length:=by
 induction l with
 | nil=>simp [Qc5]
 | cons c r ih=>unfold Qc5;split <;> simp <;> omega
def RunAt (p:Int→Bool) (s:ByteArray) (i k:Nat):Prop:=i≤k∧k≤s.size∧Qc5 p (suf s i)+i=k+Qc5 p (suf s k)
theorem RunAt.start (p:Int→Bool) (s:ByteArray) (i:Nat) (h:i≤s.size):RunAt p s i i:=⟨xA _,h,by omega⟩
section
variable {p:Int→Bool} {s:ByteArray} {i k:Nat}
theorem RunAt.next (h:RunAt p s i k) (hk:k<s.size) (hp:p s[k].toNat=true):RunAt p s i (k+1):=by
 obtain ⟨h0,_,h1⟩:=h;rw [Qd0 s k hk] at h1;simp only [Qc5,hp,if_true] at h1;exact ⟨by omega,by omega,by omega⟩
theorem RunAt.stop (h:RunAt p s i k) (hk:k<s.size) (hp:p s[k].toNat=false):Qc5 p (suf s i)+i=k:=by
 obtain ⟨h0,_,h1⟩:=h;rw [Qd0 s k hk] at h1;simp only [Qc5,hp] at h1
 simpa using h1
theorem RunAt.done (h:RunAt p s i k) (hk:¬ k<s.size):Qc5 p (suf s i)+i=k:=by
 obtain ⟨h0,_,h1⟩:=h;rw [Qkd s k (by omega)] at h1
 simpa [Qc5] using h1
end
def Qac (l:List UInt8):Nat:=Qc5 Qf0 l
def Qc1 (l:List UInt8):Nat:=Qc5 Qbm l
def reservedWords:List (List UInt8):=[[109,111,100,117,108,101],[100,101,102],[116,121,112,101],[108,101,116],[105,110],[105,102],[116,104,101,110],[101,108,115,101],[116,114,117,101],[102,97,108,115,101],[73,110,116],[84,101,120,116],[66,111,111,108]]
def Qah (l:List UInt8):Bool:=reservedWords.contains l
structure Tk where
 kind:Nat
 n:Nat
 e:Nat
def at' (l:List UInt8) (k:Nat):Nat:=(l.getD k 0).toNat
def Qcn (l:List UInt8) (n:Nat):Tk :=
 if 24<n∨24<Qac (l.drop (n+1)) then ⟨0,0,3⟩
 else if Qah ((l.drop (n+1)).take (Qac (l.drop (n+1)))) then ⟨0,0,2⟩
 else if Qbf (at' l (n+1)) then ⟨4,n+1+Qac (l.drop (n+1)),0⟩
 else ⟨3,n+1+Qac (l.drop (n+1)),0⟩
def Qcl (l:List UInt8):Bool :=
 Qbf (at' l 0) && !Qah (l.take (Qac l)) && decide (Qac l+1<l.length) && at' l (Qac l)==46 && Qai (at' l (Qac l+1))
def Qc2 (l:List UInt8):Tk :=
 if 24<Qac l then ⟨0,0,3⟩
 else if Qah (l.take (Qac l)) then ⟨7,Qac l,0⟩
 else if Qbf (at' l 0) then ⟨2,Qac l,0⟩
 else ⟨1,Qac l,0⟩
def Qcv (l:List UInt8):Tk:=if Qcl l then Qcn l (Qac l) else Qc2 l
def Qhp (l:List UInt8):Tk :=
 if 1<Qc1 l∧at' l 0=48 then ⟨0,0,2⟩
 else if 15<Qc1 l then ⟨0,0,3⟩
 else ⟨5,Qc1 l,0⟩
def Qcf:Nat→List UInt8→Tk
 | _,[]=>⟨0,0,2⟩
 | i,c :: r =>
  if c.toNat=34 then ⟨6,i+1,0⟩
  else if c.toNat=92∨c.toNat=9∨c.toNat=10∨c.toNat=13 then ⟨0,0,2⟩
  else if Qaq c.toNat then Qcf (i+1) r
  else ⟨0,i,1⟩
def Qd4 (c:Int):Bool:=c==40 || c==41 || c==91 || c==93 || c==58 || c==44 || c==43 || c==45 || c==42 || c==60 || c==63
def Qbh (l:List UInt8):Nat :=
 if at' l 0=61 then (if at' l 1=61 then 2 else 1)
 else if Qd4 (at' l 0) then 1 else 0
def Qde (l:List UInt8):Tk:=if Qbh l=0 then ⟨0,0,2⟩ else ⟨8,Qbh l,0⟩
def Qb5 (l:List UInt8):Tk :=
 if Qaq (at' l 0)=false then ⟨0,0,1⟩
 else if Qai (at' l 0) then Qcv l
 else if Qbm (at' l 0) then Qhp l
 else if at' l 0=34 then Qcf 1 (l.drop 1)
 else Qde l
theorem Qhq (s:ByteArray) (a k:Nat) (h:a+k<s.size):at' (suf s a) k=s[a+k].toNat:=by
 unfold at' suf;rw [List.getD_eq_getElem?_getD,List.getElem?_drop,xF (by simpa using h)];rfl
theorem Qhx (l:List UInt8):Qac l≤l.length:=Qke Qf0 l
theorem Qs4 (l:List UInt8):Qc1 l≤l.length:=Qke Qbm l
theorem Qu1 (c:UInt8) (r:List UInt8):at' (c :: r) 0=c.toNat:=rfl
theorem Qgz {l:List UInt8} (h:Qai (at' l 0)=true):0<Qac l:=by
 cases l with
 | nil=>exact absurd h (by decide)
 | cons c r =>
  rw [Qu1] at h;have:Qf0 c.toNat=true:=by unfold Qf0;rw [h];rfl
  unfold Qac;simp [Qc5,this]
theorem Qkf {l:List UInt8} (h:Qbm (at' l 0)=true):0<Qc1 l:=by
 cases l with
 | nil=>exact absurd h (by decide)
 | cons c r =>
  rw [Qu1] at h;unfold Qc1;simp [Qc5,h]
theorem Qkg (l:List UInt8):∀ i,(Qcf i l).e=0→i<(Qcf i l).n∧(Qcf i l).n≤i+l.length:=by
 induction l with
 | nil=>intro i h;simp [Qcf] at h
 | cons c r ih =>
  intro i h;unfold Qcf at h ⊢
  by_cases h1:c.toNat=34
  ·simp only [h1,if_true,xD];omega
  ·simp only [h1,if_false] at h ⊢
   by_cases h2:c.toNat=92∨c.toNat=9∨c.toNat=10∨c.toNat=13
   ·simp [h2] at h
   ·simp only [h2,if_false] at h ⊢
    by_cases h3:Qaq c.toNat=true
    ·simp only [h3,if_true,xD] at h ⊢;have:=ih (i+1) h
     omega
    ·simp [h3] at h
theorem Qza {l:List UInt8} {n:Nat} (hn:n+1<l.length) (h:(Qcn l n).e=0):0<(Qcn l n).n∧(Qcn l n).n≤l.length:=by
 have hm:=Qhx (l.drop (n+1));rw [List.length_drop] at hm;unfold Qcn at h ⊢
 by_cases h1:24<n∨24<Qac (l.drop (n+1))
 ·rw [xO h1] at h;cases h
 ·rw [xN h1] at h ⊢
  by_cases h2:Qah ((l.drop (n+1)).take (Qac (l.drop (n+1))))=true
  ·rw [xO h2] at h;cases h
  ·rw [xN h2]
   by_cases h3:Qbf (at' l (n+1))=true
   ·rw [xO h3];exact ⟨by show 0<n+1+_;omega,by show n+1+_≤_;omega⟩
   ·rw [xN h3];exact ⟨by show 0<n+1+_;omega,by show n+1+_≤_;omega⟩
theorem Qu2 {l:List UInt8} (hw:0<Qac l) (h:(Qc2 l).e=0):0<(Qc2 l).n∧(Qc2 l).n≤l.length:=by
 have hm:=Qhx l;unfold Qc2 at h ⊢
 by_cases h1:24<Qac l
 ·rw [xO h1] at h;cases h
 ·rw [xN h1]
  by_cases h2:Qah (l.take (Qac l))=true
  ·rw [xO h2];exact ⟨hw,hm⟩
  ·rw [xN h2]
   by_cases h3:Qbf (at' l 0)=true
   ·rw [xO h3];exact ⟨hw,hm⟩
   ·rw [xN h3];exact ⟨hw,hm⟩
theorem Zbz {l:List UInt8} (hw:0<Qc1 l) (h:(Qhp l).e=0):0<(Qhp l).n∧(Qhp l).n≤l.length:=by
 have hm:=Qs4 l;unfold Qhp at h ⊢
 by_cases h1:1<Qc1 l∧at' l 0=48
 ·rw [xO h1] at h;cases h
 ·rw [xN h1] at h ⊢
  by_cases h2:15<Qc1 l
  ·rw [xO h2] at h;cases h
  ·rw [xN h2];exact ⟨hw,hm⟩
theorem Qp1 (l:List UInt8):Qbh l≤l.length:=by
 unfold Qbh
 match l with
 | []=>decide
 | [c] =>
  have h1:at' [c] 1=0:=rfl;rw [h1,show [c].length=1 from rfl]
  by_cases h:at' [c] 0=61
  ·rw [xO h]
   decide
  ·rw [xN h]
   by_cases h2:Qd4 (at' [c] 0)=true
   ·rw [xO h2]
    decide
   ·rw [xN h2]
    decide
 | c :: d :: r =>
  simp only [xD]
  by_cases h:at' (c :: d :: r) 0=61
  ·rw [xO h]
   by_cases h2:at' (c :: d :: r) 1=61
   ·rw [xO h2];omega
   ·rw [xN h2];omega
  ·rw [xN h]
   by_cases h2:Qd4 (at' (c :: d :: r) 0)=true
   ·rw [xO h2];omega
   ·rw [xN h2];omega
theorem Qzb {l:List UInt8} (h:(Qde l).e=0):0<(Qde l).n∧(Qde l).n≤l.length:=by
 have hm:=Qp1 l;unfold Qde at h ⊢
 by_cases hz:Qbh l=0
 ·rw [xO hz] at h;cases h
 ·rw [xN hz];exact ⟨by show 0<Qbh l;omega,hm⟩
theorem Qkh {l:List UInt8} (h:(Qb5 l).e=0):0<(Qb5 l).n∧(Qb5 l).n≤l.length:=by
 unfold Qb5 at h ⊢
 by_cases ha:Qaq (at' l 0)=false
 ·rw [xO ha] at h;cases h
 ·rw [xN ha] at h ⊢
  by_cases hl:Qai (at' l 0)=true
  ·rw [xO hl] at h ⊢;unfold Qcv at h ⊢
   by_cases hd:Qcl l=true
   ·rw [xO hd] at h ⊢
    have hlen:Qac l+1<l.length:=by
     unfold Qcl at hd;simp only [Bool.and_eq_true,decide_eq_true_eq] at hd;exact hd.1.1.2
    exact Qza hlen h
   ·rw [xN hd] at h ⊢;exact Qu2 (Qgz hl) h
  ·rw [xN hl] at h ⊢
   by_cases hd:Qbm (at' l 0)=true
   ·rw [xO hd] at h ⊢;exact Zbz (Qkf hd) h
   ·rw [xN hd] at h ⊢
    by_cases h34:at' l 0=34
    ·rw [xO h34] at h ⊢;have:=Qkg (l.drop 1) 1 h
     rw [List.length_drop] at this;cases l with
     | nil=>exact absurd h34 (by decide)
     | cons c r =>
      rw [xD] at this ⊢;omega
    ·rw [xN h34] at h ⊢;exact Qzb h
theorem Qu3 (l:List UInt8):∀ i,(Qcf i l).n≤i+l.length:=by
 induction l with
 | nil=>intro i;exact xZ _
 | cons c r ih =>
  intro i;unfold Qcf;rw [xD]
  by_cases h1:c.toNat=34
  ·rw [xO h1]
   show i+1≤_
   omega
  ·rw [xN h1]
   by_cases h2:c.toNat=92∨c.toNat=9∨c.toNat=10∨c.toNat=13
   ·rw [xO h2];exact xZ _
   ·rw [xN h2]
    by_cases h3:Qaq c.toNat=true
    ·rw [xO h3];have:=ih (i+1)
     omega
    ·rw [xN h3]
     show i≤_
     omega
theorem Qp2 {l:List UInt8} (h:(Qb5 l).e≠0):(Qb5 l).n≤l.length:=by
 unfold Qb5 at h ⊢
 by_cases ha:Qaq (at' l 0)=false
 ·rw [xO ha];exact xZ _
 ·rw [xN ha] at h ⊢
  by_cases hl:Qai (at' l 0)=true
  ·rw [xO hl] at h ⊢;unfold Qcv at h ⊢
   by_cases hd:Qcl l=true
   ·rw [xO hd] at h ⊢;unfold Qcn at h ⊢
    split
    ·exact xZ _
    ·split
     ·exact xZ _
     ·rename_i h1 h2
      rw [xN h1,xN h2] at h
      split at h <;> exact absurd rfl h
   ·rw [xN hd] at h ⊢;unfold Qc2 at h ⊢
    split
    ·exact xZ _
    ·rename_i h1
     rw [xN h1] at h
     split at h
     ·exact absurd rfl h
     ·split at h <;> exact absurd rfl h
  ·rw [xN hl] at h ⊢
   by_cases hd:Qbm (at' l 0)=true
   ·rw [xO hd] at h ⊢;unfold Qhp at h ⊢
    split
    ·exact xZ _
    ·split
     ·exact xZ _
     ·rename_i h1 h2
      rw [xN h1,xN h2] at h;exact absurd rfl h
   ·rw [xN hd] at h ⊢
    by_cases h34:at' l 0=34
    ·rw [xO h34];have:=Qu3 (l.drop 1) 1
     rw [List.length_drop] at this;cases l with
     | nil=>exact absurd h34 (by decide)
     | cons c r =>
      rw [xD] at this ⊢;omega
    ·rw [xN h34] at h ⊢;unfold Qde at h ⊢
     split
     ·exact xZ _
     ·rename_i h1
      rw [xN h1] at h;exact absurd rfl h
structure Tok where
 kind:Int
 lead:ByteArray
 text:ByteArray
structure Res where
 toks:List Tok
 tail:ByteArray
 place:Nat
 e:Nat
def Qn8 (s:ByteArray):Nat→Nat→List Tok→Res
 | 0,_,_=>⟨[],ByteArray.empty,0,0⟩
 | f+1,k,acc =>
  if Qao s k=s.size then ⟨acc,s.extract k s.size,0,0⟩
  else if (Qb5 (suf s (Qao s k))).e=0 then
   Qn8 s f (Qao s k+(Qb5 (suf s (Qao s k))).n) (acc ++ [⟨(Qb5 (suf s (Qao s k))).kind,s.extract k (Qao s k),s.extract (Qao s k) (Qao s k+(Qb5 (suf s (Qao s k))).n)⟩])
  else ⟨[],ByteArray.empty,Qao s k+(Qb5 (suf s (Qao s k))).n,(Qb5 (suf s (Qao s k))).e⟩
def Qu4 (s:ByteArray):Res:=Qn8 s (s.size+1) 0 []
def Qb7 (s:ByteArray):Res:=if 4096<s.size then ⟨[],ByteArray.empty,4096,3⟩ else Qu4 s
def ScanAt (s:ByteArray) (k:Nat) (acc:List Tok):Prop:=k≤s.size∧acc.length≤k∧∃ f,s.size<f+k∧Qu4 s=Qn8 s f k acc
theorem ScanAt.start (s:ByteArray):ScanAt s 0 []:=⟨xZ _,xA _,s.size+1,by omega,rfl⟩
section
variable {s:ByteArray} {k:Nat} {acc:List Tok}
theorem ScanAt.done (h:ScanAt s k acc) (hs:Qao s k=s.size):Qu4 s=⟨acc,s.extract k s.size,0,0⟩:=by
 obtain ⟨hk,_,f,hf,h⟩:=h;obtain ⟨f,rfl⟩:∃ g,f=g+1:=⟨f-1,by omega⟩;rw [h,Qn8,xO hs]
theorem ScanAt.stop (h:ScanAt s k acc) (hs:Qao s k≠s.size) (he:(Qb5 (suf s (Qao s k))).e≠0):Qu4 s=⟨[],ByteArray.empty,Qao s k+(Qb5 (suf s (Qao s k))).n,(Qb5 (suf s (Qao s k))).e⟩:=by
 obtain ⟨hk,_,f,hf,h⟩:=h;obtain ⟨f,rfl⟩:∃ g,f=g+1:=⟨f-1,by omega⟩;rw [h,Qn8,xN hs,xN he]
theorem ScanAt.next (h:ScanAt s k acc) (hs:Qao s k≠s.size) (he:(Qb5 (suf s (Qao s k))).e=0) :
  ScanAt s (Qao s k+(Qb5 (suf s (Qao s k))).n) (acc ++ [⟨(Qb5 (suf s (Qao s k))).kind,s.extract k (Qao s k),s.extract (Qao s k) (Qao s k+(Qb5 (suf s (Qao s k))).n)⟩]):=by
 obtain ⟨hk,ha,f,hf,h⟩:=h;have h1:=Qkh he;have h2:=Qh5 s k;have h3:=Qgy s k hk;rw [Qb0] at h1;obtain ⟨f,rfl⟩:∃ g,f=g+1:=⟨f-1,by omega⟩;refine ⟨by omega,by simp;omega,f,by omega,?_⟩;rw [h,Qn8,xN hs,xO he]
end
theorem Qgh (p:Int→Bool) (l:List UInt8):∀ m,Qc5 p l≤m→Qc5 p (l.take m)=Qc5 p l:=by
 induction l with
 | nil=>intro m _;simp [Qc5]
 | cons c r ih =>
  intro m h;cases m with
  | zero =>
   unfold Qc5 at h
   split at h
   ·omega
   ·rename_i hp
    simp [Qc5,hp]
  | succ m =>
   rw [List.take_succ_cons];unfold Qc5 at h ⊢
   split
   ·rename_i hp
    rw [xO hp] at h;rw [ih m (by omega)]
   ·rfl
theorem Qgi (l:List UInt8) (m k:Nat) (h:k<m):at' (l.take m) k=at' l k:=by
 unfold at';rw [List.getD_eq_getElem?_getD,List.getD_eq_getElem?_getD,List.getElem?_take,xO h]
theorem Qp3 (l:List UInt8) (m k:Nat) (h:m≤k):at' (l.take m) k=0:=by
 unfold at';rw [List.getD_eq_getElem?_getD,List.getElem?_take,xN (by omega)];rfl
theorem Qs5 (l:List UInt8):∀ i,(Qcf i l).e=0→Qcf i l=⟨6,(Qcf i l).n,0⟩:=by
 induction l with
 | nil=>intro i h;simp [Qcf] at h
 | cons c r ih =>
  intro i h;unfold Qcf at h ⊢
  by_cases h1:c.toNat=34
  ·rw [xO h1]
  ·rw [xN h1] at h ⊢
   by_cases h2:c.toNat=92∨c.toNat=9∨c.toNat=10∨c.toNat=13
   ·rw [xO h2] at h;cases h
   ·rw [xN h2] at h ⊢
    by_cases h3:Qaq c.toNat=true
    ·rw [xO h3] at h ⊢;exact ih _ h
    ·rw [xN h3] at h;cases h
theorem Qs6 (l:List UInt8):∀ i,(Qcf i l).e=0→Qcf i (l.take ((Qcf i l).n-i))=Qcf i l:=by
 induction l with
 | nil=>intro i h;simp [Qcf] at h
 | cons c r ih =>
  intro i h;have hn:=(Qkg (c :: r) i h).1;unfold Qcf at h hn
  by_cases h1:c.toNat=34
  ·have e:Qcf i (c :: r)=⟨6,i+1,0⟩:=by rw [Qcf,xO h1]
   rw [e,show i+1-i=1 from by omega];rw [List.take_succ_cons,Qcf,xO h1]
  ·rw [xN h1] at h hn
   by_cases h2:c.toNat=92∨c.toNat=9∨c.toNat=10∨c.toNat=13
   ·rw [xO h2] at h;cases h
   ·rw [xN h2] at h hn
    by_cases h3:Qaq c.toNat=true
    ·rw [xO h3] at h hn;have e:Qcf i (c :: r)=Qcf (i+1) r:=by rw [Qcf,xN h1,xN h2,xO h3]
     have h4:=(Qkg r (i+1) h).1;rw [e,show (Qcf (i+1) r).n-i=((Qcf (i+1) r).n-(i+1))+1 from by omega,List.take_succ_cons,Qcf,xN h1,xN h2,xO h3];exact ih _ h
    ·rw [xN h3] at h;cases h
theorem Qs7 {l:List UInt8} (_hd:Qcl l=false) (hw:0<Qac l) (h:(Qc2 l).e=0):Qcl (l.take (Qc2 l).n)=false∧Qc2 (l.take (Qc2 l).n)=Qc2 l:=by
 have hn:(Qc2 l).n=Qac l:=by
  unfold Qc2 at h ⊢
  by_cases h1:24<Qac l
  ·rw [xO h1] at h;cases h
  ·rw [xN h1]
   split
   ·rfl
   ·split <;> rfl
 have hwl:Qac (l.take (Qac l))=Qac l:=Qgh _ _ _ (xA _);rw [hn]
 constructor
 ·unfold Qcl;rw [hwl,List.length_take];rw [show decide (Qac l+1<min (Qac l) l.length)=false from xR (by omega)];simp
 ·unfold Qc2;rw [hwl,List.take_take,Nat.min_self,Qgi l _ 0 hw]
theorem Qu5 {l:List UInt8} (hd:Qcl l=true) (h:(Qcn l (Qac l)).e=0) :
  Qcl (l.take (Qcn l (Qac l)).n)=true∧Qac (l.take (Qcn l (Qac l)).n)=Qac l∧Qcn (l.take (Qcn l (Qac l)).n) (Qac l)=Qcn l (Qac l):=by
 have hn:(Qcn l (Qac l)).n=Qac l+1+Qac (l.drop (Qac l+1)):=by
  unfold Qcn at h ⊢
  by_cases h1:24<Qac l∨24<Qac (l.drop (Qac l+1))
  ·rw [xO h1] at h;cases h
  ·rw [xN h1] at h ⊢
   by_cases h2:Qah ((l.drop (Qac l+1)).take (Qac (l.drop (Qac l+1))))=true
   ·rw [xO h2] at h;cases h
   ·rw [xN h2]
    split <;> rfl
 rw [hn];unfold Qcl at hd;simp only [Bool.and_eq_true,decide_eq_true_eq,beq_iff_eq,Bool.not_eq_true'] at hd;obtain ⟨⟨⟨⟨hu,hr⟩,hlen⟩,h46⟩,hl⟩:=hd
 generalize hW:Qac l=W at *
 have hm:0<Qac (l.drop (W+1)):=by
  refine Qgz ?_
  have:at' (l.drop (W+1)) 0=at' l (W+1):=by
   unfold at';rw [List.getD_eq_getElem?_getD,List.getD_eq_getElem?_getD,List.getElem?_drop,Nat.add_zero]
  rw [this];exact hl
 have hM:=Qhx (l.drop (W+1));rw [List.length_drop] at hM
 generalize hMM:Qac (l.drop (W+1))=M at *
 have hw:Qac (l.take (W+1+M))=W:=by
  rw [←hW];exact Qgh _ _ _ (by show Qac l≤_;omega)
 have hdr:(l.take (W+1+M)).drop (W+1)=(l.drop (W+1)).take M:=by rw [List.drop_take,show W+1+M-(W+1)=M from by omega]
 have hw2:Qac ((l.drop (W+1)).take M)=M:=by
  rw [←hMM];exact Qgh _ _ _ (xA _)
 refine ⟨?_,hw,?_⟩
 ·unfold Qcl;rw [hw,Qgi _ _ _ (by omega),Qgi _ _ _ (by omega),Qgi _ _ _ (by omega),List.take_take,Nat.min_eq_left (by omega),List.length_take,hu,hr,h46,hl,xS (by omega)];rfl
 ·unfold Qcn;rw [hdr,hw2,hMM,List.take_take,Nat.min_self,Qgi _ _ _ (by omega)]
theorem Qzc {l:List UInt8} (hw:0<Qc1 l) (h:(Qhp l).e=0):0<(Qhp l).n∧Qhp (l.take (Qhp l).n)=Qhp l:=by
 have hn:(Qhp l).n=Qc1 l:=by
  unfold Qhp at h ⊢
  by_cases h1:1<Qc1 l∧at' l 0=48
  ·rw [xO h1] at h;cases h
  ·rw [xN h1] at h ⊢
   by_cases h2:15<Qc1 l
   ·rw [xO h2] at h;cases h
   ·rw [xN h2]
 rw [hn];have hwl:Qc1 (l.take (Qc1 l))=Qc1 l:=Qgh _ _ _ (xA _);refine ⟨hw,?_⟩;unfold Qhp;rw [hwl,Qgi l _ 0 hw]
theorem Qu6 {l:List UInt8} (h:(Qde l).e=0):0<(Qde l).n∧Qde (l.take (Qde l).n)=Qde l:=by
 have hz:Qbh l≠0:=by
  intro hz;unfold Qde at h;rw [xO hz] at h;cases h
 have hn:(Qde l).n=Qbh l:=by unfold Qde;rw [xN hz]
 rw [hn];refine ⟨by omega,?_⟩
 have hs:Qbh (l.take (Qbh l))=Qbh l:=by
  have h0:at' (l.take (Qbh l)) 0=at' l 0:=Qgi _ _ _ (by omega);unfold Qbh at h0 hz ⊢
  by_cases h1:at' l 0=61
  ·simp only [h1,if_true] at h0 hz ⊢
   by_cases h2:at' l 1=61
   ·simp only [h2,if_true] at h0 ⊢;rw [h0,Qgi l 2 1 (by omega),h2];rfl
   ·simp only [h2,if_false] at h0 ⊢;rw [h0,Qp3 l 1 1 (by omega)];rfl
  ·simp only [h1,if_false] at h0 hz ⊢
   by_cases h2:Qd4 (at' l 0)=true
   ·simp only [h2,if_true] at h0 ⊢;rw [h0];simp [h1,h2]
   ·simp [h2] at hz
 unfold Qde;rw [hs]
theorem Qzd {l:List UInt8} (h:(Qb5 l).e=0):Qb5 (l.take (Qb5 l).n)=Qb5 l:=by
 have hpos:=(Qkh h).1;have h0:at' (l.take (Qb5 l).n) 0=at' l 0:=Qgi _ _ _ hpos
 have key:∀ m,at' (l.take m) 0=at' l 0→Qb5 (l.take m)=if Qaq (at' l 0)=false then ⟨0,0,1⟩ else if Qai (at' l 0) then Qcv (l.take m) else if Qbm (at' l 0) then Qhp (l.take m) else if at' l 0=34 then Qcf 1 ((l.take m).drop 1) else Qde (l.take m):=by
  intro m hm;unfold Qb5;rw [hm]
 rw [key _ h0];clear key h0;unfold Qb5 at h hpos ⊢
 by_cases ha:Qaq (at' l 0)=false
 ·rw [xO ha] at h;cases h
 ·rw [xN ha] at h hpos ⊢;rw [xN ha]
  by_cases hl:Qai (at' l 0)=true
  ·rw [xO hl] at h hpos ⊢;rw [xO hl];unfold Qcv at h hpos ⊢
   by_cases hd:Qcl l=true
   ·rw [xO hd] at h hpos ⊢;obtain ⟨q1,q2,q3⟩:=Qu5 hd h;rw [xO q1,q2,q3]
   ·rw [xN hd] at h hpos ⊢;obtain ⟨q1,q2⟩:=Qs7 (by simpa using hd) (Qgz hl) h;rw [xN (by simp [q1]),q2]
  ·rw [xN hl] at h hpos ⊢;rw [xN hl]
   by_cases hd:Qbm (at' l 0)=true
   ·rw [xO hd] at h hpos ⊢;rw [xO hd];exact (Qzc (Qkf hd) h).2
   ·rw [xN hd] at h hpos ⊢;rw [xN hd]
    by_cases h34:at' l 0=34
    ·rw [xO h34] at h hpos ⊢;rw [xO h34,List.drop_take];exact Qs6 _ _ h
    ·rw [xN h34] at h hpos ⊢;rw [xN h34];exact (Qu6 h).2
theorem Qze {l:List UInt8} (h:(Qb5 l).e=0):(Qb5 l).kind≠0:=by
 unfold Qb5 at h ⊢
 by_cases ha:Qaq (at' l 0)=false
 ·rw [xO ha] at h;cases h
 ·rw [xN ha] at h ⊢
  by_cases hl:Qai (at' l 0)=true
  ·rw [xO hl] at h ⊢;unfold Qcv at h ⊢
   by_cases hd:Qcl l=true
   ·rw [xO hd] at h ⊢;unfold Qcn at h ⊢
    split at h
    ·cases h
    ·rename_i h1
     rw [xN h1]
     split at h
     ·cases h
     ·rename_i h2
      rw [xN h2]
      split <;> simp
   ·rw [xN hd] at h ⊢;unfold Qc2 at h ⊢
    split at h
    ·cases h
    ·rename_i h1
     rw [xN h1]
     split
     ·simp
     ·split <;> simp
  ·rw [xN hl] at h ⊢
   by_cases hd:Qbm (at' l 0)=true
   ·rw [xO hd] at h ⊢;unfold Qhp at h ⊢
    split at h
    ·cases h
    ·rename_i h1
     rw [xN h1]
     split at h
     ·cases h
     ·rename_i h2
      rw [xN h2];exact (by decide:(5:Nat)≠0)
   ·rw [xN hd] at h ⊢
    by_cases h34:at' l 0=34
    ·rw [xO h34] at h ⊢;rw [Qs5 _ _ h];exact (by decide:(6:Nat)≠0)
    ·rw [xN h34] at h ⊢;unfold Qde at h ⊢
     split at h
     ·cases h
     ·rename_i h1
      rw [xN h1];exact (by decide:(8:Nat)≠0)
theorem Qzf (s:ByteArray) (a k:Nat):at' (suf s a) k=at' (suf s 0) (a+k):=by
 unfold at' suf;rw [List.getD_eq_getElem?_getD,List.getD_eq_getElem?_getD,List.getElem?_drop,List.getElem?_drop,Nat.zero_add]
theorem Qs8 (l:List UInt8):∀ o,(Qce o l).2=true→(Qce o l).1<l.length→Qaq (at' l (Qce o l).1)=false:=by
 induction l with
 | nil=>intro o _ h;exact absurd h (by simp)
 | cons c r ih =>
  intro o h1 h2;unfold Qce at h1 h2 ⊢
  by_cases ha:Qaq c.toNat=true
  ·simp only [ha,if_true] at h1 h2 ⊢
   cases o
   ·simp only [Bool.false_eq_true,if_false] at h1 h2 ⊢
    by_cases hc:c.toNat=35
    ·simp only [hc,if_true,xD] at h1 h2 ⊢;exact ih true h1 (by omega)
    ·by_cases hw:Qeo c.toNat=true
     ·simp only [hc,hw,if_true,if_false,xD] at h1 h2 ⊢;exact ih false h1 (by omega)
     ·simp only [hc,hw,if_false] at h1;simp at h1
   ·simp only [if_true,xD] at h1 h2 ⊢;exact ih _ h1 (by omega)
  ·have hf:Qaq c.toNat=false:=by simpa using ha
   simp only [hf,Bool.false_eq_true,if_false];exact hf
theorem Qzg {s:ByteArray} {k:Nat} (ho:Qd1 s k=true) (hl:Qao s k<s.size):Qb5 (suf s (Qao s k))=⟨0,0,1⟩:=by
 have h:=Qs8 (suf s k) false ho (by rw [Qb0];unfold Qao at hl;omega);unfold Qb5;rw [xO];rw [Qzf] at h ⊢;exact h
def Qag (l:List UInt8):Nat:=if l = [] then 0 else if (Qb5 l).e≠0∨(Qb5 l).n≠l.length then 0 else (Qb5 l).kind
def bl (s:ByteArray):List UInt8:=suf s 0
theorem Qfe (s:ByteArray):(bl s).length=s.size:=by unfold bl;rw [Qb0];omega
def Qj0 (ts:List Tok) (tail:List UInt8):List UInt8:=(ts.flatMap fun t=>bl t.lead ++ bl t.text) ++ tail
theorem Qs9 (ts:List Tok) (t:Tok):Qj0 (ts ++ [t]) [] = Qj0 ts [] ++ (bl t.lead ++ bl t.text):=by
 unfold Qj0;rw [List.flatMap_append];simp
def Qmy (t:Tok):Prop:=(Qag (bl t.text):Int)=t.kind∧t.kind≠0∧Qi6 t.lead false=true
theorem Qu7 {l:List UInt8} {n:Nat} (h:(Qb5 l).e=0) (hn:(Qb5 l).n=n):Qag (l.take n)=(Qb5 l).kind:=by
 subst hn;have h1:=Qkh h;have h2:=Qzd h;unfold Qag
 rw [xN,h2,xN]
 ·rw [List.length_take];omega
 ·intro e;have:=congrArg List.length e
  rw [List.length_take,xG] at this;omega
theorem Qlr (l:List UInt8):∀ o,Qce o (l.take (Qce o l).1)=Qce o l:=by
 induction l with
 | nil=>intro o;simp [Qce]
 | cons c r ih =>
  intro o
  by_cases ha:Qaq c.toNat=true
  ·cases o
   ·by_cases hc:c.toNat=35
    ·have e:Qce false (c :: r)=((Qce true r).1+1,(Qce true r).2):=by
      rw [Qce,xO ha,xN (by decide),xO hc]
     rw [e,List.take_succ_cons,Qce,xO ha,xN (by decide),xO hc,ih]
    ·by_cases hw:Qeo c.toNat=true
     ·have e:Qce false (c :: r)=((Qce false r).1+1,(Qce false r).2):=by
       rw [Qce,xO ha,xN (by decide),xN hc,xO hw]
      rw [e,List.take_succ_cons,Qce,xO ha,xN (by decide),xN hc,xO hw,ih]
     ·have e:Qce false (c :: r)=(0,false):=by
       rw [Qce,xO ha,xN (by decide),xN hc,xN hw]
      rw [e];rfl
   ·have e:Qce true (c :: r)=((Qce (c.toNat != 10) r).1+1,(Qce (c.toNat != 10) r).2):=by
     rw [Qce,xO ha,xO rfl]
    rw [e,List.take_succ_cons,Qce,xO ha,xO rfl,ih]
  ·have e:Qce o (c :: r)=(0,o):=by rw [Qce,xN ha]
   rw [e];rfl
theorem Qrn (s:ByteArray) (k:Nat) (hk:k≤s.size):Qao (s.extract k (Qao s k)) 0=(s.extract k (Qao s k)).size∧Qd1 (s.extract k (Qao s k)) 0=Qd1 s k:=by
 have h1:=Qgy s k hk;have h2:=Qh5 s k;have hn:Qao s k-k=(Qce false (suf s k)).1:=by unfold Qao;omega
 have hs:suf (s.extract k (Qao s k)) 0=(suf s k).take (Qce false (suf s k)).1:=by rw [Qdf,hn]
 constructor
 ·rw [ByteArray.size_extract,Nat.min_eq_left h1,hn];rw [show ∀ x,Qao x 0=0+(Qce false (suf x 0)).1 from fun _=>rfl,hs,Qlr,Nat.zero_add]
 ·rw [show ∀ x,Qd1 x 0=(Qce false (suf x 0)).2 from fun _=>rfl,hs,Qlr];rfl
theorem Qzh {s:ByteArray} {k:Nat} (hk:k≤s.size) (hs:Qao s k≠s.size) (he:(Qb5 (suf s (Qao s k))).e=0) :
  Qmy ⟨(Qb5 (suf s (Qao s k))).kind,s.extract k (Qao s k),s.extract (Qao s k) (Qao s k+(Qb5 (suf s (Qao s k))).n)⟩:=by
 have h1:=Qgy s k hk
 have ho:Qd1 s k=false:=by
  cases h:Qd1 s k
  ·rfl
  ·rw [Qzg h (by omega)] at he;cases he
 refine ⟨?_,?_,?_⟩
 ·show ((Qag (suf (s.extract _ _) 0):Nat):Int)=_
  rw [Qdf,Qu7 he (by omega)]
 ·have:=Qze he
  show ((Qb5 (suf s (Qao s k))).kind:Int)≠0
  omega
 ·show Qi6 (s.extract k (Qao s k)) false=true
  obtain ⟨c1,c2⟩:=Qrn s k hk;unfold Qi6;rw [c1,c2,ho];simp
theorem Qu8 {s:ByteArray} {k:Nat} (hk:k≤s.size) (hs:Qao s k=s.size):Qi6 (s.extract k s.size) true=true:=by
 obtain ⟨c1,_⟩:=Qrn s k hk;rw [hs] at c1;unfold Qi6;rw [c1];simp
def Qu9 (s:ByteArray) (r:Res):Prop :=
 (r.e=0→(∀ t∈r.toks,Qmy t)∧Qj0 r.toks (bl r.tail)=bl s∧Qi6 r.tail true=true)∧(r.e≠0→r.toks = []∧r.tail=ByteArray.empty)
theorem Qg0 (s:ByteArray) (a b:Nat) (hab:a≤b):(bl s).take a ++ bl (s.extract a b)=(bl s).take b:=by
 unfold bl;rw [Qdf];have:suf s a=(suf s 0).drop a:=by rw [Qd2,Nat.zero_add]
 rw [this,←List.drop_take]
 conv=>rhs;rw [←List.take_append_drop a ((suf s 0).take b)]
 rw [List.take_take,Nat.min_eq_left hab]
theorem Qta (s:ByteArray):∀ f k acc,k≤s.size→s.size<f+k→(∀ t∈acc,Qmy t)→Qj0 acc [] = (bl s).take k→Qu9 s (Qn8 s f k acc):=by
 intro f
 induction f with
 | zero=>intro k acc hk hf _ _;omega
 | succ f ih =>
  intro k acc hk hf hacc hj;have h2:=Qh5 s k;have h3:=Qgy s k hk;unfold Qn8
  by_cases hs:Qao s k=s.size
  ·rw [xO hs];refine ⟨fun _=>⟨hacc,?_,Qu8 hk hs⟩,fun h=>absurd rfl h⟩;have:Qj0 acc (bl (s.extract k s.size))=Qj0 acc [] ++ bl (s.extract k s.size):=by unfold Qj0;simp
   rw [this,hj,Qg0 s k s.size hk,List.take_of_length_le (by rw [Qfe];omega)]
  ·rw [xN hs]
   by_cases he:(Qb5 (suf s (Qao s k))).e=0
   ·rw [xO he];have h1:=Qkh he;rw [Qb0] at h1
    refine ih _ _ (by omega) (by omega) ?_ ?_
    ·intro t ht
     rcases List.mem_append.1 ht with h | h
     ·exact hacc t h
     ·rw [List.mem_singleton.1 h];exact Qzh hk hs he
    ·rw [Qs9,hj,←xT,Qg0 s k _ h2,Qg0 s _ _ (by omega)]
   ·rw [xN he];exact ⟨fun h=>absurd h he,fun _=>⟨rfl,rfl⟩⟩
theorem Qtb (s:ByteArray):Qu9 s (Qb7 s):=by
 unfold Qb7
 split
 ·exact ⟨(fun h=>by cases h),fun _=>⟨rfl,rfl⟩⟩
 ·exact Qta s _ _ _ (xZ _) (by omega) (by simp) (by simp [Qj0])
end Go.Proofs.YtfjpemdejoejbaaGreat
