/- Part 1 -/
import Derived.Below
import Derived.Laws.Rows
import Derived.Laws.World
import Derived.Laws.AppendOwn
import Derived.Lib.Hide
import Derived.Lib.Builder
import Derived.Deep.AppendLies
set_option maxRecDepth 100000
set_option maxHeartbeats 4000000
namespace Go.Proofs.YtjidpkcjpgdafaaGreat
theorem hQ {p : Prop} (h : p) : Go.RowKit.Hid p := Lib.hid h
open Go.RowKit
theorem xA (n : Nat) : n ≤ n := Nat.le_refl n
theorem xB.{u} {α : Type u} {xs ys : List α} : (xs ++ ys).length = xs.length + ys.length := List.length_append
theorem xC (B : Nat) (w : World) : Below B w w := Below.refl B w
theorem xD.{u} {α : Type u} {a : α} {xs : List α} : (a :: xs).length = xs.length + 1 := List.length_cons
theorem xE {n m k : Nat} : n < m → m ≤ k → n < k := Nat.lt_of_lt_of_le
theorem xF.{u} {α : Type u} {l : List α} {i : Nat} (h : i < l.length) : l[i]? = some l[i] := List.getElem?_eq_getElem h
theorem xG.{u} {α : Type u} : ([] : List α).length = 0 := List.length_nil
theorem xH (w : World) (o : Obj) : (w.alloc o).heap[w.heap.size]? = some o := heap_alloc_new w o
theorem xI (w : World) (o : Obj) : (w.alloc o).heap.size = w.heap.size + 1 := World.size_alloc w o
theorem xJ {w w' : World} {a : Addr} : w'.heap[a.block]? = w.heap[a.block]? → w'.cell? a = w.cell? a := World.cell?_of_block
theorem xK (w : World) (a : Addr) {u : Value} : w.cell? a = some u → a.block < w.heap.size := World.block_lt_of_cell? w a
theorem xL {w : World} {b : Nat} {cs : Array Value} {T : TypeId} (h : w.heap[b]? = some (.cells cs T)) (j : Nat) : w.frozen? ⟨b, j, none⟩ = false := Lib.frozen_of_heap h j
theorem xM {w : World} {B : Nat} {cs : Array Value} {t : TypeId} {fr : Nat × Nat} (h : w.heap[B]? = some (.cells cs t fr)) (j : Nat) (u : Value) (hu : cs.toList[j]? = some u) : w.cell? ((⟨B, 0, none⟩ : Addr).add j) = some u := World.news_of_block h j u hu
theorem xN.{u} {c : Prop} {h : Decidable c} (n : ¬c) {α : Sort u} {t e : α} : (if c then t else e) = e := if_neg n
theorem xO.{u} {c : Prop} {h : Decidable c} (n : c) {α : Sort u} {t e : α} : (if c then t else e) = t := if_pos n
theorem xP.{u} {α : Type u} {i : Nat} {a : α} {l : List α} : l[i]? = some a ↔ ∃ h : i < l.length, l[i] = a := List.getElem?_eq_some_iff
theorem xQ {n m k : Nat} : n ≤ m → m ≤ k → n ≤ k := Nat.le_trans
theorem xR {p : Prop} [Decidable p] : ¬p → decide p = false := decide_eq_false
theorem xS {p : Prop} [Decidable p] : p → decide p = true := decide_eq_true
theorem xT.{u} {α : Type u} (a b c : List α) : a ++ b ++ c = a ++ (b ++ c) := List.append_assoc a b c
theorem xU.{u} {α : Type u} (a : List α) : [] ++ a = a := List.nil_append a
theorem xV.{u} {α : Type u} {a : α} {b c : List α} : a :: b ++ c = a :: (b ++ c) := List.cons_append
theorem xW (n : Nat) : n < n.succ := Nat.lt_succ_self n
theorem xX.{u} {α : Type u} {a b : List α} {i : Nat} (h : a.length ≤ i) : (a ++ b)[i]? = b[i - a.length]? := List.getElem?_append_right h
theorem xY.{u} {α : Type u} {xs : Array α} {i j : Nat} (h : i ≠ j) {a : α} : (xs.setIfInBounds i a)[j]? = xs[j]? := Array.getElem?_setIfInBounds_ne h
theorem xZ (n : Nat) : 0 ≤ n := Nat.zero_le n
theorem yA.{u} {α : Type u} {l : List α} {i : Nat} {a : α} (h : l[i]? = some a) : a ∈ l := List.mem_of_getElem? h
theorem yB.{u} {α : Type u} {a b : List α} {i : Nat} (h : i < a.length) : (a ++ b)[i]? = a[i]? := List.getElem?_append_left h
def Qd6 (c:Int):Bool:=c==9 || c==10 || c==13 || c==32
def Qbz (c:Int):Bool:=decide (65≤c) && decide (c≤90)
def Qh3 (c:Int):Bool:=decide (97≤c) && decide (c≤122)
def Qau (c:Int):Bool:=Qbz c || Qh3 c
def Qb0 (c:Int):Bool:=decide (48≤c) && decide (c≤57)
def Qh4 (c:Int):Bool:=Qau c || Qb0 c || c==95
def Qf9 (c:Int):Bool:=decide (32≤c) && decide (c≤126)
def Qaq (c:Int):Bool:=Qd6 c || (decide (32<c) && decide (c≤126))
theorem Qh5 (c:Int):Qaq c=(Qd6 c || Qf9 c):=by
 unfold Qaq Qd6 Qf9;rw [Bool.eq_iff_iff];simp
 omega
def suf (s:ByteArray) (k:Nat):List UInt8:=s.data.toList.drop k
theorem Qc5 (s:ByteArray) (k:Nat) (h:k<s.size):suf s k=s[k] :: suf s (k+1):=by
 unfold suf;rw [List.drop_eq_getElem_cons (by simpa using h)];rfl
theorem Qkg (s:ByteArray) (k:Nat) (h:s.size≤k):suf s k = []:=by
 unfold suf;exact List.drop_eq_nil_of_le (by simpa using h)
theorem Qbt (s:ByteArray) (k:Nat):(suf s k).length=s.size-k:=by
 unfold suf;simp
def Qce:Bool→List UInt8→Nat × Bool
 | o,[]=>(0,o)
 | o,c :: r =>
  if Qaq c.toNat then
   if o then ((Qce (c.toNat != 10) r).1+1,(Qce (c.toNat != 10) r).2)
   else if c.toNat=35 then ((Qce true r).1+1,(Qce true r).2)
   else if Qd6 c.toNat then ((Qce false r).1+1,(Qce false r).2)
   else (0,false)
  else (0,o)
theorem Zbm (o:Bool) (l:List UInt8):(Qce o l).1≤l.length:=by
 induction l generalizing o with
 | nil=>simp [Qce]
 | cons c r ih =>
  have h1:=ih (c.toNat != 10);have h2:=ih true;have h3:=ih false;unfold Qce;simp only [xD]
  split
  ·split
   ·simp only [];omega
   ·split
    ·simp only [];omega
    ·split
     ·simp only [];omega
     ·simp
  ·simp
def Qam (s:ByteArray) (i:Nat):Nat:=i+(Qce false (suf s i)).1
def Qcz (s:ByteArray) (i:Nat):Bool:=(Qce false (suf s i)).2
theorem Qg7 (s:ByteArray) (i:Nat):i≤Qam s i:=by unfold Qam;omega
theorem Qge (s:ByteArray) (i:Nat) (h:i≤s.size):Qam s i≤s.size:=by
 have:=Zbm false (suf s i)
 rw [Qbt] at this;unfold Qam;omega
def SkipAt (s:ByteArray) (i k:Nat) (o:Bool):Prop:=i≤k∧k≤s.size∧Qam s i=k+(Qce o (suf s k)).1∧Qcz s i=(Qce o (suf s k)).2
theorem SkipAt.start (s:ByteArray) (i:Nat) (h:i≤s.size):SkipAt s i i false:=⟨xA _,h,rfl,rfl⟩
section
variable {s:ByteArray} {i k:Nat} {o:Bool}
theorem SkipAt.done (h:SkipAt s i k o) (hk:¬ k<s.size):Qam s i=k∧Qcz s i=o:=by
 obtain ⟨_,_,h1,h2⟩:=h;rw [Qkg s k (by omega)] at h1 h2;exact ⟨h1,h2⟩
theorem SkipAt.bad (h:SkipAt s i k o) (hk:k<s.size) (ha:Qaq s[k].toNat=false):Qam s i=k∧Qcz s i=o:=by
 obtain ⟨_,_,h1,h2⟩:=h;rw [Qc5 s k hk] at h1 h2;simp [Qce,ha] at h1 h2
 exact ⟨h1,h2⟩
theorem SkipAt.other (h:SkipAt s i k false) (hk:k<s.size) (ha:Qd6 s[k].toNat=false) (hc:s[k].toNat≠35):Qam s i=k∧Qcz s i=false:=by
 obtain ⟨_,_,h1,h2⟩:=h;rw [Qc5 s k hk] at h1 h2;simp [Qce,ha,hc] at h1 h2
 exact ⟨h1,h2⟩
theorem SkipAt.inside (h:SkipAt s i k true) (hk:k<s.size) (ha:Qaq s[k].toNat=true):SkipAt s i (k+1) (s[k].toNat != 10):=by
 obtain ⟨h0,_,h1,h2⟩:=h;rw [Qc5 s k hk] at h1 h2;simp only [Qce,ha,if_true] at h1 h2;exact ⟨by omega,by omega,by omega,h2⟩
theorem SkipAt.opens (h:SkipAt s i k false) (hk:k<s.size) (hc:s[k].toNat=35):SkipAt s i (k+1) true:=by
 obtain ⟨h0,_,h1,h2⟩:=h;have ha:Qaq ((35:Nat):Int)=true:=by decide
 rw [Qc5 s k hk] at h1 h2;simp only [Qce,hc,ha,if_true,Bool.false_eq_true,if_false] at h1 h2;exact ⟨by omega,by omega,by omega,h2⟩
theorem Qo3 {c:Int} (h:Qd6 c=true):Qaq c=true:=by unfold Qaq;simp [h]
theorem SkipAt.white (h:SkipAt s i k false) (hk:k<s.size) (ha:Qd6 s[k].toNat=true):SkipAt s i (k+1) false:=by
 obtain ⟨h0,_,h1,h2⟩:=h;have hc:s[k].toNat≠35:=by intro e;rw [e] at ha;exact absurd ha (by decide)
 rw [Qc5 s k hk] at h1 h2;simp only [Qce,ha,hc,Qo3 ha,if_true,Bool.false_eq_true,if_false] at h1 h2;exact ⟨by omega,by omega,by omega,h2⟩
end
def Qf5 (s:ByteArray) (fin:Bool):Bool:=(Qam s 0==s.size) && (fin || !Qcz s 0)
def Qi5 (s:ByteArray) (i:Nat):Int:=if Qcz s i=true∧Qam s i<s.size then (Qam s i:Int) else -1
theorem Qp5 {s:ByteArray} {i k:Nat} (h:Qam s i=k∧Qcz s i=true) (hk:k<s.size):Qi5 s i=k:=by
 unfold Qi5;rw [h.1,xO ⟨h.2,hk⟩]
theorem Qil {s:ByteArray} {i k:Nat} {o:Bool} (h:Qam s i=k∧Qcz s i=o) (hk:o=false∨¬ k<s.size):Qi5 s i = -1:=by
 unfold Qi5;rw [h.1,h.2,xN (by rcases hk with rfl | hk <;> simp_all)]
section
variable {s:ByteArray} {i k:Nat}
theorem SkipAt.begun (h:SkipAt s i k false) (hk:k<s.size) (hc:s[k].toNat=35):SkipAt s i k true:=by
 obtain ⟨h0,h3,h1,h2⟩:=h
 refine ⟨h0,h3,?_,?_⟩
 ·rw [h1,Qc5 s k hk];have ha:Qaq (35:Int)=true:=by decide
  simp [Qce,hc,ha]
 ·rw [h2,Qc5 s k hk];have ha:Qaq (35:Int)=true:=by decide
  simp [Qce,hc,ha]
theorem SkipAt.ended (h:SkipAt s i k true) (hk:k<s.size) (hc:s[k].toNat=10):SkipAt s i k false:=by
 obtain ⟨h0,h3,h1,h2⟩:=h;have ha:Qaq (10:Int)=true:=by decide
 have hw:Qd6 (10:Int)=true:=by decide
 refine ⟨h0,h3,?_,?_⟩
 ·rw [h1,Qc5 s k hk];simp [Qce,hc,ha,hw]
 ·rw [h2,Qc5 s k hk];simp [Qce,hc,ha,hw]
end
def Qp6:Bool→List UInt8→Bool
 | o,[]=>o
 | o,c :: r=>Qp6 (if c.toNat=10 then false else if c.toNat=35 then true else o) r
theorem Quq (o:Bool) (l:List UInt8) (h:(Qce o l).1=l.length):Qp6 o l=(Qce o l).2:=by
 induction l generalizing o with
 | nil=>simp [Qp6,Qce]
 | cons c r ih =>
  unfold Qp6;unfold Qce at h ⊢
  by_cases ha:Qaq c.toNat=true
  ·simp only [ha,if_true] at h ⊢
   cases o
   ·simp only [Bool.false_eq_true,if_false] at h ⊢
    by_cases hc:c.toNat=35
    ·simp only [hc,if_true,xD] at h ⊢
     simpa using ih true (by omega)
    ·by_cases hw:Qd6 c.toNat=true
     ·simp only [hc,hw,if_true,if_false,xD] at h ⊢
      simpa using ih false (by omega)
     ·simp only [hc,hw,if_false,xD] at h;simp at h
   ·simp only [if_true,xD] at h ⊢;rw [←ih _ (by omega)]
    congr 1
    by_cases h10:c.toNat=10 <;> simp [h10]
  ·have hf:Qaq c.toNat=false:=by simpa using ha
   rw [hf] at h;simp at h
theorem Qd7 (s:ByteArray) (a b:Nat):suf (s.extract a b) 0=(suf s a).take (b-a):=by
 unfold suf;rw [List.drop_zero,ByteArray.data_extract,Array.toList_extract,List.extract_eq_take_drop]
theorem Qim (s:ByteArray) (a:Nat):suf (s.extract a s.size) 0=suf s a:=by
 rw [Qd7,List.take_of_length_le (by rw [Qbt];omega)]
theorem Qe5 (s:ByteArray) (a n:Nat):(suf s a).drop n=suf s (a+n):=by
 unfold suf;rw [List.drop_drop]
def Qd8 (p:Int→Bool):List UInt8→Nat
 | []=>0
 | c :: r=>if p c.toNat then Qd8 p r+1 else 0
theorem Ql9 (p:Int→Bool) (l:List UInt8):Qd8 p l≤l.length:=by
 induction l with
 | nil=>simp [Qd8]
 | cons c r ih=>unfold Qd8;split <;> simp <;> omega
def RunAt (p:Int→Bool) (s:ByteArray) (i k:Nat):Prop:=i≤k∧k≤s.size∧Qd8 p (suf s i)+i=k+Qd8 p (suf s k)
theorem RunAt.start (p:Int→Bool) (s:ByteArray) (i:Nat) (h:i≤s.size):RunAt p s i i:=⟨xA _,h,by omega⟩
section
variable {p:Int→Bool} {s:ByteArray} {i k:Nat}
theorem RunAt.next (h:RunAt p s i k) (hk:k<s.size) (hp:p s[k].toNat=true):RunAt p s i (k+1):=by
 obtain ⟨h0,_,h1⟩:=h;rw [Qc5 s k hk] at h1;simp only [Qd8,hp,if_true] at h1;exact ⟨by omega,by omega,by omega⟩
theorem RunAt.stop (h:RunAt p s i k) (hk:k<s.size) (hp:p s[k].toNat=false):Qd8 p (suf s i)+i=k:=by
 obtain ⟨h0,_,h1⟩:=h;rw [Qc5 s k hk] at h1;simp only [Qd8,hp] at h1
 simpa using h1
theorem RunAt.done (h:RunAt p s i k) (hk:¬ k<s.size):Qd8 p (suf s i)+i=k:=by
 obtain ⟨h0,_,h1⟩:=h;rw [Qkg s k (by omega)] at h1
 simpa [Qd8] using h1
end
def Qac (l:List UInt8):Nat:=Qd8 Qh4 l
def Qdp (l:List UInt8):Nat:=Qd8 Qb0 l
def reservedWords:List (List UInt8):=[[109,111,100,117,108,101],[100,101,102],[116,121,112,101],[108,101,116],[105,110],[105,102],[116,104,101,110],[101,108,115,101],[116,114,117,101],[102,97,108,115,101],[73,110,116],[84,101,120,116],[66,111,111,108]]
def Qar (l:List UInt8):Bool:=reservedWords.contains l
structure Tk where
 kind:Nat
 n:Nat
 e:Nat
def at' (l:List UInt8) (k:Nat):Nat:=(l.getD k 0).toNat
def Qc9 (l:List UInt8) (n:Nat):Tk :=
 if 24<n∨24<Qac (l.drop (n+1)) then ⟨0,0,3⟩
 else if Qar ((l.drop (n+1)).take (Qac (l.drop (n+1)))) then ⟨0,0,2⟩
 else if Qbz (at' l (n+1)) then ⟨4,n+1+Qac (l.drop (n+1)),0⟩
 else ⟨3,n+1+Qac (l.drop (n+1)),0⟩
def Qdj (l:List UInt8):Bool :=
 Qbz (at' l 0) && !Qar (l.take (Qac l)) && decide (Qac l+1<l.length) && at' l (Qac l)==46 && Qau (at' l (Qac l+1))
def Qd4 (l:List UInt8):Tk :=
 if 24<Qac l then ⟨0,0,3⟩
 else if Qar (l.take (Qac l)) then ⟨7,Qac l,0⟩
 else if Qbz (at' l 0) then ⟨2,Qac l,0⟩
 else ⟨1,Qac l,0⟩
def Qd1 (l:List UInt8):Tk:=if Qdj l then Qc9 l (Qac l) else Qd4 l
def Qi6 (l:List UInt8):Tk :=
 if 1<Qdp l∧at' l 0=48 then ⟨0,0,2⟩
 else if 15<Qdp l then ⟨0,0,3⟩
 else ⟨5,Qdp l,0⟩
def Qc1:Nat→List UInt8→Tk
 | _,[]=>⟨0,0,2⟩
 | i,c :: r =>
  if c.toNat=34 then ⟨6,i+1,0⟩
  else if c.toNat=92∨c.toNat=9∨c.toNat=10∨c.toNat=13 then ⟨0,0,2⟩
  else if Qaq c.toNat then Qc1 (i+1) r
  else ⟨0,i,1⟩
def Qe1 (c:Int):Bool:=c==40 || c==41 || c==91 || c==93 || c==58 || c==44 || c==43 || c==45 || c==42 || c==60 || c==63
def Qbn (l:List UInt8):Nat :=
 if at' l 0=61 then (if at' l 1=61 then 2 else 1)
 else if Qe1 (at' l 0) then 1 else 0
def Qd9 (l:List UInt8):Tk:=if Qbn l=0 then ⟨0,0,2⟩ else ⟨8,Qbn l,0⟩
def Qbe (l:List UInt8):Tk :=
 if Qaq (at' l 0)=false then ⟨0,0,1⟩
 else if Qau (at' l 0) then Qd1 l
 else if Qb0 (at' l 0) then Qi6 l
 else if at' l 0=34 then Qc1 1 (l.drop 1)
 else Qd9 l
theorem Qiz (s:ByteArray) (a k:Nat) (h:a+k<s.size):at' (suf s a) k=s[a+k].toNat:=by
 unfold at' suf;rw [List.getD_eq_getElem?_getD,List.getElem?_drop,xF (by simpa using h)];rfl
theorem Qi7 (l:List UInt8):Qac l≤l.length:=Ql9 Qh4 l
theorem Qur (l:List UInt8):Qdp l≤l.length:=Ql9 Qb0 l
theorem Qxd (c:UInt8) (r:List UInt8):at' (c :: r) 0=c.toNat:=rfl
theorem Qh6 {l:List UInt8} (h:Qau (at' l 0)=true):0<Qac l:=by
 cases l with
 | nil=>exact absurd h (by decide)
 | cons c r =>
  rw [Qxd] at h;have:Qh4 c.toNat=true:=by unfold Qh4;rw [h];rfl
  unfold Qac;simp [Qd8,this]
theorem Qma {l:List UInt8} (h:Qb0 (at' l 0)=true):0<Qdp l:=by
 cases l with
 | nil=>exact absurd h (by decide)
 | cons c r =>
  rw [Qxd] at h;unfold Qdp;simp [Qd8,h]
theorem Qmb (l:List UInt8):∀ i,(Qc1 i l).e=0→i<(Qc1 i l).n∧(Qc1 i l).n≤i+l.length:=by
 induction l with
 | nil=>intro i h;simp [Qc1] at h
 | cons c r ih =>
  intro i h;unfold Qc1 at h ⊢
  by_cases h1:c.toNat=34
  ·simp only [h1,if_true,xD];omega
  ·simp only [h1,if_false] at h ⊢
   by_cases h2:c.toNat=92∨c.toNat=9∨c.toNat=10∨c.toNat=13
   ·simp [h2] at h
   ·simp only [h2,if_false] at h ⊢
    by_cases h3:Qaq c.toNat=true
    ·simp only [h3,if_true,xD] at h ⊢;have:=ih (i+1) h
     omega
    ·simp [h3] at h
theorem Zbn {l:List UInt8} {n:Nat} (hn:n+1<l.length) (h:(Qc9 l n).e=0):0<(Qc9 l n).n∧(Qc9 l n).n≤l.length:=by
 have hm:=Qi7 (l.drop (n+1));rw [List.length_drop] at hm;unfold Qc9 at h ⊢
 by_cases h1:24<n∨24<Qac (l.drop (n+1))
 ·rw [xO h1] at h;cases h
 ·rw [xN h1] at h ⊢
  by_cases h2:Qar ((l.drop (n+1)).take (Qac (l.drop (n+1))))=true
  ·rw [xO h2] at h;cases h
  ·rw [xN h2]
   by_cases h3:Qbz (at' l (n+1))=true
   ·rw [xO h3];exact ⟨by show 0<n+1+_;omega,by show n+1+_≤_;omega⟩
   ·rw [xN h3];exact ⟨by show 0<n+1+_;omega,by show n+1+_≤_;omega⟩
theorem Qxe {l:List UInt8} (hw:0<Qac l) (h:(Qd4 l).e=0):0<(Qd4 l).n∧(Qd4 l).n≤l.length:=by
 have hm:=Qi7 l;unfold Qd4 at h ⊢
 by_cases h1:24<Qac l
 ·rw [xO h1] at h;cases h
 ·rw [xN h1]
  by_cases h2:Qar (l.take (Qac l))=true
  ·rw [xO h2];exact ⟨hw,hm⟩
  ·rw [xN h2]
   by_cases h3:Qbz (at' l 0)=true
   ·rw [xO h3];exact ⟨hw,hm⟩
   ·rw [xN h3];exact ⟨hw,hm⟩
theorem Zec {l:List UInt8} (hw:0<Qdp l) (h:(Qi6 l).e=0):0<(Qi6 l).n∧(Qi6 l).n≤l.length:=by
 have hm:=Qur l;unfold Qi6 at h ⊢
 by_cases h1:1<Qdp l∧at' l 0=48
 ·rw [xO h1] at h;cases h
 ·rw [xN h1] at h ⊢
  by_cases h2:15<Qdp l
  ·rw [xO h2] at h;cases h
  ·rw [xN h2];exact ⟨hw,hm⟩
theorem Qru (l:List UInt8):Qbn l≤l.length:=by
 unfold Qbn
 match l with
 | []=>decide
 | [c] =>
  have h1:at' [c] 1=0:=rfl;rw [h1,show [c].length=1 from rfl]
  by_cases h:at' [c] 0=61
  ·rw [xO h]
   decide
  ·rw [xN h]
   by_cases h2:Qe1 (at' [c] 0)=true
   ·rw [xO h2]
    decide
   ·rw [xN h2]
    decide
 | c :: d :: r =>
  simp only [xD]
  by_cases h:at' (c :: d :: r) 0=61
  ·rw [xO h]
   by_cases h2:at' (c :: d :: r) 1=61
   ·rw [xO h2];omega
   ·rw [xN h2];omega
  ·rw [xN h]
   by_cases h2:Qe1 (at' (c :: d :: r) 0)=true
   ·rw [xO h2];omega
   ·rw [xN h2];omega
theorem Zbo {l:List UInt8} (h:(Qd9 l).e=0):0<(Qd9 l).n∧(Qd9 l).n≤l.length:=by
 have hm:=Qru l;unfold Qd9 at h ⊢
 by_cases hz:Qbn l=0
 ·rw [xO hz] at h;cases h
 ·rw [xN hz];exact ⟨by show 0<Qbn l;omega,hm⟩
theorem Qkh {l:List UInt8} (h:(Qbe l).e=0):0<(Qbe l).n∧(Qbe l).n≤l.length:=by
 unfold Qbe at h ⊢
 by_cases ha:Qaq (at' l 0)=false
 ·rw [xO ha] at h;cases h
 ·rw [xN ha] at h ⊢
  by_cases hl:Qau (at' l 0)=true
  ·rw [xO hl] at h ⊢;unfold Qd1 at h ⊢
   by_cases hd:Qdj l=true
   ·rw [xO hd] at h ⊢
    have hlen:Qac l+1<l.length:=by
     unfold Qdj at hd;simp only [Bool.and_eq_true,decide_eq_true_eq] at hd;exact hd.1.1.2
    exact Zbn hlen h
   ·rw [xN hd] at h ⊢;exact Qxe (Qh6 hl) h
  ·rw [xN hl] at h ⊢
   by_cases hd:Qb0 (at' l 0)=true
   ·rw [xO hd] at h ⊢;exact Zec (Qma hd) h
   ·rw [xN hd] at h ⊢
    by_cases h34:at' l 0=34
    ·rw [xO h34] at h ⊢;have:=Qmb (l.drop 1) 1 h
     rw [List.length_drop] at this;cases l with
     | nil=>exact absurd h34 (by decide)
     | cons c r =>
      rw [xD] at this ⊢;omega
    ·rw [xN h34] at h ⊢;exact Zbo h
theorem Qxf (l:List UInt8):∀ i,(Qc1 i l).n≤i+l.length:=by
 induction l with
 | nil=>intro i;exact xZ _
 | cons c r ih =>
  intro i;unfold Qc1;rw [xD]
  by_cases h1:c.toNat=34
  ·rw [xO h1]
   show i+1≤_
   omega
  ·rw [xN h1]
   by_cases h2:c.toNat=92∨c.toNat=9∨c.toNat=10∨c.toNat=13
   ·rw [xO h2];exact xZ _
   ·rw [xN h2]
    by_cases h3:Qaq c.toNat=true
    ·rw [xO h3];have:=ih (i+1)
     omega
    ·rw [xN h3]
     show i≤_
     omega
theorem Qmc {l:List UInt8} (h:(Qbe l).e≠0):(Qbe l).n≤l.length:=by
 unfold Qbe at h ⊢
 by_cases ha:Qaq (at' l 0)=false
 ·rw [xO ha];exact xZ _
 ·rw [xN ha] at h ⊢
  by_cases hl:Qau (at' l 0)=true
  ·rw [xO hl] at h ⊢;unfold Qd1 at h ⊢
   by_cases hd:Qdj l=true
   ·rw [xO hd] at h ⊢;unfold Qc9 at h ⊢
    split
    ·exact xZ _
    ·split
     ·exact xZ _
     ·rename_i h1 h2
      rw [xN h1,xN h2] at h
      split at h <;> exact absurd rfl h
   ·rw [xN hd] at h ⊢;unfold Qd4 at h ⊢
    split
    ·exact xZ _
    ·rename_i h1
     rw [xN h1] at h
     split at h
     ·exact absurd rfl h
     ·split at h <;> exact absurd rfl h
  ·rw [xN hl] at h ⊢
   by_cases hd:Qb0 (at' l 0)=true
   ·rw [xO hd] at h ⊢;unfold Qi6 at h ⊢
    split
    ·exact xZ _
    ·split
     ·exact xZ _
     ·rename_i h1 h2
      rw [xN h1,xN h2] at h;exact absurd rfl h
   ·rw [xN hd] at h ⊢
    by_cases h34:at' l 0=34
    ·rw [xO h34];have:=Qxf (l.drop 1) 1
     rw [List.length_drop] at this;cases l with
     | nil=>exact absurd h34 (by decide)
     | cons c r =>
      rw [xD] at this ⊢;omega
    ·rw [xN h34] at h ⊢;unfold Qd9 at h ⊢
     split
     ·exact xZ _
     ·rename_i h1
      rw [xN h1] at h;exact absurd rfl h
structure Tok where
 kind:Int
 lead:ByteArray
 text:ByteArray
structure Res where
 toks:List Tok
 tail:ByteArray
 place:Nat
 e:Nat
def Qp7 (s:ByteArray):Nat→Nat→List Tok→Res
 | 0,_,_=>⟨[],ByteArray.empty,0,0⟩
 | f+1,k,acc =>
  if Qam s k=s.size then ⟨acc,s.extract k s.size,0,0⟩
  else if (Qbe (suf s (Qam s k))).e=0 then
   Qp7 s f (Qam s k+(Qbe (suf s (Qam s k))).n) (acc ++ [⟨(Qbe (suf s (Qam s k))).kind,s.extract k (Qam s k),s.extract (Qam s k) (Qam s k+(Qbe (suf s (Qam s k))).n)⟩])
  else ⟨[],ByteArray.empty,Qam s k+(Qbe (suf s (Qam s k))).n,(Qbe (suf s (Qam s k))).e⟩
def Qnq (s:ByteArray):Res:=Qp7 s (s.size+1) 0 []
def Qbf (s:ByteArray):Res:=if 4096<s.size then ⟨[],ByteArray.empty,4096,3⟩ else Qnq s
def ScanAt (s:ByteArray) (k:Nat) (acc:List Tok):Prop:=k≤s.size∧acc.length≤k∧∃ f,s.size<f+k∧Qnq s=Qp7 s f k acc
theorem ScanAt.start (s:ByteArray):ScanAt s 0 []:=⟨xZ _,xA _,s.size+1,by omega,rfl⟩
section
variable {s:ByteArray} {k:Nat} {acc:List Tok}
theorem ScanAt.done (h:ScanAt s k acc) (hs:Qam s k=s.size):Qnq s=⟨acc,s.extract k s.size,0,0⟩:=by
 obtain ⟨hk,_,f,hf,h⟩:=h;obtain ⟨f,rfl⟩:∃ g,f=g+1:=⟨f-1,by omega⟩;rw [h,Qp7,xO hs]
theorem ScanAt.stop (h:ScanAt s k acc) (hs:Qam s k≠s.size) (he:(Qbe (suf s (Qam s k))).e≠0):Qnq s=⟨[],ByteArray.empty,Qam s k+(Qbe (suf s (Qam s k))).n,(Qbe (suf s (Qam s k))).e⟩:=by
 obtain ⟨hk,_,f,hf,h⟩:=h;obtain ⟨f,rfl⟩:∃ g,f=g+1:=⟨f-1,by omega⟩;rw [h,Qp7,xN hs,xN he]
theorem ScanAt.next (h:ScanAt s k acc) (hs:Qam s k≠s.size) (he:(Qbe (suf s (Qam s k))).e=0) :
  ScanAt s (Qam s k+(Qbe (suf s (Qam s k))).n) (acc ++ [⟨(Qbe (suf s (Qam s k))).kind,s.extract k (Qam s k),s.extract (Qam s k) (Qam s k+(Qbe (suf s (Qam s k))).n)⟩]):=by
 obtain ⟨hk,ha,f,hf,h⟩:=h;have h1:=Qkh he;have h2:=Qg7 s k;have h3:=Qge s k hk;rw [Qbt] at h1;obtain ⟨f,rfl⟩:∃ g,f=g+1:=⟨f-1,by omega⟩;refine ⟨by omega,by simp;omega,f,by omega,?_⟩;rw [h,Qp7,xN hs,xO he]
end
theorem Qhj (p:Int→Bool) (l:List UInt8):∀ m,Qd8 p l≤m→Qd8 p (l.take m)=Qd8 p l:=by
 induction l with
 | nil=>intro m _;simp [Qd8]
 | cons c r ih =>
  intro m h;cases m with
  | zero =>
   unfold Qd8 at h
   split at h
   ·omega
   ·rename_i hp
    simp [Qd8,hp]
  | succ m =>
   rw [List.take_succ_cons];unfold Qd8 at h ⊢
   split
   ·rename_i hp
    rw [xO hp] at h;rw [ih m (by omega)]
   ·rfl
theorem Qhk (l:List UInt8) (m k:Nat) (h:k<m):at' (l.take m) k=at' l k:=by
 unfold at';rw [List.getD_eq_getElem?_getD,List.getD_eq_getElem?_getD,List.getElem?_take,xO h]
theorem Qrv (l:List UInt8) (m k:Nat) (h:m≤k):at' (l.take m) k=0:=by
 unfold at';rw [List.getD_eq_getElem?_getD,List.getElem?_take,xN (by omega)];rfl
theorem Qus (l:List UInt8):∀ i,(Qc1 i l).e=0→Qc1 i l=⟨6,(Qc1 i l).n,0⟩:=by
 induction l with
 | nil=>intro i h;simp [Qc1] at h
 | cons c r ih =>
  intro i h;unfold Qc1 at h ⊢
  by_cases h1:c.toNat=34
  ·rw [xO h1]
  ·rw [xN h1] at h ⊢
   by_cases h2:c.toNat=92∨c.toNat=9∨c.toNat=10∨c.toNat=13
   ·rw [xO h2] at h;cases h
   ·rw [xN h2] at h ⊢
    by_cases h3:Qaq c.toNat=true
    ·rw [xO h3] at h ⊢;exact ih _ h
    ·rw [xN h3] at h;cases h
theorem Qut (l:List UInt8):∀ i,(Qc1 i l).e=0→Qc1 i (l.take ((Qc1 i l).n-i))=Qc1 i l:=by
 induction l with
 | nil=>intro i h;simp [Qc1] at h
 | cons c r ih =>
  intro i h;have hn:=(Qmb (c :: r) i h).1;unfold Qc1 at h hn
  by_cases h1:c.toNat=34
  ·have e:Qc1 i (c :: r)=⟨6,i+1,0⟩:=by rw [Qc1,xO h1]
   rw [e,show i+1-i=1 from by omega];rw [List.take_succ_cons,Qc1,xO h1]
  ·rw [xN h1] at h hn
   by_cases h2:c.toNat=92∨c.toNat=9∨c.toNat=10∨c.toNat=13
   ·rw [xO h2] at h;cases h
   ·rw [xN h2] at h hn
    by_cases h3:Qaq c.toNat=true
    ·rw [xO h3] at h hn;have e:Qc1 i (c :: r)=Qc1 (i+1) r:=by rw [Qc1,xN h1,xN h2,xO h3]
     have h4:=(Qmb r (i+1) h).1;rw [e,show (Qc1 (i+1) r).n-i=((Qc1 (i+1) r).n-(i+1))+1 from by omega,List.take_succ_cons,Qc1,xN h1,xN h2,xO h3];exact ih _ h
    ·rw [xN h3] at h;cases h
theorem Quu {l:List UInt8} (_hd:Qdj l=false) (hw:0<Qac l) (h:(Qd4 l).e=0):Qdj (l.take (Qd4 l).n)=false∧Qd4 (l.take (Qd4 l).n)=Qd4 l:=by
 have hn:(Qd4 l).n=Qac l:=by
  unfold Qd4 at h ⊢
  by_cases h1:24<Qac l
  ·rw [xO h1] at h;cases h
  ·rw [xN h1]
   split
   ·rfl
   ·split <;> rfl
 have hwl:Qac (l.take (Qac l))=Qac l:=Qhj _ _ _ (xA _);rw [hn]
 constructor
 ·unfold Qdj;rw [hwl,List.length_take];rw [show decide (Qac l+1<min (Qac l) l.length)=false from xR (by omega)];simp
 ·unfold Qd4;rw [hwl,List.take_take,Nat.min_self,Qhk l _ 0 hw]
theorem Qxg {l:List UInt8} (hd:Qdj l=true) (h:(Qc9 l (Qac l)).e=0) :
  Qdj (l.take (Qc9 l (Qac l)).n)=true∧Qac (l.take (Qc9 l (Qac l)).n)=Qac l∧Qc9 (l.take (Qc9 l (Qac l)).n) (Qac l)=Qc9 l (Qac l):=by
 have hn:(Qc9 l (Qac l)).n=Qac l+1+Qac (l.drop (Qac l+1)):=by
  unfold Qc9 at h ⊢
  by_cases h1:24<Qac l∨24<Qac (l.drop (Qac l+1))
  ·rw [xO h1] at h;cases h
  ·rw [xN h1] at h ⊢
   by_cases h2:Qar ((l.drop (Qac l+1)).take (Qac (l.drop (Qac l+1))))=true
   ·rw [xO h2] at h;cases h
   ·rw [xN h2]
    split <;> rfl
 rw [hn];unfold Qdj at hd;simp only [Bool.and_eq_true,decide_eq_true_eq,beq_iff_eq,Bool.not_eq_true'] at hd;obtain ⟨⟨⟨⟨hu,hr⟩,hlen⟩,h46⟩,hl⟩:=hd
 generalize hW:Qac l=W at *
 have hm:0<Qac (l.drop (W+1)):=by
  refine Qh6 ?_
  have:at' (l.drop (W+1)) 0=at' l (W+1):=by
   unfold at';rw [List.getD_eq_getElem?_getD,List.getD_eq_getElem?_getD,List.getElem?_drop,Nat.add_zero]
  rw [this];exact hl
 have hM:=Qi7 (l.drop (W+1));rw [List.length_drop] at hM
 generalize hMM:Qac (l.drop (W+1))=M at *
 have hw:Qac (l.take (W+1+M))=W:=by
  rw [←hW];exact Qhj _ _ _ (by show Qac l≤_;omega)
 have hdr:(l.take (W+1+M)).drop (W+1)=(l.drop (W+1)).take M:=by rw [List.drop_take,show W+1+M-(W+1)=M from by omega]
 have hw2:Qac ((l.drop (W+1)).take M)=M:=by
  rw [←hMM];exact Qhj _ _ _ (xA _)
 refine ⟨?_,hw,?_⟩
 ·unfold Qdj;rw [hw,Qhk _ _ _ (by omega),Qhk _ _ _ (by omega),Qhk _ _ _ (by omega),List.take_take,Nat.min_eq_left (by omega),List.length_take,hu,hr,h46,hl,xS (by omega)];rfl
 ·unfold Qc9;rw [hdr,hw2,hMM,List.take_take,Nat.min_self,Qhk _ _ _ (by omega)]
theorem Zbp {l:List UInt8} (hw:0<Qdp l) (h:(Qi6 l).e=0):0<(Qi6 l).n∧Qi6 (l.take (Qi6 l).n)=Qi6 l:=by
 have hn:(Qi6 l).n=Qdp l:=by
  unfold Qi6 at h ⊢
  by_cases h1:1<Qdp l∧at' l 0=48
  ·rw [xO h1] at h;cases h
  ·rw [xN h1] at h ⊢
   by_cases h2:15<Qdp l
   ·rw [xO h2] at h;cases h
   ·rw [xN h2]
 rw [hn];have hwl:Qdp (l.take (Qdp l))=Qdp l:=Qhj _ _ _ (xA _);refine ⟨hw,?_⟩;unfold Qi6;rw [hwl,Qhk l _ 0 hw]
theorem Qxh {l:List UInt8} (h:(Qd9 l).e=0):0<(Qd9 l).n∧Qd9 (l.take (Qd9 l).n)=Qd9 l:=by
 have hz:Qbn l≠0:=by
  intro hz;unfold Qd9 at h;rw [xO hz] at h;cases h
 have hn:(Qd9 l).n=Qbn l:=by unfold Qd9;rw [xN hz]
 rw [hn];refine ⟨by omega,?_⟩
 have hs:Qbn (l.take (Qbn l))=Qbn l:=by
  have h0:at' (l.take (Qbn l)) 0=at' l 0:=Qhk _ _ _ (by omega);unfold Qbn at h0 hz ⊢
  by_cases h1:at' l 0=61
  ·simp only [h1,if_true] at h0 hz ⊢
   by_cases h2:at' l 1=61
   ·simp only [h2,if_true] at h0 ⊢;rw [h0,Qhk l 2 1 (by omega),h2];rfl
   ·simp only [h2,if_false] at h0 ⊢;rw [h0,Qrv l 1 1 (by omega)];rfl
  ·simp only [h1,if_false] at h0 hz ⊢
   by_cases h2:Qe1 (at' l 0)=true
   ·simp only [h2,if_true] at h0 ⊢;rw [h0];simp [h1,h2]
   ·simp [h2] at hz
 unfold Qd9;rw [hs]
theorem Zbq {l:List UInt8} (h:(Qbe l).e=0):Qbe (l.take (Qbe l).n)=Qbe l:=by
 have hpos:=(Qkh h).1;have h0:at' (l.take (Qbe l).n) 0=at' l 0:=Qhk _ _ _ hpos
 have key:∀ m,at' (l.take m) 0=at' l 0→Qbe (l.take m)=if Qaq (at' l 0)=false then ⟨0,0,1⟩ else if Qau (at' l 0) then Qd1 (l.take m) else if Qb0 (at' l 0) then Qi6 (l.take m) else if at' l 0=34 then Qc1 1 ((l.take m).drop 1) else Qd9 (l.take m):=by
  intro m hm;unfold Qbe;rw [hm]
 rw [key _ h0];clear key h0;unfold Qbe at h hpos ⊢
 by_cases ha:Qaq (at' l 0)=false
 ·rw [xO ha] at h;cases h
 ·rw [xN ha] at h hpos ⊢;rw [xN ha]
  by_cases hl:Qau (at' l 0)=true
  ·rw [xO hl] at h hpos ⊢;rw [xO hl];unfold Qd1 at h hpos ⊢
   by_cases hd:Qdj l=true
   ·rw [xO hd] at h hpos ⊢;obtain ⟨q1,q2,q3⟩:=Qxg hd h;rw [xO q1,q2,q3]
   ·rw [xN hd] at h hpos ⊢;obtain ⟨q1,q2⟩:=Quu (by simpa using hd) (Qh6 hl) h;rw [xN (by simp [q1]),q2]
  ·rw [xN hl] at h hpos ⊢;rw [xN hl]
   by_cases hd:Qb0 (at' l 0)=true
   ·rw [xO hd] at h hpos ⊢;rw [xO hd];exact (Zbp (Qma hd) h).2
   ·rw [xN hd] at h hpos ⊢;rw [xN hd]
    by_cases h34:at' l 0=34
    ·rw [xO h34] at h hpos ⊢;rw [xO h34,List.drop_take];exact Qut _ _ h
    ·rw [xN h34] at h hpos ⊢;rw [xN h34];exact (Qxh h).2
theorem Zbr {l:List UInt8} (h:(Qbe l).e=0):(Qbe l).kind≠0:=by
 unfold Qbe at h ⊢
 by_cases ha:Qaq (at' l 0)=false
 ·rw [xO ha] at h;cases h
 ·rw [xN ha] at h ⊢
  by_cases hl:Qau (at' l 0)=true
  ·rw [xO hl] at h ⊢;unfold Qd1 at h ⊢
   by_cases hd:Qdj l=true
   ·rw [xO hd] at h ⊢;unfold Qc9 at h ⊢
    split at h
    ·cases h
    ·rename_i h1
     rw [xN h1]
     split at h
     ·cases h
     ·rename_i h2
      rw [xN h2]
      split <;> simp
   ·rw [xN hd] at h ⊢;unfold Qd4 at h ⊢
    split at h
    ·cases h
    ·rename_i h1
     rw [xN h1]
     split
     ·simp
     ·split <;> simp
  ·rw [xN hl] at h ⊢
   by_cases hd:Qb0 (at' l 0)=true
   ·rw [xO hd] at h ⊢;unfold Qi6 at h ⊢
    split at h
    ·cases h
    ·rename_i h1
     rw [xN h1]
     split at h
     ·cases h
     ·rename_i h2
      rw [xN h2];exact (by decide:(5:Nat)≠0)
   ·rw [xN hd] at h ⊢
    by_cases h34:at' l 0=34
    ·rw [xO h34] at h ⊢;rw [Qus _ _ h];exact (by decide:(6:Nat)≠0)
    ·rw [xN h34] at h ⊢;unfold Qd9 at h ⊢
     split at h
     ·cases h
     ·rename_i h1
      rw [xN h1];exact (by decide:(8:Nat)≠0)
theorem Zbs (s:ByteArray) (a k:Nat):at' (suf s a) k=at' (suf s 0) (a+k):=by
 unfold at' suf;rw [List.getD_eq_getElem?_getD,List.getD_eq_getElem?_getD,List.getElem?_drop,List.getElem?_drop,Nat.zero_add]
theorem Quv (l:List UInt8):∀ o,(Qce o l).2=true→(Qce o l).1<l.length→Qaq (at' l (Qce o l).1)=false:=by
 induction l with
 | nil=>intro o _ h;exact absurd h (by simp)
 | cons c r ih =>
  intro o h1 h2;unfold Qce at h1 h2 ⊢
  by_cases ha:Qaq c.toNat=true
  ·simp only [ha,if_true] at h1 h2 ⊢
   cases o
   ·simp only [Bool.false_eq_true,if_false] at h1 h2 ⊢
    by_cases hc:c.toNat=35
    ·simp only [hc,if_true,xD] at h1 h2 ⊢;exact ih true h1 (by omega)
    ·by_cases hw:Qd6 c.toNat=true
     ·simp only [hc,hw,if_true,if_false,xD] at h1 h2 ⊢;exact ih false h1 (by omega)
     ·simp only [hc,hw,if_false] at h1;simp at h1
   ·simp only [if_true,xD] at h1 h2 ⊢;exact ih _ h1 (by omega)
  ·have hf:Qaq c.toNat=false:=by simpa using ha
   simp only [hf,Bool.false_eq_true,if_false];exact hf
theorem Qtj {s:ByteArray} {k:Nat} (ho:Qcz s k=true) (hl:Qam s k<s.size):Qbe (suf s (Qam s k))=⟨0,0,1⟩:=by
 have h:=Quv (suf s k) false ho (by rw [Qbt];unfold Qam at hl;omega);unfold Qbe;rw [xO];rw [Zbs] at h ⊢;exact h
def Qa3 (l:List UInt8):Nat:=if l = [] then 0 else if (Qbe l).e≠0∨(Qbe l).n≠l.length then 0 else (Qbe l).kind
def bl (s:ByteArray):List UInt8:=suf s 0
theorem Qgf (s:ByteArray):(bl s).length=s.size:=by unfold bl;rw [Qbt];omega
theorem Zgl {a b:ByteArray} (h:bl a=bl b):a=b:=by
 unfold bl suf at h;rw [List.drop_zero,List.drop_zero] at h;cases a;cases b
 congr 1
 exact Array.toList_inj.1 h
theorem Qg8 (a b:ByteArray):bl (a ++ b)=bl a ++ bl b:=by
 unfold bl suf;rw [List.drop_zero,List.drop_zero,List.drop_zero,ByteArray.data_append,Array.toList_append]
def Qki (ts:List Tok) (tail:List UInt8):List UInt8:=(ts.flatMap fun t=>bl t.lead ++ bl t.text) ++ tail
theorem Quw (ts:List Tok) (t:Tok):Qki (ts ++ [t]) [] = Qki ts [] ++ (bl t.lead ++ bl t.text):=by
 unfold Qki;rw [List.flatMap_append];simp
def Qo4 (t:Tok):Prop:=(Qa3 (bl t.text):Int)=t.kind∧t.kind≠0∧Qf5 t.lead false=true
theorem Qxi {l:List UInt8} {n:Nat} (h:(Qbe l).e=0) (hn:(Qbe l).n=n):Qa3 (l.take n)=(Qbe l).kind:=by
 subst hn;have h1:=Qkh h;have h2:=Zbq h;unfold Qa3
 rw [xN,h2,xN]
 ·rw [List.length_take];omega
 ·intro e;have:=congrArg List.length e
  rw [List.length_take,xG] at this;omega
theorem Qn0 (l:List UInt8):∀ o,Qce o (l.take (Qce o l).1)=Qce o l:=by
 induction l with
 | nil=>intro o;simp [Qce]
 | cons c r ih =>
  intro o
  by_cases ha:Qaq c.toNat=true
  ·cases o
   ·by_cases hc:c.toNat=35
    ·have e:Qce false (c :: r)=((Qce true r).1+1,(Qce true r).2):=by
      rw [Qce,xO ha,xN (by decide),xO hc]
     rw [e,List.take_succ_cons,Qce,xO ha,xN (by decide),xO hc,ih]
    ·by_cases hw:Qd6 c.toNat=true
     ·have e:Qce false (c :: r)=((Qce false r).1+1,(Qce false r).2):=by
       rw [Qce,xO ha,xN (by decide),xN hc,xO hw]
      rw [e,List.take_succ_cons,Qce,xO ha,xN (by decide),xN hc,xO hw,ih]
     ·have e:Qce false (c :: r)=(0,false):=by
       rw [Qce,xO ha,xN (by decide),xN hc,xN hw]
      rw [e];rfl
   ·have e:Qce true (c :: r)=((Qce (c.toNat != 10) r).1+1,(Qce (c.toNat != 10) r).2):=by
     rw [Qce,xO ha,xO rfl]
    rw [e,List.take_succ_cons,Qce,xO ha,xO rfl,ih]
  ·have e:Qce o (c :: r)=(0,o):=by rw [Qce,xN ha]
   rw [e];rfl
theorem Qtk (s:ByteArray) (k:Nat) (hk:k≤s.size):Qam (s.extract k (Qam s k)) 0=(s.extract k (Qam s k)).size∧Qcz (s.extract k (Qam s k)) 0=Qcz s k:=by
 have h1:=Qge s k hk;have h2:=Qg7 s k;have hn:Qam s k-k=(Qce false (suf s k)).1:=by unfold Qam;omega
 have hs:suf (s.extract k (Qam s k)) 0=(suf s k).take (Qce false (suf s k)).1:=by rw [Qd7,hn]
 constructor
 ·rw [ByteArray.size_extract,Nat.min_eq_left h1,hn];rw [show ∀ x,Qam x 0=0+(Qce false (suf x 0)).1 from fun _=>rfl,hs,Qn0,Nat.zero_add]
 ·rw [show ∀ x,Qcz x 0=(Qce false (suf x 0)).2 from fun _=>rfl,hs,Qn0];rfl
theorem Zbt {s:ByteArray} {k:Nat} (hk:k≤s.size) (hs:Qam s k≠s.size) (he:(Qbe (suf s (Qam s k))).e=0) :
  Qo4 ⟨(Qbe (suf s (Qam s k))).kind,s.extract k (Qam s k),s.extract (Qam s k) (Qam s k+(Qbe (suf s (Qam s k))).n)⟩:=by
 have h1:=Qge s k hk
 have ho:Qcz s k=false:=by
  cases h:Qcz s k
  ·rfl
  ·rw [Qtj h (by omega)] at he;cases he
 refine ⟨?_,?_,?_⟩
 ·show ((Qa3 (suf (s.extract _ _) 0):Nat):Int)=_
  rw [Qd7,Qxi he (by omega)]
 ·have:=Zbr he
  show ((Qbe (suf s (Qam s k))).kind:Int)≠0
  omega
 ·show Qf5 (s.extract k (Qam s k)) false=true
  obtain ⟨c1,c2⟩:=Qtk s k hk;unfold Qf5;rw [c1,c2,ho];simp
theorem Qxj {s:ByteArray} {k:Nat} (hk:k≤s.size) (hs:Qam s k=s.size):Qf5 (s.extract k s.size) true=true:=by
 obtain ⟨c1,_⟩:=Qtk s k hk;rw [hs] at c1;unfold Qf5;rw [c1];simp
def Qxk (s:ByteArray) (r:Res):Prop :=
 (r.e=0→(∀ t∈r.toks,Qo4 t)∧Qki r.toks (bl r.tail)=bl s∧Qf5 r.tail true=true)∧(r.e≠0→r.toks = []∧r.tail=ByteArray.empty)
theorem Qh7 (s:ByteArray) (a b:Nat) (hab:a≤b):(bl s).take a ++ bl (s.extract a b)=(bl s).take b:=by
 unfold bl;rw [Qd7];have:suf s a=(suf s 0).drop a:=by rw [Qe5,Nat.zero_add]
 rw [this,←List.drop_take]
 conv=>rhs;rw [←List.take_append_drop a ((suf s 0).take b)]
 rw [List.take_take,Nat.min_eq_left hab]
theorem Qux (s:ByteArray):∀ f k acc,k≤s.size→s.size<f+k→(∀ t∈acc,Qo4 t)→Qki acc [] = (bl s).take k→Qxk s (Qp7 s f k acc):=by
 intro f
 induction f with
 | zero=>intro k acc hk hf _ _;omega
 | succ f ih =>
  intro k acc hk hf hacc hj;have h2:=Qg7 s k;have h3:=Qge s k hk;unfold Qp7
  by_cases hs:Qam s k=s.size
  ·rw [xO hs];refine ⟨fun _=>⟨hacc,?_,Qxj hk hs⟩,fun h=>absurd rfl h⟩;have:Qki acc (bl (s.extract k s.size))=Qki acc [] ++ bl (s.extract k s.size):=by unfold Qki;simp
   rw [this,hj,Qh7 s k s.size hk,List.take_of_length_le (by rw [Qgf];omega)]
  ·rw [xN hs]
   by_cases he:(Qbe (suf s (Qam s k))).e=0
   ·rw [xO he];have h1:=Qkh he;rw [Qbt] at h1
    refine ih _ _ (by omega) (by omega) ?_ ?_
    ·intro t ht
     rcases List.mem_append.1 ht with h | h
     ·exact hacc t h
     ·rw [List.mem_singleton.1 h];exact Zbt hk hs he
    ·rw [Quw,hj,←xT,Qh7 s k _ h2,Qh7 s _ _ (by omega)]
   ·rw [xN he];exact ⟨fun h=>absurd h he,fun _=>⟨rfl,rfl⟩⟩
theorem Qin (s:ByteArray):Qxk s (Qbf s):=by
 unfold Qbf
 split
 ·exact ⟨(fun h=>by cases h),fun _=>⟨rfl,rfl⟩⟩
 ·exact Qux s _ _ _ (xZ _) (by omega) (by simp) (by simp [Qki])
end Go.Proofs.YtjidpkcjpgdafaaGreat
