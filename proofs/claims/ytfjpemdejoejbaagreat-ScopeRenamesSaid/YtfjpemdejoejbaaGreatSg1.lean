/- Part 1 -/
import Derived.Below
import Derived.Laws.Rows
import Derived.Laws.World
import Derived.Laws.AppendOwn
import Derived.Lib.Hide
import Derived.Lib.Builder
import Derived.Deep.AppendLies
set_option maxRecDepth 100000
set_option maxHeartbeats 4000000
namespace Go.Proofs.YtfjpemdejoejbaaGreat
theorem hQ {p : Prop} (h : p) : Go.RowKit.Hid p := Lib.hid h
open Go.RowKit
theorem xA (n : Nat) : n ≤ n := Nat.le_refl n
theorem xB.{u} {α : Type u} {xs ys : List α} : (xs ++ ys).length = xs.length + ys.length := List.length_append
theorem xC (B : Nat) (w : World) : Below B w w := Below.refl B w
theorem xD.{u} {α : Type u} {a : α} {xs : List α} : (a :: xs).length = xs.length + 1 := List.length_cons
theorem xE {n m k : Nat} : n < m → m ≤ k → n < k := Nat.lt_of_lt_of_le
theorem xF.{u} {α : Type u} {l : List α} {i : Nat} (h : i < l.length) : l[i]? = some l[i] := List.getElem?_eq_getElem h
theorem xG.{u} {α : Type u} : ([] : List α).length = 0 := List.length_nil
theorem xH (w : World) (o : Obj) : (w.alloc o).heap[w.heap.size]? = some o := heap_alloc_new w o
theorem xI (w : World) (o : Obj) : (w.alloc o).heap.size = w.heap.size + 1 := World.size_alloc w o
theorem xJ {w w' : World} {a : Addr} : w'.heap[a.block]? = w.heap[a.block]? → w'.cell? a = w.cell? a := World.cell?_of_block
theorem xK (w : World) (a : Addr) {u : Value} : w.cell? a = some u → a.block < w.heap.size := World.block_lt_of_cell? w a
theorem xL {w : World} {b : Nat} {cs : Array Value} {T : TypeId} (h : w.heap[b]? = some (.cells cs T)) (j : Nat) : w.frozen? ⟨b, j, none⟩ = false := Lib.frozen_of_heap h j
theorem xM {w : World} {B : Nat} {cs : Array Value} {t : TypeId} {fr : Nat × Nat} (h : w.heap[B]? = some (.cells cs t fr)) (j : Nat) (u : Value) (hu : cs.toList[j]? = some u) : w.cell? ((⟨B, 0, none⟩ : Addr).add j) = some u := World.news_of_block h j u hu
theorem xN.{u} {c : Prop} {h : Decidable c} (n : ¬c) {α : Sort u} {t e : α} : (if c then t else e) = e := if_neg n
theorem xO.{u} {c : Prop} {h : Decidable c} (n : c) {α : Sort u} {t e : α} : (if c then t else e) = t := if_pos n
theorem xP.{u} {α : Type u} {i : Nat} {a : α} {l : List α} : l[i]? = some a ↔ ∃ h : i < l.length, l[i] = a := List.getElem?_eq_some_iff
theorem xQ {n m k : Nat} : n ≤ m → m ≤ k → n ≤ k := Nat.le_trans
theorem xR {p : Prop} [Decidable p] : ¬p → decide p = false := decide_eq_false
theorem xS {p : Prop} [Decidable p] : p → decide p = true := decide_eq_true
theorem xT.{u} {α : Type u} (a b c : List α) : a ++ b ++ c = a ++ (b ++ c) := List.append_assoc a b c
theorem xU.{u} {α : Type u} (a : List α) : [] ++ a = a := List.nil_append a
theorem xV.{u} {α : Type u} {a : α} {b c : List α} : a :: b ++ c = a :: (b ++ c) := List.cons_append
theorem xW (n : Nat) : n < n.succ := Nat.lt_succ_self n
theorem xX.{u} {α : Type u} {a b : List α} {i : Nat} (h : a.length ≤ i) : (a ++ b)[i]? = b[i - a.length]? := List.getElem?_append_right h
theorem xY.{u} {α : Type u} {xs : Array α} {i j : Nat} (h : i ≠ j) {a : α} : (xs.setIfInBounds i a)[j]? = xs[j]? := Array.getElem?_setIfInBounds_ne h
theorem xZ (n : Nat) : 0 ≤ n := Nat.zero_le n
theorem yA.{u} {α : Type u} {l : List α} {i : Nat} {a : α} (h : l[i]? = some a) : a ∈ l := List.mem_of_getElem? h
theorem yB.{u} {α : Type u} {a b : List α} {i : Nat} (h : i < a.length) : (a ++ b)[i]? = a[i]? := List.getElem?_append_left h
def Qd9 (c:Int):Bool:=c==9 || c==10 || c==13 || c==32
def Qb1 (c:Int):Bool:=decide (65≤c) && decide (c≤90)
def Qh5 (c:Int):Bool:=decide (97≤c) && decide (c≤122)
def Qav (c:Int):Bool:=Qb1 c || Qh5 c
def Qb2 (c:Int):Bool:=decide (48≤c) && decide (c≤57)
def Qh9 (c:Int):Bool:=Qav c || Qb2 c || c==95
def Qf7 (c:Int):Bool:=decide (32≤c) && decide (c≤126)
def Qap (c:Int):Bool:=Qd9 c || (decide (32<c) && decide (c≤126))
theorem Qia (c:Int):Qap c=(Qd9 c || Qf7 c):=by
 unfold Qap Qd9 Qf7;rw [Bool.eq_iff_iff];simp
 omega
def suf (s:ByteArray) (k:Nat):List UInt8:=s.data.toList.drop k
theorem Qc8 (s:ByteArray) (k:Nat) (h:k<s.size):suf s k=s[k] :: suf s (k+1):=by
 unfold suf;rw [List.drop_eq_getElem_cons (by simpa using h)];rfl
theorem Qkm (s:ByteArray) (k:Nat) (h:s.size≤k):suf s k = []:=by
 unfold suf;exact List.drop_eq_nil_of_le (by simpa using h)
theorem Qbw (s:ByteArray) (k:Nat):(suf s k).length=s.size-k:=by
 unfold suf;simp
def Qci:Bool→List UInt8→Nat × Bool
 | o,[]=>(0,o)
 | o,c :: r =>
  if Qap c.toNat then
   if o then ((Qci (c.toNat != 10) r).1+1,(Qci (c.toNat != 10) r).2)
   else if c.toNat=35 then ((Qci true r).1+1,(Qci true r).2)
   else if Qd9 c.toNat then ((Qci false r).1+1,(Qci false r).2)
   else (0,false)
  else (0,o)
theorem Zcd (o:Bool) (l:List UInt8):(Qci o l).1≤l.length:=by
 induction l generalizing o with
 | nil=>simp [Qci]
 | cons c r ih =>
  have h1:=ih (c.toNat != 10);have h2:=ih true;have h3:=ih false;unfold Qci;simp only [xD]
  split
  ·split
   ·simp only [];omega
   ·split
    ·simp only [];omega
    ·split
     ·simp only [];omega
     ·simp
  ·simp
def Qal (s:ByteArray) (i:Nat):Nat:=i+(Qci false (suf s i)).1
def Qc2 (s:ByteArray) (i:Nat):Bool:=(Qci false (suf s i)).2
theorem Qg7 (s:ByteArray) (i:Nat):i≤Qal s i:=by unfold Qal;omega
theorem Qgc (s:ByteArray) (i:Nat) (h:i≤s.size):Qal s i≤s.size:=by
 have:=Zcd false (suf s i)
 rw [Qbw] at this;unfold Qal;omega
def SkipAt (s:ByteArray) (i k:Nat) (o:Bool):Prop:=i≤k∧k≤s.size∧Qal s i=k+(Qci o (suf s k)).1∧Qc2 s i=(Qci o (suf s k)).2
theorem SkipAt.start (s:ByteArray) (i:Nat) (h:i≤s.size):SkipAt s i i false:=⟨xA _,h,rfl,rfl⟩
section
variable {s:ByteArray} {i k:Nat} {o:Bool}
theorem SkipAt.done (h:SkipAt s i k o) (hk:¬ k<s.size):Qal s i=k∧Qc2 s i=o:=by
 obtain ⟨_,_,h1,h2⟩:=h;rw [Qkm s k (by omega)] at h1 h2;exact ⟨h1,h2⟩
theorem SkipAt.bad (h:SkipAt s i k o) (hk:k<s.size) (ha:Qap s[k].toNat=false):Qal s i=k∧Qc2 s i=o:=by
 obtain ⟨_,_,h1,h2⟩:=h;rw [Qc8 s k hk] at h1 h2;simp [Qci,ha] at h1 h2
 exact ⟨h1,h2⟩
theorem SkipAt.other (h:SkipAt s i k false) (hk:k<s.size) (ha:Qd9 s[k].toNat=false) (hc:s[k].toNat≠35):Qal s i=k∧Qc2 s i=false:=by
 obtain ⟨_,_,h1,h2⟩:=h;rw [Qc8 s k hk] at h1 h2;simp [Qci,ha,hc] at h1 h2
 exact ⟨h1,h2⟩
theorem SkipAt.inside (h:SkipAt s i k true) (hk:k<s.size) (ha:Qap s[k].toNat=true):SkipAt s i (k+1) (s[k].toNat != 10):=by
 obtain ⟨h0,_,h1,h2⟩:=h;rw [Qc8 s k hk] at h1 h2;simp only [Qci,ha,if_true] at h1 h2;exact ⟨by omega,by omega,by omega,h2⟩
theorem SkipAt.opens (h:SkipAt s i k false) (hk:k<s.size) (hc:s[k].toNat=35):SkipAt s i (k+1) true:=by
 obtain ⟨h0,_,h1,h2⟩:=h;have ha:Qap ((35:Nat):Int)=true:=by decide
 rw [Qc8 s k hk] at h1 h2;simp only [Qci,hc,ha,if_true,Bool.false_eq_true,if_false] at h1 h2;exact ⟨by omega,by omega,by omega,h2⟩
theorem Qoq {c:Int} (h:Qd9 c=true):Qap c=true:=by unfold Qap;simp [h]
theorem SkipAt.white (h:SkipAt s i k false) (hk:k<s.size) (ha:Qd9 s[k].toNat=true):SkipAt s i (k+1) false:=by
 obtain ⟨h0,_,h1,h2⟩:=h;have hc:s[k].toNat≠35:=by intro e;rw [e] at ha;exact absurd ha (by decide)
 rw [Qc8 s k hk] at h1 h2;simp only [Qci,ha,hc,Qoq ha,if_true,Bool.false_eq_true,if_false] at h1 h2;exact ⟨by omega,by omega,by omega,h2⟩
end
def Qf4 (s:ByteArray) (fin:Bool):Bool:=(Qal s 0==s.size) && (fin || !Qc2 s 0)
def Qjf (s:ByteArray) (i:Nat):Int:=if Qc2 s i=true∧Qal s i<s.size then (Qal s i:Int) else -1
theorem Qpv {s:ByteArray} {i k:Nat} (h:Qal s i=k∧Qc2 s i=true) (hk:k<s.size):Qjf s i=k:=by
 unfold Qjf;rw [h.1,xO ⟨h.2,hk⟩]
theorem Qiu {s:ByteArray} {i k:Nat} {o:Bool} (h:Qal s i=k∧Qc2 s i=o) (hk:o=false∨¬ k<s.size):Qjf s i = -1:=by
 unfold Qjf;rw [h.1,h.2,xN (by rcases hk with rfl | hk <;> simp_all)]
section
variable {s:ByteArray} {i k:Nat}
theorem SkipAt.begun (h:SkipAt s i k false) (hk:k<s.size) (hc:s[k].toNat=35):SkipAt s i k true:=by
 obtain ⟨h0,h3,h1,h2⟩:=h
 refine ⟨h0,h3,?_,?_⟩
 ·rw [h1,Qc8 s k hk];have ha:Qap (35:Int)=true:=by decide
  simp [Qci,hc,ha]
 ·rw [h2,Qc8 s k hk];have ha:Qap (35:Int)=true:=by decide
  simp [Qci,hc,ha]
theorem SkipAt.ended (h:SkipAt s i k true) (hk:k<s.size) (hc:s[k].toNat=10):SkipAt s i k false:=by
 obtain ⟨h0,h3,h1,h2⟩:=h;have ha:Qap (10:Int)=true:=by decide
 have hw:Qd9 (10:Int)=true:=by decide
 refine ⟨h0,h3,?_,?_⟩
 ·rw [h1,Qc8 s k hk];simp [Qci,hc,ha,hw]
 ·rw [h2,Qc8 s k hk];simp [Qci,hc,ha,hw]
end
def Qpw:Bool→List UInt8→Bool
 | o,[]=>o
 | o,c :: r=>Qpw (if c.toNat=10 then false else if c.toNat=35 then true else o) r
theorem Qvb (o:Bool) (l:List UInt8) (h:(Qci o l).1=l.length):Qpw o l=(Qci o l).2:=by
 induction l generalizing o with
 | nil=>simp [Qpw,Qci]
 | cons c r ih =>
  unfold Qpw;unfold Qci at h ⊢
  by_cases ha:Qap c.toNat=true
  ·simp only [ha,if_true] at h ⊢
   cases o
   ·simp only [Bool.false_eq_true,if_false] at h ⊢
    by_cases hc:c.toNat=35
    ·simp only [hc,if_true,xD] at h ⊢
     simpa using ih true (by omega)
    ·by_cases hw:Qd9 c.toNat=true
     ·simp only [hc,hw,if_true,if_false,xD] at h ⊢
      simpa using ih false (by omega)
     ·simp only [hc,hw,if_false,xD] at h;simp at h
   ·simp only [if_true,xD] at h ⊢;rw [←ih _ (by omega)]
    congr 1
    by_cases h10:c.toNat=10 <;> simp [h10]
  ·have hf:Qap c.toNat=false:=by simpa using ha
   rw [hf] at h;simp at h
theorem Qea (s:ByteArray) (a b:Nat):suf (s.extract a b) 0=(suf s a).take (b-a):=by
 unfold suf;rw [List.drop_zero,ByteArray.data_extract,Array.toList_extract,List.extract_eq_take_drop]
theorem Qiv (s:ByteArray) (a:Nat):suf (s.extract a s.size) 0=suf s a:=by
 rw [Qea,List.take_of_length_le (by rw [Qbw];omega)]
theorem Qe7 (s:ByteArray) (a n:Nat):(suf s a).drop n=suf s (a+n):=by
 unfold suf;rw [List.drop_drop]
def Qeb (p:Int→Bool):List UInt8→Nat
 | []=>0
 | c :: r=>if p c.toNat then Qeb p r+1 else 0
theorem Ql5 (p:Int→Bool) (l:List UInt8):Qeb p l≤l.length:=by
 induction l with
 | nil=>simp [Qeb]
 | cons c r ih=>unfold Qeb;split <;> simp <;> omega
def RunAt (p:Int→Bool) (s:ByteArray) (i k:Nat):Prop:=i≤k∧k≤s.size∧Qeb p (suf s i)+i=k+Qeb p (suf s k)
theorem RunAt.start (p:Int→Bool) (s:ByteArray) (i:Nat) (h:i≤s.size):RunAt p s i i:=⟨xA _,h,by omega⟩
section
variable {p:Int→Bool} {s:ByteArray} {i k:Nat}
theorem RunAt.next (h:RunAt p s i k) (hk:k<s.size) (hp:p s[k].toNat=true):RunAt p s i (k+1):=by
 obtain ⟨h0,_,h1⟩:=h;rw [Qc8 s k hk] at h1;simp only [Qeb,hp,if_true] at h1;exact ⟨by omega,by omega,by omega⟩
theorem RunAt.stop (h:RunAt p s i k) (hk:k<s.size) (hp:p s[k].toNat=false):Qeb p (suf s i)+i=k:=by
 obtain ⟨h0,_,h1⟩:=h;rw [Qc8 s k hk] at h1;simp only [Qeb,hp] at h1
 simpa using h1
theorem RunAt.done (h:RunAt p s i k) (hk:¬ k<s.size):Qeb p (suf s i)+i=k:=by
 obtain ⟨h0,_,h1⟩:=h;rw [Qkm s k (by omega)] at h1
 simpa [Qeb] using h1
end
def Qac (l:List UInt8):Nat:=Qeb Qh9 l
def Qds (l:List UInt8):Nat:=Qeb Qb2 l
def reservedWords:List (List UInt8):=[[109,111,100,117,108,101],[100,101,102],[116,121,112,101],[108,101,116],[105,110],[105,102],[116,104,101,110],[101,108,115,101],[116,114,117,101],[102,97,108,115,101],[73,110,116],[84,101,120,116],[66,111,111,108]]
def Qar (l:List UInt8):Bool:=reservedWords.contains l
structure Tk where
 kind:Nat
 n:Nat
 e:Nat
def at' (l:List UInt8) (k:Nat):Nat:=(l.getD k 0).toNat
def Qdd (l:List UInt8) (n:Nat):Tk :=
 if 24<n∨24<Qac (l.drop (n+1)) then ⟨0,0,3⟩
 else if Qar ((l.drop (n+1)).take (Qac (l.drop (n+1)))) then ⟨0,0,2⟩
 else if Qb1 (at' l (n+1)) then ⟨4,n+1+Qac (l.drop (n+1)),0⟩
 else ⟨3,n+1+Qac (l.drop (n+1)),0⟩
def Qdk (l:List UInt8):Bool :=
 Qb1 (at' l 0) && !Qar (l.take (Qac l)) && decide (Qac l+1<l.length) && at' l (Qac l)==46 && Qav (at' l (Qac l+1))
def Qd5 (l:List UInt8):Tk :=
 if 24<Qac l then ⟨0,0,3⟩
 else if Qar (l.take (Qac l)) then ⟨7,Qac l,0⟩
 else if Qb1 (at' l 0) then ⟨2,Qac l,0⟩
 else ⟨1,Qac l,0⟩
def Qd2 (l:List UInt8):Tk:=if Qdk l then Qdd l (Qac l) else Qd5 l
def Qjg (l:List UInt8):Tk :=
 if 1<Qds l∧at' l 0=48 then ⟨0,0,2⟩
 else if 15<Qds l then ⟨0,0,3⟩
 else ⟨5,Qds l,0⟩
def Qc4:Nat→List UInt8→Tk
 | _,[]=>⟨0,0,2⟩
 | i,c :: r =>
  if c.toNat=34 then ⟨6,i+1,0⟩
  else if c.toNat=92∨c.toNat=9∨c.toNat=10∨c.toNat=13 then ⟨0,0,2⟩
  else if Qap c.toNat then Qc4 (i+1) r
  else ⟨0,i,1⟩
def Qe2 (c:Int):Bool:=c==40 || c==41 || c==91 || c==93 || c==58 || c==44 || c==43 || c==45 || c==42 || c==60 || c==63
def Qbq (l:List UInt8):Nat :=
 if at' l 0=61 then (if at' l 1=61 then 2 else 1)
 else if Qe2 (at' l 0) then 1 else 0
def Qec (l:List UInt8):Tk:=if Qbq l=0 then ⟨0,0,2⟩ else ⟨8,Qbq l,0⟩
def Qbg (l:List UInt8):Tk :=
 if Qap (at' l 0)=false then ⟨0,0,1⟩
 else if Qav (at' l 0) then Qd2 l
 else if Qb2 (at' l 0) then Qjg l
 else if at' l 0=34 then Qc4 1 (l.drop 1)
 else Qec l
theorem Qi9 (s:ByteArray) (a k:Nat) (h:a+k<s.size):at' (suf s a) k=s[a+k].toNat:=by
 unfold at' suf;rw [List.getD_eq_getElem?_getD,List.getElem?_drop,xF (by simpa using h)];rfl
theorem Qjh (l:List UInt8):Qac l≤l.length:=Ql5 Qh9 l
theorem Qvc (l:List UInt8):Qds l≤l.length:=Ql5 Qb2 l
theorem Qxz (c:UInt8) (r:List UInt8):at' (c :: r) 0=c.toNat:=rfl
theorem Qib {l:List UInt8} (h:Qav (at' l 0)=true):0<Qac l:=by
 cases l with
 | nil=>exact absurd h (by decide)
 | cons c r =>
  rw [Qxz] at h;have:Qh9 c.toNat=true:=by unfold Qh9;rw [h];rfl
  unfold Qac;simp [Qeb,this]
theorem Ql6 {l:List UInt8} (h:Qb2 (at' l 0)=true):0<Qds l:=by
 cases l with
 | nil=>exact absurd h (by decide)
 | cons c r =>
  rw [Qxz] at h;unfold Qds;simp [Qeb,h]
theorem Ql7 (l:List UInt8):∀ i,(Qc4 i l).e=0→i<(Qc4 i l).n∧(Qc4 i l).n≤i+l.length:=by
 induction l with
 | nil=>intro i h;simp [Qc4] at h
 | cons c r ih =>
  intro i h;unfold Qc4 at h ⊢
  by_cases h1:c.toNat=34
  ·simp only [h1,if_true,xD];omega
  ·simp only [h1,if_false] at h ⊢
   by_cases h2:c.toNat=92∨c.toNat=9∨c.toNat=10∨c.toNat=13
   ·simp [h2] at h
   ·simp only [h2,if_false] at h ⊢
    by_cases h3:Qap c.toNat=true
    ·simp only [h3,if_true,xD] at h ⊢;have:=ih (i+1) h
     omega
    ·simp [h3] at h
theorem Zce {l:List UInt8} {n:Nat} (hn:n+1<l.length) (h:(Qdd l n).e=0):0<(Qdd l n).n∧(Qdd l n).n≤l.length:=by
 have hm:=Qjh (l.drop (n+1));rw [List.length_drop] at hm;unfold Qdd at h ⊢
 by_cases h1:24<n∨24<Qac (l.drop (n+1))
 ·rw [xO h1] at h;cases h
 ·rw [xN h1] at h ⊢
  by_cases h2:Qar ((l.drop (n+1)).take (Qac (l.drop (n+1))))=true
  ·rw [xO h2] at h;cases h
  ·rw [xN h2]
   by_cases h3:Qb1 (at' l (n+1))=true
   ·rw [xO h3];exact ⟨by show 0<n+1+_;omega,by show n+1+_≤_;omega⟩
   ·rw [xN h3];exact ⟨by show 0<n+1+_;omega,by show n+1+_≤_;omega⟩
theorem Qx0 {l:List UInt8} (hw:0<Qac l) (h:(Qd5 l).e=0):0<(Qd5 l).n∧(Qd5 l).n≤l.length:=by
 have hm:=Qjh l;unfold Qd5 at h ⊢
 by_cases h1:24<Qac l
 ·rw [xO h1] at h;cases h
 ·rw [xN h1]
  by_cases h2:Qar (l.take (Qac l))=true
  ·rw [xO h2];exact ⟨hw,hm⟩
  ·rw [xN h2]
   by_cases h3:Qb1 (at' l 0)=true
   ·rw [xO h3];exact ⟨hw,hm⟩
   ·rw [xN h3];exact ⟨hw,hm⟩
theorem Zfd {l:List UInt8} (hw:0<Qds l) (h:(Qjg l).e=0):0<(Qjg l).n∧(Qjg l).n≤l.length:=by
 have hm:=Qvc l;unfold Qjg at h ⊢
 by_cases h1:1<Qds l∧at' l 0=48
 ·rw [xO h1] at h;cases h
 ·rw [xN h1] at h ⊢
  by_cases h2:15<Qds l
  ·rw [xO h2] at h;cases h
  ·rw [xN h2];exact ⟨hw,hm⟩
theorem Qrz (l:List UInt8):Qbq l≤l.length:=by
 unfold Qbq
 match l with
 | []=>decide
 | [c] =>
  have h1:at' [c] 1=0:=rfl;rw [h1,show [c].length=1 from rfl]
  by_cases h:at' [c] 0=61
  ·rw [xO h]
   decide
  ·rw [xN h]
   by_cases h2:Qe2 (at' [c] 0)=true
   ·rw [xO h2]
    decide
   ·rw [xN h2]
    decide
 | c :: d :: r =>
  simp only [xD]
  by_cases h:at' (c :: d :: r) 0=61
  ·rw [xO h]
   by_cases h2:at' (c :: d :: r) 1=61
   ·rw [xO h2];omega
   ·rw [xN h2];omega
  ·rw [xN h]
   by_cases h2:Qe2 (at' (c :: d :: r) 0)=true
   ·rw [xO h2];omega
   ·rw [xN h2];omega
theorem Zcf {l:List UInt8} (h:(Qec l).e=0):0<(Qec l).n∧(Qec l).n≤l.length:=by
 have hm:=Qrz l;unfold Qec at h ⊢
 by_cases hz:Qbq l=0
 ·rw [xO hz] at h;cases h
 ·rw [xN hz];exact ⟨by show 0<Qbq l;omega,hm⟩
theorem Qkn {l:List UInt8} (h:(Qbg l).e=0):0<(Qbg l).n∧(Qbg l).n≤l.length:=by
 unfold Qbg at h ⊢
 by_cases ha:Qap (at' l 0)=false
 ·rw [xO ha] at h;cases h
 ·rw [xN ha] at h ⊢
  by_cases hl:Qav (at' l 0)=true
  ·rw [xO hl] at h ⊢;unfold Qd2 at h ⊢
   by_cases hd:Qdk l=true
   ·rw [xO hd] at h ⊢
    have hlen:Qac l+1<l.length:=by
     unfold Qdk at hd;simp only [Bool.and_eq_true,decide_eq_true_eq] at hd;exact hd.1.1.2
    exact Zce hlen h
   ·rw [xN hd] at h ⊢;exact Qx0 (Qib hl) h
  ·rw [xN hl] at h ⊢
   by_cases hd:Qb2 (at' l 0)=true
   ·rw [xO hd] at h ⊢;exact Zfd (Ql6 hd) h
   ·rw [xN hd] at h ⊢
    by_cases h34:at' l 0=34
    ·rw [xO h34] at h ⊢;have:=Ql7 (l.drop 1) 1 h
     rw [List.length_drop] at this;cases l with
     | nil=>exact absurd h34 (by decide)
     | cons c r =>
      rw [xD] at this ⊢;omega
    ·rw [xN h34] at h ⊢;exact Zcf h
theorem Qx1 (l:List UInt8):∀ i,(Qc4 i l).n≤i+l.length:=by
 induction l with
 | nil=>intro i;exact xZ _
 | cons c r ih =>
  intro i;unfold Qc4;rw [xD]
  by_cases h1:c.toNat=34
  ·rw [xO h1]
   show i+1≤_
   omega
  ·rw [xN h1]
   by_cases h2:c.toNat=92∨c.toNat=9∨c.toNat=10∨c.toNat=13
   ·rw [xO h2];exact xZ _
   ·rw [xN h2]
    by_cases h3:Qap c.toNat=true
    ·rw [xO h3];have:=ih (i+1)
     omega
    ·rw [xN h3]
     show i≤_
     omega
theorem Ql8 {l:List UInt8} (h:(Qbg l).e≠0):(Qbg l).n≤l.length:=by
 unfold Qbg at h ⊢
 by_cases ha:Qap (at' l 0)=false
 ·rw [xO ha];exact xZ _
 ·rw [xN ha] at h ⊢
  by_cases hl:Qav (at' l 0)=true
  ·rw [xO hl] at h ⊢;unfold Qd2 at h ⊢
   by_cases hd:Qdk l=true
   ·rw [xO hd] at h ⊢;unfold Qdd at h ⊢
    split
    ·exact xZ _
    ·split
     ·exact xZ _
     ·rename_i h1 h2
      rw [xN h1,xN h2] at h
      split at h <;> exact absurd rfl h
   ·rw [xN hd] at h ⊢;unfold Qd5 at h ⊢
    split
    ·exact xZ _
    ·rename_i h1
     rw [xN h1] at h
     split at h
     ·exact absurd rfl h
     ·split at h <;> exact absurd rfl h
  ·rw [xN hl] at h ⊢
   by_cases hd:Qb2 (at' l 0)=true
   ·rw [xO hd] at h ⊢;unfold Qjg at h ⊢
    split
    ·exact xZ _
    ·split
     ·exact xZ _
     ·rename_i h1 h2
      rw [xN h1,xN h2] at h;exact absurd rfl h
   ·rw [xN hd] at h ⊢
    by_cases h34:at' l 0=34
    ·rw [xO h34];have:=Qx1 (l.drop 1) 1
     rw [List.length_drop] at this;cases l with
     | nil=>exact absurd h34 (by decide)
     | cons c r =>
      rw [xD] at this ⊢;omega
    ·rw [xN h34] at h ⊢;unfold Qec at h ⊢
     split
     ·exact xZ _
     ·rename_i h1
      rw [xN h1] at h;exact absurd rfl h
structure Tok where
 kind:Int
 lead:ByteArray
 text:ByteArray
structure Res where
 toks:List Tok
 tail:ByteArray
 place:Nat
 e:Nat
def Qpx (s:ByteArray):Nat→Nat→List Tok→Res
 | 0,_,_=>⟨[],ByteArray.empty,0,0⟩
 | f+1,k,acc =>
  if Qal s k=s.size then ⟨acc,s.extract k s.size,0,0⟩
  else if (Qbg (suf s (Qal s k))).e=0 then
   Qpx s f (Qal s k+(Qbg (suf s (Qal s k))).n) (acc ++ [⟨(Qbg (suf s (Qal s k))).kind,s.extract k (Qal s k),s.extract (Qal s k) (Qal s k+(Qbg (suf s (Qal s k))).n)⟩])
  else ⟨[],ByteArray.empty,Qal s k+(Qbg (suf s (Qal s k))).n,(Qbg (suf s (Qal s k))).e⟩
def Qne (s:ByteArray):Res:=Qpx s (s.size+1) 0 []
def Qbh (s:ByteArray):Res:=if 4096<s.size then ⟨[],ByteArray.empty,4096,3⟩ else Qne s
def ScanAt (s:ByteArray) (k:Nat) (acc:List Tok):Prop:=k≤s.size∧acc.length≤k∧∃ f,s.size<f+k∧Qne s=Qpx s f k acc
theorem ScanAt.start (s:ByteArray):ScanAt s 0 []:=⟨xZ _,xA _,s.size+1,by omega,rfl⟩
section
variable {s:ByteArray} {k:Nat} {acc:List Tok}
theorem ScanAt.done (h:ScanAt s k acc) (hs:Qal s k=s.size):Qne s=⟨acc,s.extract k s.size,0,0⟩:=by
 obtain ⟨hk,_,f,hf,h⟩:=h;obtain ⟨f,rfl⟩:∃ g,f=g+1:=⟨f-1,by omega⟩;rw [h,Qpx,xO hs]
theorem ScanAt.stop (h:ScanAt s k acc) (hs:Qal s k≠s.size) (he:(Qbg (suf s (Qal s k))).e≠0):Qne s=⟨[],ByteArray.empty,Qal s k+(Qbg (suf s (Qal s k))).n,(Qbg (suf s (Qal s k))).e⟩:=by
 obtain ⟨hk,_,f,hf,h⟩:=h;obtain ⟨f,rfl⟩:∃ g,f=g+1:=⟨f-1,by omega⟩;rw [h,Qpx,xN hs,xN he]
theorem ScanAt.next (h:ScanAt s k acc) (hs:Qal s k≠s.size) (he:(Qbg (suf s (Qal s k))).e=0) :
  ScanAt s (Qal s k+(Qbg (suf s (Qal s k))).n) (acc ++ [⟨(Qbg (suf s (Qal s k))).kind,s.extract k (Qal s k),s.extract (Qal s k) (Qal s k+(Qbg (suf s (Qal s k))).n)⟩]):=by
 obtain ⟨hk,ha,f,hf,h⟩:=h;have h1:=Qkn he;have h2:=Qg7 s k;have h3:=Qgc s k hk;rw [Qbw] at h1;obtain ⟨f,rfl⟩:∃ g,f=g+1:=⟨f-1,by omega⟩;refine ⟨by omega,by simp;omega,f,by omega,?_⟩;rw [h,Qpx,xN hs,xO he]
end
theorem Qhl (p:Int→Bool) (l:List UInt8):∀ m,Qeb p l≤m→Qeb p (l.take m)=Qeb p l:=by
 induction l with
 | nil=>intro m _;simp [Qeb]
 | cons c r ih =>
  intro m h;cases m with
  | zero =>
   unfold Qeb at h
   split at h
   ·omega
   ·rename_i hp
    simp [Qeb,hp]
  | succ m =>
   rw [List.take_succ_cons];unfold Qeb at h ⊢
   split
   ·rename_i hp
    rw [xO hp] at h;rw [ih m (by omega)]
   ·rfl
theorem Qhm (l:List UInt8) (m k:Nat) (h:k<m):at' (l.take m) k=at' l k:=by
 unfold at';rw [List.getD_eq_getElem?_getD,List.getD_eq_getElem?_getD,List.getElem?_take,xO h]
theorem Qr0 (l:List UInt8) (m k:Nat) (h:m≤k):at' (l.take m) k=0:=by
 unfold at';rw [List.getD_eq_getElem?_getD,List.getElem?_take,xN (by omega)];rfl
theorem Qvd (l:List UInt8):∀ i,(Qc4 i l).e=0→Qc4 i l=⟨6,(Qc4 i l).n,0⟩:=by
 induction l with
 | nil=>intro i h;simp [Qc4] at h
 | cons c r ih =>
  intro i h;unfold Qc4 at h ⊢
  by_cases h1:c.toNat=34
  ·rw [xO h1]
  ·rw [xN h1] at h ⊢
   by_cases h2:c.toNat=92∨c.toNat=9∨c.toNat=10∨c.toNat=13
   ·rw [xO h2] at h;cases h
   ·rw [xN h2] at h ⊢
    by_cases h3:Qap c.toNat=true
    ·rw [xO h3] at h ⊢;exact ih _ h
    ·rw [xN h3] at h;cases h
theorem Qve (l:List UInt8):∀ i,(Qc4 i l).e=0→Qc4 i (l.take ((Qc4 i l).n-i))=Qc4 i l:=by
 induction l with
 | nil=>intro i h;simp [Qc4] at h
 | cons c r ih =>
  intro i h;have hn:=(Ql7 (c :: r) i h).1;unfold Qc4 at h hn
  by_cases h1:c.toNat=34
  ·have e:Qc4 i (c :: r)=⟨6,i+1,0⟩:=by rw [Qc4,xO h1]
   rw [e,show i+1-i=1 from by omega];rw [List.take_succ_cons,Qc4,xO h1]
  ·rw [xN h1] at h hn
   by_cases h2:c.toNat=92∨c.toNat=9∨c.toNat=10∨c.toNat=13
   ·rw [xO h2] at h;cases h
   ·rw [xN h2] at h hn
    by_cases h3:Qap c.toNat=true
    ·rw [xO h3] at h hn;have e:Qc4 i (c :: r)=Qc4 (i+1) r:=by rw [Qc4,xN h1,xN h2,xO h3]
     have h4:=(Ql7 r (i+1) h).1;rw [e,show (Qc4 (i+1) r).n-i=((Qc4 (i+1) r).n-(i+1))+1 from by omega,List.take_succ_cons,Qc4,xN h1,xN h2,xO h3];exact ih _ h
    ·rw [xN h3] at h;cases h
theorem Qvf {l:List UInt8} (_hd:Qdk l=false) (hw:0<Qac l) (h:(Qd5 l).e=0):Qdk (l.take (Qd5 l).n)=false∧Qd5 (l.take (Qd5 l).n)=Qd5 l:=by
 have hn:(Qd5 l).n=Qac l:=by
  unfold Qd5 at h ⊢
  by_cases h1:24<Qac l
  ·rw [xO h1] at h;cases h
  ·rw [xN h1]
   split
   ·rfl
   ·split <;> rfl
 have hwl:Qac (l.take (Qac l))=Qac l:=Qhl _ _ _ (xA _);rw [hn]
 constructor
 ·unfold Qdk;rw [hwl,List.length_take];rw [show decide (Qac l+1<min (Qac l) l.length)=false from xR (by omega)];simp
 ·unfold Qd5;rw [hwl,List.take_take,Nat.min_self,Qhm l _ 0 hw]
theorem Qx2 {l:List UInt8} (hd:Qdk l=true) (h:(Qdd l (Qac l)).e=0) :
  Qdk (l.take (Qdd l (Qac l)).n)=true∧Qac (l.take (Qdd l (Qac l)).n)=Qac l∧Qdd (l.take (Qdd l (Qac l)).n) (Qac l)=Qdd l (Qac l):=by
 have hn:(Qdd l (Qac l)).n=Qac l+1+Qac (l.drop (Qac l+1)):=by
  unfold Qdd at h ⊢
  by_cases h1:24<Qac l∨24<Qac (l.drop (Qac l+1))
  ·rw [xO h1] at h;cases h
  ·rw [xN h1] at h ⊢
   by_cases h2:Qar ((l.drop (Qac l+1)).take (Qac (l.drop (Qac l+1))))=true
   ·rw [xO h2] at h;cases h
   ·rw [xN h2]
    split <;> rfl
 rw [hn];unfold Qdk at hd;simp only [Bool.and_eq_true,decide_eq_true_eq,beq_iff_eq,Bool.not_eq_true'] at hd;obtain ⟨⟨⟨⟨hu,hr⟩,hlen⟩,h46⟩,hl⟩:=hd
 generalize hW:Qac l=W at *
 have hm:0<Qac (l.drop (W+1)):=by
  refine Qib ?_
  have:at' (l.drop (W+1)) 0=at' l (W+1):=by
   unfold at';rw [List.getD_eq_getElem?_getD,List.getD_eq_getElem?_getD,List.getElem?_drop,Nat.add_zero]
  rw [this];exact hl
 have hM:=Qjh (l.drop (W+1));rw [List.length_drop] at hM
 generalize hMM:Qac (l.drop (W+1))=M at *
 have hw:Qac (l.take (W+1+M))=W:=by
  rw [←hW];exact Qhl _ _ _ (by show Qac l≤_;omega)
 have hdr:(l.take (W+1+M)).drop (W+1)=(l.drop (W+1)).take M:=by rw [List.drop_take,show W+1+M-(W+1)=M from by omega]
 have hw2:Qac ((l.drop (W+1)).take M)=M:=by
  rw [←hMM];exact Qhl _ _ _ (xA _)
 refine ⟨?_,hw,?_⟩
 ·unfold Qdk;rw [hw,Qhm _ _ _ (by omega),Qhm _ _ _ (by omega),Qhm _ _ _ (by omega),List.take_take,Nat.min_eq_left (by omega),List.length_take,hu,hr,h46,hl,xS (by omega)];rfl
 ·unfold Qdd;rw [hdr,hw2,hMM,List.take_take,Nat.min_self,Qhm _ _ _ (by omega)]
theorem Zcg {l:List UInt8} (hw:0<Qds l) (h:(Qjg l).e=0):0<(Qjg l).n∧Qjg (l.take (Qjg l).n)=Qjg l:=by
 have hn:(Qjg l).n=Qds l:=by
  unfold Qjg at h ⊢
  by_cases h1:1<Qds l∧at' l 0=48
  ·rw [xO h1] at h;cases h
  ·rw [xN h1] at h ⊢
   by_cases h2:15<Qds l
   ·rw [xO h2] at h;cases h
   ·rw [xN h2]
 rw [hn];have hwl:Qds (l.take (Qds l))=Qds l:=Qhl _ _ _ (xA _);refine ⟨hw,?_⟩;unfold Qjg;rw [hwl,Qhm l _ 0 hw]
theorem Qx3 {l:List UInt8} (h:(Qec l).e=0):0<(Qec l).n∧Qec (l.take (Qec l).n)=Qec l:=by
 have hz:Qbq l≠0:=by
  intro hz;unfold Qec at h;rw [xO hz] at h;cases h
 have hn:(Qec l).n=Qbq l:=by unfold Qec;rw [xN hz]
 rw [hn];refine ⟨by omega,?_⟩
 have hs:Qbq (l.take (Qbq l))=Qbq l:=by
  have h0:at' (l.take (Qbq l)) 0=at' l 0:=Qhm _ _ _ (by omega);unfold Qbq at h0 hz ⊢
  by_cases h1:at' l 0=61
  ·simp only [h1,if_true] at h0 hz ⊢
   by_cases h2:at' l 1=61
   ·simp only [h2,if_true] at h0 ⊢;rw [h0,Qhm l 2 1 (by omega),h2];rfl
   ·simp only [h2,if_false] at h0 ⊢;rw [h0,Qr0 l 1 1 (by omega)];rfl
  ·simp only [h1,if_false] at h0 hz ⊢
   by_cases h2:Qe2 (at' l 0)=true
   ·simp only [h2,if_true] at h0 ⊢;rw [h0];simp [h1,h2]
   ·simp [h2] at hz
 unfold Qec;rw [hs]
theorem Zch {l:List UInt8} (h:(Qbg l).e=0):Qbg (l.take (Qbg l).n)=Qbg l:=by
 have hpos:=(Qkn h).1;have h0:at' (l.take (Qbg l).n) 0=at' l 0:=Qhm _ _ _ hpos
 have key:∀ m,at' (l.take m) 0=at' l 0→Qbg (l.take m)=if Qap (at' l 0)=false then ⟨0,0,1⟩ else if Qav (at' l 0) then Qd2 (l.take m) else if Qb2 (at' l 0) then Qjg (l.take m) else if at' l 0=34 then Qc4 1 ((l.take m).drop 1) else Qec (l.take m):=by
  intro m hm;unfold Qbg;rw [hm]
 rw [key _ h0];clear key h0;unfold Qbg at h hpos ⊢
 by_cases ha:Qap (at' l 0)=false
 ·rw [xO ha] at h;cases h
 ·rw [xN ha] at h hpos ⊢;rw [xN ha]
  by_cases hl:Qav (at' l 0)=true
  ·rw [xO hl] at h hpos ⊢;rw [xO hl];unfold Qd2 at h hpos ⊢
   by_cases hd:Qdk l=true
   ·rw [xO hd] at h hpos ⊢;obtain ⟨q1,q2,q3⟩:=Qx2 hd h;rw [xO q1,q2,q3]
   ·rw [xN hd] at h hpos ⊢;obtain ⟨q1,q2⟩:=Qvf (by simpa using hd) (Qib hl) h;rw [xN (by simp [q1]),q2]
  ·rw [xN hl] at h hpos ⊢;rw [xN hl]
   by_cases hd:Qb2 (at' l 0)=true
   ·rw [xO hd] at h hpos ⊢;rw [xO hd];exact (Zcg (Ql6 hd) h).2
   ·rw [xN hd] at h hpos ⊢;rw [xN hd]
    by_cases h34:at' l 0=34
    ·rw [xO h34] at h hpos ⊢;rw [xO h34,List.drop_take];exact Qve _ _ h
    ·rw [xN h34] at h hpos ⊢;rw [xN h34];exact (Qx3 h).2
theorem Zci {l:List UInt8} (h:(Qbg l).e=0):(Qbg l).kind≠0:=by
 unfold Qbg at h ⊢
 by_cases ha:Qap (at' l 0)=false
 ·rw [xO ha] at h;cases h
 ·rw [xN ha] at h ⊢
  by_cases hl:Qav (at' l 0)=true
  ·rw [xO hl] at h ⊢;unfold Qd2 at h ⊢
   by_cases hd:Qdk l=true
   ·rw [xO hd] at h ⊢;unfold Qdd at h ⊢
    split at h
    ·cases h
    ·rename_i h1
     rw [xN h1]
     split at h
     ·cases h
     ·rename_i h2
      rw [xN h2]
      split <;> simp
   ·rw [xN hd] at h ⊢;unfold Qd5 at h ⊢
    split at h
    ·cases h
    ·rename_i h1
     rw [xN h1]
     split
     ·simp
     ·split <;> simp
  ·rw [xN hl] at h ⊢
   by_cases hd:Qb2 (at' l 0)=true
   ·rw [xO hd] at h ⊢;unfold Qjg at h ⊢
    split at h
    ·cases h
    ·rename_i h1
     rw [xN h1]
     split at h
     ·cases h
     ·rename_i h2
      rw [xN h2];exact (by decide:(5:Nat)≠0)
   ·rw [xN hd] at h ⊢
    by_cases h34:at' l 0=34
    ·rw [xO h34] at h ⊢;rw [Qvd _ _ h];exact (by decide:(6:Nat)≠0)
    ·rw [xN h34] at h ⊢;unfold Qec at h ⊢
     split at h
     ·cases h
     ·rename_i h1
      rw [xN h1];exact (by decide:(8:Nat)≠0)
theorem Zcj (s:ByteArray) (a k:Nat):at' (suf s a) k=at' (suf s 0) (a+k):=by
 unfold at' suf;rw [List.getD_eq_getElem?_getD,List.getD_eq_getElem?_getD,List.getElem?_drop,List.getElem?_drop,Nat.zero_add]
theorem Qvg (l:List UInt8):∀ o,(Qci o l).2=true→(Qci o l).1<l.length→Qap (at' l (Qci o l).1)=false:=by
 induction l with
 | nil=>intro o _ h;exact absurd h (by simp)
 | cons c r ih =>
  intro o h1 h2;unfold Qci at h1 h2 ⊢
  by_cases ha:Qap c.toNat=true
  ·simp only [ha,if_true] at h1 h2 ⊢
   cases o
   ·simp only [Bool.false_eq_true,if_false] at h1 h2 ⊢
    by_cases hc:c.toNat=35
    ·simp only [hc,if_true,xD] at h1 h2 ⊢;exact ih true h1 (by omega)
    ·by_cases hw:Qd9 c.toNat=true
     ·simp only [hc,hw,if_true,if_false,xD] at h1 h2 ⊢;exact ih false h1 (by omega)
     ·simp only [hc,hw,if_false] at h1;simp at h1
   ·simp only [if_true,xD] at h1 h2 ⊢;exact ih _ h1 (by omega)
  ·have hf:Qap c.toNat=false:=by simpa using ha
   simp only [hf,Bool.false_eq_true,if_false];exact hf
theorem Qtw {s:ByteArray} {k:Nat} (ho:Qc2 s k=true) (hl:Qal s k<s.size):Qbg (suf s (Qal s k))=⟨0,0,1⟩:=by
 have h:=Qvg (suf s k) false ho (by rw [Qbw];unfold Qal at hl;omega);unfold Qbg;rw [xO];rw [Zcj] at h ⊢;exact h
def Qa4 (l:List UInt8):Nat:=if l = [] then 0 else if (Qbg l).e≠0∨(Qbg l).n≠l.length then 0 else (Qbg l).kind
def bl (s:ByteArray):List UInt8:=suf s 0
theorem Qgd (s:ByteArray):(bl s).length=s.size:=by unfold bl;rw [Qbw];omega
theorem Zhj {a b:ByteArray} (h:bl a=bl b):a=b:=by
 unfold bl suf at h;rw [List.drop_zero,List.drop_zero] at h;cases a;cases b
 congr 1
 exact Array.toList_inj.1 h
theorem Qg8 (a b:ByteArray):bl (a ++ b)=bl a ++ bl b:=by
 unfold bl suf;rw [List.drop_zero,List.drop_zero,List.drop_zero,ByteArray.data_append,Array.toList_append]
def Qko (ts:List Tok) (tail:List UInt8):List UInt8:=(ts.flatMap fun t=>bl t.lead ++ bl t.text) ++ tail
theorem Qvh (ts:List Tok) (t:Tok):Qko (ts ++ [t]) [] = Qko ts [] ++ (bl t.lead ++ bl t.text):=by
 unfold Qko;rw [List.flatMap_append];simp
def Qor (t:Tok):Prop:=(Qa4 (bl t.text):Int)=t.kind∧t.kind≠0∧Qf4 t.lead false=true
theorem Qx4 {l:List UInt8} {n:Nat} (h:(Qbg l).e=0) (hn:(Qbg l).n=n):Qa4 (l.take n)=(Qbg l).kind:=by
 subst hn;have h1:=Qkn h;have h2:=Zch h;unfold Qa4
 rw [xN,h2,xN]
 ·rw [List.length_take];omega
 ·intro e;have:=congrArg List.length e
  rw [List.length_take,xG] at this;omega
theorem Qnm (l:List UInt8):∀ o,Qci o (l.take (Qci o l).1)=Qci o l:=by
 induction l with
 | nil=>intro o;simp [Qci]
 | cons c r ih =>
  intro o
  by_cases ha:Qap c.toNat=true
  ·cases o
   ·by_cases hc:c.toNat=35
    ·have e:Qci false (c :: r)=((Qci true r).1+1,(Qci true r).2):=by
      rw [Qci,xO ha,xN (by decide),xO hc]
     rw [e,List.take_succ_cons,Qci,xO ha,xN (by decide),xO hc,ih]
    ·by_cases hw:Qd9 c.toNat=true
     ·have e:Qci false (c :: r)=((Qci false r).1+1,(Qci false r).2):=by
       rw [Qci,xO ha,xN (by decide),xN hc,xO hw]
      rw [e,List.take_succ_cons,Qci,xO ha,xN (by decide),xN hc,xO hw,ih]
     ·have e:Qci false (c :: r)=(0,false):=by
       rw [Qci,xO ha,xN (by decide),xN hc,xN hw]
      rw [e];rfl
   ·have e:Qci true (c :: r)=((Qci (c.toNat != 10) r).1+1,(Qci (c.toNat != 10) r).2):=by
     rw [Qci,xO ha,xO rfl]
    rw [e,List.take_succ_cons,Qci,xO ha,xO rfl,ih]
  ·have e:Qci o (c :: r)=(0,o):=by rw [Qci,xN ha]
   rw [e];rfl
theorem Qtx (s:ByteArray) (k:Nat) (hk:k≤s.size):Qal (s.extract k (Qal s k)) 0=(s.extract k (Qal s k)).size∧Qc2 (s.extract k (Qal s k)) 0=Qc2 s k:=by
 have h1:=Qgc s k hk;have h2:=Qg7 s k;have hn:Qal s k-k=(Qci false (suf s k)).1:=by unfold Qal;omega
 have hs:suf (s.extract k (Qal s k)) 0=(suf s k).take (Qci false (suf s k)).1:=by rw [Qea,hn]
 constructor
 ·rw [ByteArray.size_extract,Nat.min_eq_left h1,hn];rw [show ∀ x,Qal x 0=0+(Qci false (suf x 0)).1 from fun _=>rfl,hs,Qnm,Nat.zero_add]
 ·rw [show ∀ x,Qc2 x 0=(Qci false (suf x 0)).2 from fun _=>rfl,hs,Qnm];rfl
theorem Zck {s:ByteArray} {k:Nat} (hk:k≤s.size) (hs:Qal s k≠s.size) (he:(Qbg (suf s (Qal s k))).e=0) :
  Qor ⟨(Qbg (suf s (Qal s k))).kind,s.extract k (Qal s k),s.extract (Qal s k) (Qal s k+(Qbg (suf s (Qal s k))).n)⟩:=by
 have h1:=Qgc s k hk
 have ho:Qc2 s k=false:=by
  cases h:Qc2 s k
  ·rfl
  ·rw [Qtw h (by omega)] at he;cases he
 refine ⟨?_,?_,?_⟩
 ·show ((Qa4 (suf (s.extract _ _) 0):Nat):Int)=_
  rw [Qea,Qx4 he (by omega)]
 ·have:=Zci he
  show ((Qbg (suf s (Qal s k))).kind:Int)≠0
  omega
 ·show Qf4 (s.extract k (Qal s k)) false=true
  obtain ⟨c1,c2⟩:=Qtx s k hk;unfold Qf4;rw [c1,c2,ho];simp
theorem Qx5 {s:ByteArray} {k:Nat} (hk:k≤s.size) (hs:Qal s k=s.size):Qf4 (s.extract k s.size) true=true:=by
 obtain ⟨c1,_⟩:=Qtx s k hk;rw [hs] at c1;unfold Qf4;rw [c1];simp
def Qx6 (s:ByteArray) (r:Res):Prop :=
 (r.e=0→(∀ t∈r.toks,Qor t)∧Qko r.toks (bl r.tail)=bl s∧Qf4 r.tail true=true)∧(r.e≠0→r.toks = []∧r.tail=ByteArray.empty)
theorem Qic (s:ByteArray) (a b:Nat) (hab:a≤b):(bl s).take a ++ bl (s.extract a b)=(bl s).take b:=by
 unfold bl;rw [Qea];have:suf s a=(suf s 0).drop a:=by rw [Qe7,Nat.zero_add]
 rw [this,←List.drop_take]
 conv=>rhs;rw [←List.take_append_drop a ((suf s 0).take b)]
 rw [List.take_take,Nat.min_eq_left hab]
theorem Qvi (s:ByteArray):∀ f k acc,k≤s.size→s.size<f+k→(∀ t∈acc,Qor t)→Qko acc [] = (bl s).take k→Qx6 s (Qpx s f k acc):=by
 intro f
 induction f with
 | zero=>intro k acc hk hf _ _;omega
 | succ f ih =>
  intro k acc hk hf hacc hj;have h2:=Qg7 s k;have h3:=Qgc s k hk;unfold Qpx
  by_cases hs:Qal s k=s.size
  ·rw [xO hs];refine ⟨fun _=>⟨hacc,?_,Qx5 hk hs⟩,fun h=>absurd rfl h⟩;have:Qko acc (bl (s.extract k s.size))=Qko acc [] ++ bl (s.extract k s.size):=by unfold Qko;simp
   rw [this,hj,Qic s k s.size hk,List.take_of_length_le (by rw [Qgd];omega)]
  ·rw [xN hs]
   by_cases he:(Qbg (suf s (Qal s k))).e=0
   ·rw [xO he];have h1:=Qkn he;rw [Qbw] at h1
    refine ih _ _ (by omega) (by omega) ?_ ?_
    ·intro t ht
     rcases List.mem_append.1 ht with h | h
     ·exact hacc t h
     ·rw [List.mem_singleton.1 h];exact Zck hk hs he
    ·rw [Qvh,hj,←xT,Qic s k _ h2,Qic s _ _ (by omega)]
   ·rw [xN he];exact ⟨fun h=>absurd h he,fun _=>⟨rfl,rfl⟩⟩
theorem Qiw (s:ByteArray):Qx6 s (Qbh s):=by
 unfold Qbh
 split
 ·exact ⟨(fun h=>by cases h),fun _=>⟨rfl,rfl⟩⟩
 ·exact Qvi s _ _ _ (xZ _) (by omega) (by simp) (by simp [Qko])
end Go.Proofs.YtfjpemdejoejbaaGreat
