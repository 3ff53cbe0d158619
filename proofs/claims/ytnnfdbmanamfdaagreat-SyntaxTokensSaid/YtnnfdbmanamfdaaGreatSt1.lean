/- Part 1: Plain functions on lists of bytes in whose words package lex is specified, and their mathematics. -/
import Derived.Below
import Derived.Laws.Rows
import Derived.Laws.World
import Derived.Laws.AppendOwn
import Derived.Lib.Hide
set_option maxRecDepth 100000
set_option maxHeartbeats 4000000
namespace Go.Proofs.YtnnfdbmanamfdaaGreat
theorem hQ {p : Prop} (h : p) : Go.RowKit.Hid p := Lib.hid h
open Go.RowKit
theorem xA (n : Nat) : n ≤ n := Nat.le_refl n
theorem xB.{u} {α : Type u} {xs ys : List α} : (xs ++ ys).length = xs.length + ys.length := List.length_append
theorem xC (B : Nat) (w : World) : Below B w w := Below.refl B w
theorem xD.{u} {α : Type u} {a : α} {xs : List α} : (a :: xs).length = xs.length + 1 := List.length_cons
theorem xE {n m k : Nat} : n < m → m ≤ k → n < k := Nat.lt_of_lt_of_le
theorem xF.{u} {α : Type u} {l : List α} {i : Nat} (h : i < l.length) : l[i]? = some l[i] := List.getElem?_eq_getElem h
theorem xG.{u} {α : Type u} : ([] : List α).length = 0 := List.length_nil
theorem xH (w : World) (o : Obj) : (w.alloc o).heap[w.heap.size]? = some o := heap_alloc_new w o
theorem xI (w : World) (o : Obj) : (w.alloc o).heap.size = w.heap.size + 1 := World.size_alloc w o
theorem xJ {w w' : World} {a : Addr} : w'.heap[a.block]? = w.heap[a.block]? → w'.cell? a = w.cell? a := World.cell?_of_block
theorem xK (w : World) (a : Addr) {u : Value} : w.cell? a = some u → a.block < w.heap.size := World.block_lt_of_cell? w a
def Qd8 (c:Int):Bool:=c == 9 || c == 10 || c == 13 || c == 32
def Qbl (c:Int):Bool:=decide (65 ≤ c) && decide (c ≤ 90)
def lowerB (c:Int):Bool:=decide (97 ≤ c) && decide (c ≤ 122)
def Qat (c:Int):Bool:=Qbl c || lowerB c
def Qby (c:Int):Bool:=decide (48 ≤ c) && decide (c ≤ 57)
def Qgr (c:Int):Bool:=Qat c || Qby c || c == 95
def Qfu (c:Int):Bool:=decide (32 ≤ c) && decide (c ≤ 126)
def Qaq (c:Int):Bool:=Qd8 c || (decide (32 < c) && decide (c ≤ 126))
theorem allowed_printed (c:Int):Qaq c = (Qd8 c || Qfu c):=by
 unfold Qaq Qd8 Qfu
 rw [Bool.eq_iff_iff]
 simp
 omega
def suf (s:ByteArray) (k:Nat):List UInt8:=s.data.toList.drop k
theorem Qc9 (s:ByteArray) (k:Nat) (h:k < s.size):suf s k = s[k] :: suf s (k + 1):=by
 unfold suf
 rw [List.drop_eq_getElem_cons (by simpa using h)]
 rfl
theorem suf_end (s:ByteArray) (k:Nat) (h:s.size ≤ k):suf s k = []:=by
 unfold suf
 exact List.drop_eq_nil_of_le (by simpa using h)
theorem Qbt (s:ByteArray) (k:Nat):(suf s k).length = s.size - k:=by
 unfold suf
 simp
def Qce:Bool → List UInt8 → Nat × Bool
 | o,[]=>(0,o)
 | o,c :: r =>
  if Qaq c.toNat then
   if o then ((Qce (c.toNat != 10) r).1 + 1,(Qce (c.toNat != 10) r).2)
   else if c.toNat = 35 then ((Qce true r).1 + 1,(Qce true r).2)
   else if Qd8 c.toNat then ((Qce false r).1 + 1,(Qce false r).2)
   else (0,false)
  else (0,o)
theorem skipL_le (o:Bool) (l:List UInt8):(Qce o l).1 ≤ l.length:=by
 induction l generalizing o with
 | nil=>simp [Qce]
 | cons c r ih =>
  have h1:=ih (c.toNat != 10)
  have h2:=ih true
  have h3:=ih false
  unfold Qce
  simp only [xD]
  split
  ·split
   ·simp only [];omega
   ·split
    ·simp only [];omega
    ·split
     ·simp only [];omega
     ·simp
  ·simp
def Qak (s:ByteArray) (i:Nat):Nat:=i + (Qce false (suf s i)).1
def Qc2 (s:ByteArray) (i:Nat):Bool:=(Qce false (suf s i)).2
theorem Qgs (s:ByteArray) (i:Nat):i ≤ Qak s i:=by unfold Qak;omega
theorem Qf0 (s:ByteArray) (i:Nat) (h:i ≤ s.size):Qak s i ≤ s.size:=by
 have:=skipL_le false (suf s i)
 rw [Qbt] at this
 unfold Qak
 omega
def SkipAt (s:ByteArray) (i k:Nat) (o:Bool):Prop:=i ≤ k ∧ k ≤ s.size ∧ Qak s i = k + (Qce o (suf s k)).1 ∧ Qc2 s i = (Qce o (suf s k)).2
theorem SkipAt.start (s:ByteArray) (i:Nat) (h:i ≤ s.size):SkipAt s i i false:=⟨xA _,h,rfl,rfl⟩
section
variable {s:ByteArray} {i k:Nat} {o:Bool}
theorem SkipAt.done (h:SkipAt s i k o) (hk:¬ k < s.size):Qak s i = k ∧ Qc2 s i = o:=by
 obtain ⟨_,_,h1,h2⟩:=h
 rw [suf_end s k (by omega)] at h1 h2
 exact ⟨h1,h2⟩
theorem SkipAt.bad (h:SkipAt s i k o) (hk:k < s.size) (ha:Qaq s[k].toNat = false):Qak s i = k ∧ Qc2 s i = o:=by
 obtain ⟨_,_,h1,h2⟩:=h
 rw [Qc9 s k hk] at h1 h2
 simp [Qce,ha] at h1 h2
 exact ⟨h1,h2⟩
theorem SkipAt.other (h:SkipAt s i k false) (hk:k < s.size) (ha:Qd8 s[k].toNat = false) (hc:s[k].toNat ≠ 35):Qak s i = k ∧ Qc2 s i = false:=by
 obtain ⟨_,_,h1,h2⟩:=h
 rw [Qc9 s k hk] at h1 h2
 simp [Qce,ha,hc] at h1 h2
 exact ⟨h1,h2⟩
theorem SkipAt.inside (h:SkipAt s i k true) (hk:k < s.size) (ha:Qaq s[k].toNat = true):SkipAt s i (k + 1) (s[k].toNat != 10):=by
 obtain ⟨h0,_,h1,h2⟩:=h
 rw [Qc9 s k hk] at h1 h2
 simp only [Qce,ha,if_true] at h1 h2
 exact ⟨by omega,by omega,by omega,h2⟩
theorem SkipAt.opens (h:SkipAt s i k false) (hk:k < s.size) (hc:s[k].toNat = 35):SkipAt s i (k + 1) true:=by
 obtain ⟨h0,_,h1,h2⟩:=h
 have ha:Qaq ((35:Nat):Int) = true:=by decide
 rw [Qc9 s k hk] at h1 h2
 simp only [Qce,hc,ha,if_true,Bool.false_eq_true,if_false] at h1 h2
 exact ⟨by omega,by omega,by omega,h2⟩
theorem white_allowed {c:Int} (h:Qd8 c = true):Qaq c = true:=by unfold Qaq;simp [h]
theorem SkipAt.white (h:SkipAt s i k false) (hk:k < s.size) (ha:Qd8 s[k].toNat = true):SkipAt s i (k + 1) false:=by
 obtain ⟨h0,_,h1,h2⟩:=h
 have hc:s[k].toNat ≠ 35:=by intro e;rw [e] at ha;exact absurd ha (by decide)
 rw [Qc9 s k hk] at h1 h2
 simp only [Qce,ha,hc,white_allowed ha,if_true,Bool.false_eq_true,if_false] at h1 h2
 exact ⟨by omega,by omega,by omega,h2⟩
end
def Qfp (s:ByteArray) (fin:Bool):Bool:=(Qak s 0 == s.size) && (fin || !Qc2 s 0)
def badAt (s:ByteArray) (i:Nat):Int:=if Qc2 s i = true ∧ Qak s i < s.size then (Qak s i:Int) else -1
theorem badAt_yes {s:ByteArray} {i k:Nat} (h:Qak s i = k ∧ Qc2 s i = true) (hk:k < s.size):badAt s i = k:=by
 unfold badAt
 rw [h.1,if_pos ⟨h.2,hk⟩]
theorem badAt_no {s:ByteArray} {i k:Nat} {o:Bool} (h:Qak s i = k ∧ Qc2 s i = o) (hk:o = false ∨ ¬ k < s.size):badAt s i = -1:=by
 unfold badAt
 rw [h.1,h.2,if_neg (by rcases hk with rfl | hk <;> simp_all)]
section
variable {s:ByteArray} {i k:Nat}
theorem SkipAt.begun (h:SkipAt s i k false) (hk:k < s.size) (hc:s[k].toNat = 35):SkipAt s i k true:=by
 obtain ⟨h0,h3,h1,h2⟩:=h
 refine ⟨h0,h3,?_,?_⟩
 ·rw [h1,Qc9 s k hk]
  have ha:Qaq (35:Int) = true:=by decide
  simp [Qce,hc,ha]
 ·rw [h2,Qc9 s k hk]
  have ha:Qaq (35:Int) = true:=by decide
  simp [Qce,hc,ha]
theorem SkipAt.ended (h:SkipAt s i k true) (hk:k < s.size) (hc:s[k].toNat = 10):SkipAt s i k false:=by
 obtain ⟨h0,h3,h1,h2⟩:=h
 have ha:Qaq (10:Int) = true:=by decide
 have hw:Qd8 (10:Int) = true:=by decide
 refine ⟨h0,h3,?_,?_⟩
 ·rw [h1,Qc9 s k hk]
  simp [Qce,hc,ha,hw]
 ·rw [h2,Qc9 s k hk]
  simp [Qce,hc,ha,hw]
end
def openF:Bool → List UInt8 → Bool
 | o,[]=>o
 | o,c :: r=>openF (if c.toNat = 10 then false else if c.toNat = 35 then true else o) r
theorem openF_skip (o:Bool) (l:List UInt8) (h:(Qce o l).1 = l.length):openF o l = (Qce o l).2:=by
 induction l generalizing o with
 | nil=>simp [openF,Qce]
 | cons c r ih =>
  unfold openF
  unfold Qce at h ⊢
  by_cases ha:Qaq c.toNat = true
  ·simp only [ha,if_true] at h ⊢
   cases o
   ·simp only [Bool.false_eq_true,if_false] at h ⊢
    by_cases hc:c.toNat = 35
    ·simp only [hc,if_true,xD] at h ⊢
     simpa using ih true (by omega)
    ·by_cases hw:Qd8 c.toNat = true
     ·simp only [hc,hw,if_true,if_false,xD] at h ⊢
      simpa using ih false (by omega)
     ·simp only [hc,hw,if_false,xD] at h
      simp at h
   ·simp only [if_true,xD] at h ⊢
    rw [← ih _ (by omega)]
    congr 1
    by_cases h10:c.toNat = 10 <;> simp [h10]
  ·have hf:Qaq c.toNat = false:=by simpa using ha
   rw [hf] at h
   simp at h
theorem Qd9 (s:ByteArray) (a b:Nat):suf (s.extract a b) 0 = (suf s a).take (b - a):=by
 unfold suf
 rw [List.drop_zero,ByteArray.data_extract,Array.toList_extract,List.extract_eq_take_drop]
theorem Qgt (s:ByteArray) (a:Nat):suf (s.extract a s.size) 0 = suf s a:=by
 rw [Qd9,List.take_of_length_le (by rw [Qbt];omega)]
theorem Qes (s:ByteArray) (a n:Nat):(suf s a).drop n = suf s (a + n):=by
 unfold suf
 rw [List.drop_drop]
def Qdz (p:Int → Bool):List UInt8 → Nat
 | []=>0
 | c :: r=>if p c.toNat then Qdz p r + 1 else 0
theorem runLen_le (p:Int → Bool) (l:List UInt8):Qdz p l ≤ l.length:=by
 induction l with
 | nil=>simp [Qdz]
 | cons c r ih=>unfold Qdz;split <;> simp <;> omega
def RunAt (p:Int → Bool) (s:ByteArray) (i k:Nat):Prop:=i ≤ k ∧ k ≤ s.size ∧ Qdz p (suf s i) + i = k + Qdz p (suf s k)
theorem RunAt.start (p:Int → Bool) (s:ByteArray) (i:Nat) (h:i ≤ s.size):RunAt p s i i:=⟨xA _,h,by omega⟩
section
variable {p:Int → Bool} {s:ByteArray} {i k:Nat}
theorem RunAt.next (h:RunAt p s i k) (hk:k < s.size) (hp:p s[k].toNat = true):RunAt p s i (k + 1):=by
 obtain ⟨h0,_,h1⟩:=h
 rw [Qc9 s k hk] at h1
 simp only [Qdz,hp,if_true] at h1
 exact ⟨by omega,by omega,by omega⟩
theorem RunAt.stop (h:RunAt p s i k) (hk:k < s.size) (hp:p s[k].toNat = false):Qdz p (suf s i) + i = k:=by
 obtain ⟨h0,_,h1⟩:=h
 rw [Qc9 s k hk] at h1
 simp only [Qdz,hp] at h1
 simpa using h1
theorem RunAt.done (h:RunAt p s i k) (hk:¬ k < s.size):Qdz p (suf s i) + i = k:=by
 obtain ⟨h0,_,h1⟩:=h
 rw [suf_end s k (by omega)] at h1
 simpa [Qdz] using h1
end
def Qac (l:List UInt8):Nat:=Qdz Qgr l
def Qds (l:List UInt8):Nat:=Qdz Qby l
def reservedWords:List (List UInt8):=[[109,111,100,117,108,101],[100,101,102],[116,121,112,101],[108,101,116],[105,110],[105,102],[116,104,101,110],[101,108,115,101],[116,114,117,101],[102,97,108,115,101],[73,110,116],[84,101,120,116],[66,111,111,108]]
def Qar (l:List UInt8):Bool:=reservedWords.contains l
structure Tk where
 kind:Nat
 n:Nat
 e:Nat
def at' (l:List UInt8) (k:Nat):Nat:=(l.getD k 0).toNat
def Qc5 (l:List UInt8) (n:Nat):Tk :=
 if 24 < n ∨ 24 < Qac (l.drop (n + 1)) then ⟨0,0,3⟩
 else if Qar ((l.drop (n + 1)).take (Qac (l.drop (n + 1)))) then ⟨0,0,2⟩
 else if Qbl (at' l (n + 1)) then ⟨4,n + 1 + Qac (l.drop (n + 1)),0⟩
 else ⟨3,n + 1 + Qac (l.drop (n + 1)),0⟩
def Qc4 (l:List UInt8):Bool :=
 Qbl (at' l 0) && !Qar (l.take (Qac l)) && decide (Qac l + 1 < l.length) && at' l (Qac l) == 46 && Qat (at' l (Qac l + 1))
def Qdt (l:List UInt8):Tk :=
 if 24 < Qac l then ⟨0,0,3⟩
 else if Qar (l.take (Qac l)) then ⟨7,Qac l,0⟩
 else if Qbl (at' l 0) then ⟨2,Qac l,0⟩
 else ⟨1,Qac l,0⟩
def Qdm (l:List UInt8):Tk:=if Qc4 l then Qc5 l (Qac l) else Qdt l
def numT (l:List UInt8):Tk :=
 if 1 < Qds l ∧ at' l 0 = 48 then ⟨0,0,2⟩
 else if 15 < Qds l then ⟨0,0,3⟩
 else ⟨5,Qds l,0⟩
def Qcx:Nat → List UInt8 → Tk
 | _,[]=>⟨0,0,2⟩
 | i,c :: r =>
  if c.toNat = 34 then ⟨6,i + 1,0⟩
  else if c.toNat = 92 ∨ c.toNat = 9 ∨ c.toNat = 10 ∨ c.toNat = 13 then ⟨0,0,2⟩
  else if Qaq c.toNat then Qcx (i + 1) r
  else ⟨0,i,1⟩
def Qey (c:Int):Bool:=c == 40 || c == 41 || c == 91 || c == 93 || c == 58 || c == 44 || c == 43 || c == 45 || c == 42 || c == 60 || c == 63
def Qbn (l:List UInt8):Nat :=
 if at' l 0 = 61 then (if at' l 1 = 61 then 2 else 1)
 else if Qey (at' l 0) then 1 else 0
def Qd7 (l:List UInt8):Tk:=if Qbn l = 0 then ⟨0,0,2⟩ else ⟨8,Qbn l,0⟩
def Qbb (l:List UInt8):Tk :=
 if Qaq (at' l 0) = false then ⟨0,0,1⟩
 else if Qat (at' l 0) then Qdm l
 else if Qby (at' l 0) then numT l
 else if at' l 0 = 34 then Qcx 1 (l.drop 1)
 else Qd7 l
theorem at_suf (s:ByteArray) (a k:Nat) (h:a + k < s.size):at' (suf s a) k = s[a + k].toNat:=by
 unfold at' suf
 rw [List.getD_eq_getElem?_getD,List.getElem?_drop,xF (by simpa using h)]
 rfl
theorem wordLen_len (l:List UInt8):Qac l ≤ l.length:=runLen_le Qgr l
theorem numLen_len (l:List UInt8):Qds l ≤ l.length:=runLen_le Qby l
theorem at_cons (c:UInt8) (r:List UInt8):at' (c :: r) 0 = c.toNat:=rfl
theorem wordLen_head {l:List UInt8} (h:Qat (at' l 0) = true):0 < Qac l:=by
 cases l with
 | nil=>exact absurd h (by decide)
 | cons c r =>
  rw [at_cons] at h
  have:Qgr c.toNat = true:=by unfold Qgr;rw [h];rfl
  unfold Qac
  simp [Qdz,this]
theorem numLen_head {l:List UInt8} (h:Qby (at' l 0) = true):0 < Qds l:=by
 cases l with
 | nil=>exact absurd h (by decide)
 | cons c r =>
  rw [at_cons] at h
  unfold Qds
  simp [Qdz,h]
theorem quotT_len (l:List UInt8):∀ i,(Qcx i l).e = 0 → i < (Qcx i l).n ∧ (Qcx i l).n ≤ i + l.length:=by
 induction l with
 | nil=>intro i h;simp [Qcx] at h
 | cons c r ih =>
  intro i h
  unfold Qcx at h ⊢
  by_cases h1:c.toNat = 34
  ·simp only [h1,if_true,xD]
   omega
  ·simp only [h1,if_false] at h ⊢
   by_cases h2:c.toNat = 92 ∨ c.toNat = 9 ∨ c.toNat = 10 ∨ c.toNat = 13
   ·simp [h2] at h
   ·simp only [h2,if_false] at h ⊢
    by_cases h3:Qaq c.toNat = true
    ·simp only [h3,if_true,xD] at h ⊢
     have:=ih (i + 1) h
     omega
    ·simp [h3] at h
theorem qual_len {l:List UInt8} {n:Nat} (hn:n + 1 < l.length) (h:(Qc5 l n).e = 0):0 < (Qc5 l n).n ∧ (Qc5 l n).n ≤ l.length:=by
 have hm:=wordLen_len (l.drop (n + 1))
 rw [List.length_drop] at hm
 unfold Qc5 at h ⊢
 by_cases h1:24 < n ∨ 24 < Qac (l.drop (n + 1))
 ·rw [if_pos h1] at h
  cases h
 ·rw [if_neg h1] at h ⊢
  by_cases h2:Qar ((l.drop (n + 1)).take (Qac (l.drop (n + 1)))) = true
  ·rw [if_pos h2] at h
   cases h
  ·rw [if_neg h2]
   by_cases h3:Qbl (at' l (n + 1)) = true
   ·rw [if_pos h3]
    exact ⟨by show 0 < n + 1 + _;omega,by show n + 1 + _ ≤ _;omega⟩
   ·rw [if_neg h3]
    exact ⟨by show 0 < n + 1 + _;omega,by show n + 1 + _ ≤ _;omega⟩
theorem plain_len {l:List UInt8} (hw:0 < Qac l) (h:(Qdt l).e = 0):0 < (Qdt l).n ∧ (Qdt l).n ≤ l.length:=by
 have hm:=wordLen_len l
 unfold Qdt at h ⊢
 by_cases h1:24 < Qac l
 ·rw [if_pos h1] at h
  cases h
 ·rw [if_neg h1]
  by_cases h2:Qar (l.take (Qac l)) = true
  ·rw [if_pos h2]
   exact ⟨hw,hm⟩
  ·rw [if_neg h2]
   by_cases h3:Qbl (at' l 0) = true
   ·rw [if_pos h3]
    exact ⟨hw,hm⟩
   ·rw [if_neg h3]
    exact ⟨hw,hm⟩
theorem num_len {l:List UInt8} (hw:0 < Qds l) (h:(numT l).e = 0):0 < (numT l).n ∧ (numT l).n ≤ l.length:=by
 have hm:=numLen_len l
 unfold numT at h ⊢
 by_cases h1:1 < Qds l ∧ at' l 0 = 48
 ·rw [if_pos h1] at h
  cases h
 ·rw [if_neg h1] at h ⊢
  by_cases h2:15 < Qds l
  ·rw [if_pos h2] at h
   cases h
  ·rw [if_neg h2]
   exact ⟨hw,hm⟩
theorem signLen_len (l:List UInt8):Qbn l ≤ l.length:=by
 unfold Qbn
 match l with
 | []=>decide
 | [c] =>
  have h1:at' [c] 1 = 0:=rfl
  rw [h1,show [c].length = 1 from rfl]
  by_cases h:at' [c] 0 = 61
  ·rw [if_pos h]
   decide
  ·rw [if_neg h]
   by_cases h2:Qey (at' [c] 0) = true
   ·rw [if_pos h2]
    decide
   ·rw [if_neg h2]
    decide
 | c :: d :: r =>
  simp only [xD]
  by_cases h:at' (c :: d :: r) 0 = 61
  ·rw [if_pos h]
   by_cases h2:at' (c :: d :: r) 1 = 61
   ·rw [if_pos h2]
    omega
   ·rw [if_neg h2]
    omega
  ·rw [if_neg h]
   by_cases h2:Qey (at' (c :: d :: r) 0) = true
   ·rw [if_pos h2]
    omega
   ·rw [if_neg h2]
    omega
theorem sign_len {l:List UInt8} (h:(Qd7 l).e = 0):0 < (Qd7 l).n ∧ (Qd7 l).n ≤ l.length:=by
 have hm:=signLen_len l
 unfold Qd7 at h ⊢
 by_cases hz:Qbn l = 0
 ·rw [if_pos hz] at h
  cases h
 ·rw [if_neg hz]
  exact ⟨by show 0 < Qbn l;omega,hm⟩
theorem tok_len {l:List UInt8} (h:(Qbb l).e = 0):0 < (Qbb l).n ∧ (Qbb l).n ≤ l.length:=by
 unfold Qbb at h ⊢
 by_cases ha:Qaq (at' l 0) = false
 ·rw [if_pos ha] at h
  cases h
 ·rw [if_neg ha] at h ⊢
  by_cases hl:Qat (at' l 0) = true
  ·rw [if_pos hl] at h ⊢
   unfold Qdm at h ⊢
   by_cases hd:Qc4 l = true
   ·rw [if_pos hd] at h ⊢
    have hlen:Qac l + 1 < l.length:=by
     unfold Qc4 at hd
     simp only [Bool.and_eq_true,decide_eq_true_eq] at hd
     exact hd.1.1.2
    exact qual_len hlen h
   ·rw [if_neg hd] at h ⊢
    exact plain_len (wordLen_head hl) h
  ·rw [if_neg hl] at h ⊢
   by_cases hd:Qby (at' l 0) = true
   ·rw [if_pos hd] at h ⊢
    exact num_len (numLen_head hd) h
   ·rw [if_neg hd] at h ⊢
    by_cases h34:at' l 0 = 34
    ·rw [if_pos h34] at h ⊢
     have:=quotT_len (l.drop 1) 1 h
     rw [List.length_drop] at this
     cases l with
     | nil=>exact absurd h34 (by decide)
     | cons c r =>
      rw [xD] at this ⊢
      omega
    ·rw [if_neg h34] at h ⊢
     exact sign_len h
theorem quotT_any (l:List UInt8):∀ i,(Qcx i l).n ≤ i + l.length:=by
 induction l with
 | nil=>intro i;exact Nat.zero_le _
 | cons c r ih =>
  intro i
  unfold Qcx
  rw [xD]
  by_cases h1:c.toNat = 34
  ·rw [if_pos h1]
   show i + 1 ≤ _
   omega
  ·rw [if_neg h1]
   by_cases h2:c.toNat = 92 ∨ c.toNat = 9 ∨ c.toNat = 10 ∨ c.toNat = 13
   ·rw [if_pos h2]
    exact Nat.zero_le _
   ·rw [if_neg h2]
    by_cases h3:Qaq c.toNat = true
    ·rw [if_pos h3]
     have:=ih (i + 1)
     omega
    ·rw [if_neg h3]
     show i ≤ _
     omega
theorem tok_err_len {l:List UInt8} (h:(Qbb l).e ≠ 0):(Qbb l).n ≤ l.length:=by
 unfold Qbb at h ⊢
 by_cases ha:Qaq (at' l 0) = false
 ·rw [if_pos ha]
  exact Nat.zero_le _
 ·rw [if_neg ha] at h ⊢
  by_cases hl:Qat (at' l 0) = true
  ·rw [if_pos hl] at h ⊢
   unfold Qdm at h ⊢
   by_cases hd:Qc4 l = true
   ·rw [if_pos hd] at h ⊢
    unfold Qc5 at h ⊢
    split
    ·exact Nat.zero_le _
    ·split
     ·exact Nat.zero_le _
     ·rename_i h1 h2
      rw [if_neg h1,if_neg h2] at h
      split at h <;> exact absurd rfl h
   ·rw [if_neg hd] at h ⊢
    unfold Qdt at h ⊢
    split
    ·exact Nat.zero_le _
    ·rename_i h1
     rw [if_neg h1] at h
     split at h
     ·exact absurd rfl h
     ·split at h <;> exact absurd rfl h
  ·rw [if_neg hl] at h ⊢
   by_cases hd:Qby (at' l 0) = true
   ·rw [if_pos hd] at h ⊢
    unfold numT at h ⊢
    split
    ·exact Nat.zero_le _
    ·split
     ·exact Nat.zero_le _
     ·rename_i h1 h2
      rw [if_neg h1,if_neg h2] at h
      exact absurd rfl h
   ·rw [if_neg hd] at h ⊢
    by_cases h34:at' l 0 = 34
    ·rw [if_pos h34]
     have:=quotT_any (l.drop 1) 1
     rw [List.length_drop] at this
     cases l with
     | nil=>exact absurd h34 (by decide)
     | cons c r =>
      rw [xD] at this ⊢
      omega
    ·rw [if_neg h34] at h ⊢
     unfold Qd7 at h ⊢
     split
     ·exact Nat.zero_le _
     ·rename_i h1
      rw [if_neg h1] at h
      exact absurd rfl h
structure Tok where
 kind:Int
 lead:ByteArray
 text:ByteArray
structure Res where
 toks:List Tok
 tail:ByteArray
 place:Nat
 e:Nat
def scanF (s:ByteArray):Nat → Nat → List Tok → Res
 | 0,_,_=>⟨[],ByteArray.empty,0,0⟩
 | f + 1,k,acc =>
  if Qak s k = s.size then ⟨acc,s.extract k s.size,0,0⟩
  else if (Qbb (suf s (Qak s k))).e = 0 then
   scanF s f (Qak s k + (Qbb (suf s (Qak s k))).n) (acc ++ [⟨(Qbb (suf s (Qak s k))).kind,s.extract k (Qak s k),s.extract (Qak s k) (Qak s k + (Qbb (suf s (Qak s k))).n)⟩])
  else ⟨[],ByteArray.empty,Qak s k + (Qbb (suf s (Qak s k))).n,(Qbb (suf s (Qak s k))).e⟩
def scanG (s:ByteArray):Res:=scanF s (s.size + 1) 0 []
def Qbd (s:ByteArray):Res:=if 4096 < s.size then ⟨[],ByteArray.empty,4096,3⟩ else scanG s
def ScanAt (s:ByteArray) (k:Nat) (acc:List Tok):Prop:=k ≤ s.size ∧ acc.length ≤ k ∧ ∃ f,s.size < f + k ∧ scanG s = scanF s f k acc
theorem ScanAt.start (s:ByteArray):ScanAt s 0 []:=⟨Nat.zero_le _,xA _,s.size + 1,by omega,rfl⟩
section
variable {s:ByteArray} {k:Nat} {acc:List Tok}
theorem ScanAt.done (h:ScanAt s k acc) (hs:Qak s k = s.size):scanG s = ⟨acc,s.extract k s.size,0,0⟩:=by
 obtain ⟨hk,_,f,hf,h⟩:=h
 obtain ⟨f,rfl⟩:∃ g,f = g + 1:=⟨f - 1,by omega⟩
 rw [h,scanF,if_pos hs]
theorem ScanAt.stop (h:ScanAt s k acc) (hs:Qak s k ≠ s.size) (he:(Qbb (suf s (Qak s k))).e ≠ 0):scanG s = ⟨[],ByteArray.empty,Qak s k + (Qbb (suf s (Qak s k))).n,(Qbb (suf s (Qak s k))).e⟩:=by
 obtain ⟨hk,_,f,hf,h⟩:=h
 obtain ⟨f,rfl⟩:∃ g,f = g + 1:=⟨f - 1,by omega⟩
 rw [h,scanF,if_neg hs,if_neg he]
theorem ScanAt.next (h:ScanAt s k acc) (hs:Qak s k ≠ s.size) (he:(Qbb (suf s (Qak s k))).e = 0) :
  ScanAt s (Qak s k + (Qbb (suf s (Qak s k))).n) (acc ++ [⟨(Qbb (suf s (Qak s k))).kind,s.extract k (Qak s k),s.extract (Qak s k) (Qak s k + (Qbb (suf s (Qak s k))).n)⟩]):=by
 obtain ⟨hk,ha,f,hf,h⟩:=h
 have h1:=tok_len he
 have h2:=Qgs s k
 have h3:=Qf0 s k hk
 rw [Qbt] at h1
 obtain ⟨f,rfl⟩:∃ g,f = g + 1:=⟨f - 1,by omega⟩
 refine ⟨by omega,by simp;omega,f,by omega,?_⟩
 rw [h,scanF,if_neg hs,if_pos he]
end
theorem Qg6 (p:Int → Bool) (l:List UInt8):∀ m,Qdz p l ≤ m → Qdz p (l.take m) = Qdz p l:=by
 induction l with
 | nil=>intro m _;simp [Qdz]
 | cons c r ih =>
  intro m h
  cases m with
  | zero =>
   unfold Qdz at h
   split at h
   ·omega
   ·rename_i hp
    simp [Qdz,hp]
  | succ m =>
   rw [List.take_succ_cons]
   unfold Qdz at h ⊢
   split
   ·rename_i hp
    rw [if_pos hp] at h
    rw [ih m (by omega)]
   ·rfl
theorem Qg7 (l:List UInt8) (m k:Nat) (h:k < m):at' (l.take m) k = at' l k:=by
 unfold at'
 rw [List.getD_eq_getElem?_getD,List.getD_eq_getElem?_getD,List.getElem?_take,if_pos h]
theorem at_take_out (l:List UInt8) (m k:Nat) (h:m ≤ k):at' (l.take m) k = 0:=by
 unfold at'
 rw [List.getD_eq_getElem?_getD,List.getElem?_take,if_neg (by omega)]
 rfl
theorem quotT_kind (l:List UInt8):∀ i,(Qcx i l).e = 0 → Qcx i l = ⟨6,(Qcx i l).n,0⟩:=by
 induction l with
 | nil=>intro i h;simp [Qcx] at h
 | cons c r ih =>
  intro i h
  unfold Qcx at h ⊢
  by_cases h1:c.toNat = 34
  ·rw [if_pos h1]
  ·rw [if_neg h1] at h ⊢
   by_cases h2:c.toNat = 92 ∨ c.toNat = 9 ∨ c.toNat = 10 ∨ c.toNat = 13
   ·rw [if_pos h2] at h
    cases h
   ·rw [if_neg h2] at h ⊢
    by_cases h3:Qaq c.toNat = true
    ·rw [if_pos h3] at h ⊢
     exact ih _ h
    ·rw [if_neg h3] at h
     cases h
theorem quotT_take (l:List UInt8):∀ i,(Qcx i l).e = 0 → Qcx i (l.take ((Qcx i l).n - i)) = Qcx i l:=by
 induction l with
 | nil=>intro i h;simp [Qcx] at h
 | cons c r ih =>
  intro i h
  have hn:=(quotT_len (c :: r) i h).1
  unfold Qcx at h hn
  by_cases h1:c.toNat = 34
  ·have e:Qcx i (c :: r) = ⟨6,i + 1,0⟩:=by rw [Qcx,if_pos h1]
   rw [e,show i + 1 - i = 1 from by omega]
   rw [List.take_succ_cons,Qcx,if_pos h1]
  ·rw [if_neg h1] at h hn
   by_cases h2:c.toNat = 92 ∨ c.toNat = 9 ∨ c.toNat = 10 ∨ c.toNat = 13
   ·rw [if_pos h2] at h
    cases h
   ·rw [if_neg h2] at h hn
    by_cases h3:Qaq c.toNat = true
    ·rw [if_pos h3] at h hn
     have e:Qcx i (c :: r) = Qcx (i + 1) r:=by rw [Qcx,if_neg h1,if_neg h2,if_pos h3]
     have h4:=(quotT_len r (i + 1) h).1
     rw [e,show (Qcx (i + 1) r).n - i = ((Qcx (i + 1) r).n - (i + 1)) + 1 from by omega,List.take_succ_cons,Qcx,if_neg h1,if_neg h2,if_pos h3]
     exact ih _ h
    ·rw [if_neg h3] at h
     cases h
theorem plain_take {l:List UInt8} (_hd:Qc4 l = false) (hw:0 < Qac l) (h:(Qdt l).e = 0):Qc4 (l.take (Qdt l).n) = false ∧ Qdt (l.take (Qdt l).n) = Qdt l:=by
 have hn:(Qdt l).n = Qac l:=by
  unfold Qdt at h ⊢
  by_cases h1:24 < Qac l
  ·rw [if_pos h1] at h
   cases h
  ·rw [if_neg h1]
   split
   ·rfl
   ·split <;> rfl
 have hwl:Qac (l.take (Qac l)) = Qac l:=Qg6 _ _ _ (xA _)
 rw [hn]
 constructor
 ·unfold Qc4
  rw [hwl,List.length_take]
  rw [show decide (Qac l + 1 < min (Qac l) l.length) = false from decide_eq_false (by omega)]
  simp
 ·unfold Qdt
  rw [hwl,List.take_take,Nat.min_self,Qg7 l _ 0 hw]
theorem qual_take {l:List UInt8} (hd:Qc4 l = true) (h:(Qc5 l (Qac l)).e = 0) :
  Qc4 (l.take (Qc5 l (Qac l)).n) = true ∧ Qac (l.take (Qc5 l (Qac l)).n) = Qac l ∧ Qc5 (l.take (Qc5 l (Qac l)).n) (Qac l) = Qc5 l (Qac l):=by
 have hn:(Qc5 l (Qac l)).n = Qac l + 1 + Qac (l.drop (Qac l + 1)):=by
  unfold Qc5 at h ⊢
  by_cases h1:24 < Qac l ∨ 24 < Qac (l.drop (Qac l + 1))
  ·rw [if_pos h1] at h
   cases h
  ·rw [if_neg h1] at h ⊢
   by_cases h2:Qar ((l.drop (Qac l + 1)).take (Qac (l.drop (Qac l + 1)))) = true
   ·rw [if_pos h2] at h
    cases h
   ·rw [if_neg h2]
    split <;> rfl
 rw [hn]
 unfold Qc4 at hd
 simp only [Bool.and_eq_true,decide_eq_true_eq,beq_iff_eq,Bool.not_eq_true'] at hd
 obtain ⟨⟨⟨⟨hu,hr⟩,hlen⟩,h46⟩,hl⟩:=hd
 generalize hW:Qac l = W at *
 have hm:0 < Qac (l.drop (W + 1)):=by
  refine wordLen_head ?_
  have:at' (l.drop (W + 1)) 0 = at' l (W + 1):=by
   unfold at'
   rw [List.getD_eq_getElem?_getD,List.getD_eq_getElem?_getD,List.getElem?_drop,Nat.add_zero]
  rw [this]
  exact hl
 have hM:=wordLen_len (l.drop (W + 1))
 rw [List.length_drop] at hM
 generalize hMM:Qac (l.drop (W + 1)) = M at *
 have hw:Qac (l.take (W + 1 + M)) = W:=by
  rw [← hW]
  exact Qg6 _ _ _ (by show Qac l ≤ _;omega)
 have hdr:(l.take (W + 1 + M)).drop (W + 1) = (l.drop (W + 1)).take M:=by rw [List.drop_take,show W + 1 + M - (W + 1) = M from by omega]
 have hw2:Qac ((l.drop (W + 1)).take M) = M:=by
  rw [← hMM]
  exact Qg6 _ _ _ (xA _)
 refine ⟨?_,hw,?_⟩
 ·unfold Qc4
  rw [hw,Qg7 _ _ _ (by omega),Qg7 _ _ _ (by omega),Qg7 _ _ _ (by omega),List.take_take,Nat.min_eq_left (by omega),List.length_take,hu,hr,h46,hl,decide_eq_true (by omega)]
  rfl
 ·unfold Qc5
  rw [hdr,hw2,hMM,List.take_take,Nat.min_self,Qg7 _ _ _ (by omega)]
theorem num_take {l:List UInt8} (hw:0 < Qds l) (h:(numT l).e = 0):0 < (numT l).n ∧ numT (l.take (numT l).n) = numT l:=by
 have hn:(numT l).n = Qds l:=by
  unfold numT at h ⊢
  by_cases h1:1 < Qds l ∧ at' l 0 = 48
  ·rw [if_pos h1] at h
   cases h
  ·rw [if_neg h1] at h ⊢
   by_cases h2:15 < Qds l
   ·rw [if_pos h2] at h
    cases h
   ·rw [if_neg h2]
 rw [hn]
 have hwl:Qds (l.take (Qds l)) = Qds l:=Qg6 _ _ _ (xA _)
 refine ⟨hw,?_⟩
 unfold numT
 rw [hwl,Qg7 l _ 0 hw]
theorem sign_take {l:List UInt8} (h:(Qd7 l).e = 0):0 < (Qd7 l).n ∧ Qd7 (l.take (Qd7 l).n) = Qd7 l:=by
 have hz:Qbn l ≠ 0:=by
  intro hz
  unfold Qd7 at h
  rw [if_pos hz] at h
  cases h
 have hn:(Qd7 l).n = Qbn l:=by unfold Qd7;rw [if_neg hz]
 rw [hn]
 refine ⟨by omega,?_⟩
 have hs:Qbn (l.take (Qbn l)) = Qbn l:=by
  have h0:at' (l.take (Qbn l)) 0 = at' l 0:=Qg7 _ _ _ (by omega)
  unfold Qbn at h0 hz ⊢
  by_cases h1:at' l 0 = 61
  ·simp only [h1,if_true] at h0 hz ⊢
   by_cases h2:at' l 1 = 61
   ·simp only [h2,if_true] at h0 ⊢
    rw [h0,Qg7 l 2 1 (by omega),h2]
    rfl
   ·simp only [h2,if_false] at h0 ⊢
    rw [h0,at_take_out l 1 1 (by omega)]
    rfl
  ·simp only [h1,if_false] at h0 hz ⊢
   by_cases h2:Qey (at' l 0) = true
   ·simp only [h2,if_true] at h0 ⊢
    rw [h0]
    simp [h1,h2]
   ·simp [h2] at hz
 unfold Qd7
 rw [hs]
theorem tok_take {l:List UInt8} (h:(Qbb l).e = 0):Qbb (l.take (Qbb l).n) = Qbb l:=by
 have hpos:=(tok_len h).1
 have h0:at' (l.take (Qbb l).n) 0 = at' l 0:=Qg7 _ _ _ hpos
 have key:∀ m,at' (l.take m) 0 = at' l 0 → Qbb (l.take m) = if Qaq (at' l 0) = false then ⟨0,0,1⟩ else if Qat (at' l 0) then Qdm (l.take m) else if Qby (at' l 0) then numT (l.take m) else if at' l 0 = 34 then Qcx 1 ((l.take m).drop 1) else Qd7 (l.take m):=by
  intro m hm
  unfold Qbb
  rw [hm]
 rw [key _ h0]
 clear key h0
 unfold Qbb at h hpos ⊢
 by_cases ha:Qaq (at' l 0) = false
 ·rw [if_pos ha] at h
  cases h
 ·rw [if_neg ha] at h hpos ⊢
  rw [if_neg ha]
  by_cases hl:Qat (at' l 0) = true
  ·rw [if_pos hl] at h hpos ⊢
   rw [if_pos hl]
   unfold Qdm at h hpos ⊢
   by_cases hd:Qc4 l = true
   ·rw [if_pos hd] at h hpos ⊢
    obtain ⟨q1,q2,q3⟩:=qual_take hd h
    rw [if_pos q1,q2,q3]
   ·rw [if_neg hd] at h hpos ⊢
    obtain ⟨q1,q2⟩:=plain_take (by simpa using hd) (wordLen_head hl) h
    rw [if_neg (by simp [q1]),q2]
  ·rw [if_neg hl] at h hpos ⊢
   rw [if_neg hl]
   by_cases hd:Qby (at' l 0) = true
   ·rw [if_pos hd] at h hpos ⊢
    rw [if_pos hd]
    exact (num_take (numLen_head hd) h).2
   ·rw [if_neg hd] at h hpos ⊢
    rw [if_neg hd]
    by_cases h34:at' l 0 = 34
    ·rw [if_pos h34] at h hpos ⊢
     rw [if_pos h34,List.drop_take]
     exact quotT_take _ _ h
    ·rw [if_neg h34] at h hpos ⊢
     rw [if_neg h34]
     exact (sign_take h).2
theorem tok_kind {l:List UInt8} (h:(Qbb l).e = 0):(Qbb l).kind ≠ 0:=by
 unfold Qbb at h ⊢
 by_cases ha:Qaq (at' l 0) = false
 ·rw [if_pos ha] at h
  cases h
 ·rw [if_neg ha] at h ⊢
  by_cases hl:Qat (at' l 0) = true
  ·rw [if_pos hl] at h ⊢
   unfold Qdm at h ⊢
   by_cases hd:Qc4 l = true
   ·rw [if_pos hd] at h ⊢
    unfold Qc5 at h ⊢
    split at h
    ·cases h
    ·rename_i h1
     rw [if_neg h1]
     split at h
     ·cases h
     ·rename_i h2
      rw [if_neg h2]
      split <;> simp
   ·rw [if_neg hd] at h ⊢
    unfold Qdt at h ⊢
    split at h
    ·cases h
    ·rename_i h1
     rw [if_neg h1]
     split
     ·simp
     ·split <;> simp
  ·rw [if_neg hl] at h ⊢
   by_cases hd:Qby (at' l 0) = true
   ·rw [if_pos hd] at h ⊢
    unfold numT at h ⊢
    split at h
    ·cases h
    ·rename_i h1
     rw [if_neg h1]
     split at h
     ·cases h
     ·rename_i h2
      rw [if_neg h2]
      exact (by decide:(5:Nat) ≠ 0)
   ·rw [if_neg hd] at h ⊢
    by_cases h34:at' l 0 = 34
    ·rw [if_pos h34] at h ⊢
     rw [quotT_kind _ _ h]
     exact (by decide:(6:Nat) ≠ 0)
    ·rw [if_neg h34] at h ⊢
     unfold Qd7 at h ⊢
     split at h
     ·cases h
     ·rename_i h1
      rw [if_neg h1]
      exact (by decide:(8:Nat) ≠ 0)
theorem at_drop' (s:ByteArray) (a k:Nat):at' (suf s a) k = at' (suf s 0) (a + k):=by
 unfold at' suf
 rw [List.getD_eq_getElem?_getD,List.getD_eq_getElem?_getD,List.getElem?_drop,List.getElem?_drop,Nat.zero_add]
theorem skipL_open (l:List UInt8):∀ o,(Qce o l).2 = true → (Qce o l).1 < l.length → Qaq (at' l (Qce o l).1) = false:=by
 induction l with
 | nil=>intro o _ h;exact absurd h (by simp)
 | cons c r ih =>
  intro o h1 h2
  unfold Qce at h1 h2 ⊢
  by_cases ha:Qaq c.toNat = true
  ·simp only [ha,if_true] at h1 h2 ⊢
   cases o
   ·simp only [Bool.false_eq_true,if_false] at h1 h2 ⊢
    by_cases hc:c.toNat = 35
    ·simp only [hc,if_true,xD] at h1 h2 ⊢
     exact ih true h1 (by omega)
    ·by_cases hw:Qd8 c.toNat = true
     ·simp only [hc,hw,if_true,if_false,xD] at h1 h2 ⊢
      exact ih false h1 (by omega)
     ·simp only [hc,hw,if_false] at h1
      simp at h1
   ·simp only [if_true,xD] at h1 h2 ⊢
    exact ih _ h1 (by omega)
  ·have hf:Qaq c.toNat = false:=by simpa using ha
   simp only [hf,Bool.false_eq_true,if_false]
   exact hf
theorem open_bad {s:ByteArray} {k:Nat} (ho:Qc2 s k = true) (hl:Qak s k < s.size):Qbb (suf s (Qak s k)) = ⟨0,0,1⟩:=by
 have h:=skipL_open (suf s k) false ho (by rw [Qbt];unfold Qak at hl;omega)
 unfold Qbb
 rw [if_pos]
 rw [at_drop'] at h ⊢
 exact h
def Qam (l:List UInt8):Nat:=if l = [] then 0 else if (Qbb l).e ≠ 0 ∨ (Qbb l).n ≠ l.length then 0 else (Qbb l).kind
def bl (s:ByteArray):List UInt8:=suf s 0
theorem Qfi (s:ByteArray):(bl s).length = s.size:=by unfold bl;rw [Qbt];omega
theorem bl_inj {a b:ByteArray} (h:bl a = bl b):a = b:=by
 unfold bl suf at h
 rw [List.drop_zero,List.drop_zero] at h
 cases a;cases b
 congr 1
 exact Array.toList_inj.1 h
theorem Qgu (a b:ByteArray):bl (a ++ b) = bl a ++ bl b:=by
 unfold bl suf
 rw [List.drop_zero,List.drop_zero,List.drop_zero,ByteArray.data_append,Array.toList_append]
def joinL (ts:List Tok) (tail:List UInt8):List UInt8:=(ts.flatMap fun t=>bl t.lead ++ bl t.text) ++ tail
theorem joinL_snoc (ts:List Tok) (t:Tok):joinL (ts ++ [t]) [] = joinL ts [] ++ (bl t.lead ++ bl t.text):=by
 unfold joinL
 rw [List.flatMap_append]
 simp
def GoodTok (t:Tok):Prop:=(Qam (bl t.text):Int) = t.kind ∧ t.kind ≠ 0 ∧ Qfp t.lead false = true
theorem class_own {l:List UInt8} {n:Nat} (h:(Qbb l).e = 0) (hn:(Qbb l).n = n):Qam (l.take n) = (Qbb l).kind:=by
 subst hn
 have h1:=tok_len h
 have h2:=tok_take h
 unfold Qam
 rw [if_neg,h2,if_neg]
 ·rw [List.length_take]
  omega
 ·intro e
  have:=congrArg List.length e
  rw [List.length_take,xG] at this
  omega
theorem skipL_take (l:List UInt8):∀ o,Qce o (l.take (Qce o l).1) = Qce o l:=by
 induction l with
 | nil=>intro o;simp [Qce]
 | cons c r ih =>
  intro o
  by_cases ha:Qaq c.toNat = true
  ·cases o
   ·by_cases hc:c.toNat = 35
    ·have e:Qce false (c :: r) = ((Qce true r).1 + 1,(Qce true r).2):=by
      rw [Qce,if_pos ha,if_neg (by decide),if_pos hc]
     rw [e,List.take_succ_cons,Qce,if_pos ha,if_neg (by decide),if_pos hc,ih]
    ·by_cases hw:Qd8 c.toNat = true
     ·have e:Qce false (c :: r) = ((Qce false r).1 + 1,(Qce false r).2):=by
       rw [Qce,if_pos ha,if_neg (by decide),if_neg hc,if_pos hw]
      rw [e,List.take_succ_cons,Qce,if_pos ha,if_neg (by decide),if_neg hc,if_pos hw,ih]
     ·have e:Qce false (c :: r) = (0,false):=by
       rw [Qce,if_pos ha,if_neg (by decide),if_neg hc,if_neg hw]
      rw [e]
      rfl
   ·have e:Qce true (c :: r) = ((Qce (c.toNat != 10) r).1 + 1,(Qce (c.toNat != 10) r).2):=by
     rw [Qce,if_pos ha,if_pos rfl]
    rw [e,List.take_succ_cons,Qce,if_pos ha,if_pos rfl,ih]
  ·have e:Qce o (c :: r) = (0,o):=by rw [Qce,if_neg ha]
   rw [e]
   rfl
theorem cut_skip (s:ByteArray) (k:Nat) (hk:k ≤ s.size):Qak (s.extract k (Qak s k)) 0 = (s.extract k (Qak s k)).size ∧ Qc2 (s.extract k (Qak s k)) 0 = Qc2 s k:=by
 have h1:=Qf0 s k hk
 have h2:=Qgs s k
 have hn:Qak s k - k = (Qce false (suf s k)).1:=by unfold Qak;omega
 have hs:suf (s.extract k (Qak s k)) 0 = (suf s k).take (Qce false (suf s k)).1:=by rw [Qd9,hn]
 constructor
 ·rw [ByteArray.size_extract,Nat.min_eq_left h1,hn]
  rw [show ∀ x,Qak x 0 = 0 + (Qce false (suf x 0)).1 from fun _=>rfl,hs,skipL_take,Nat.zero_add]
 ·rw [show ∀ x,Qc2 x 0 = (Qce false (suf x 0)).2 from fun _=>rfl,hs,skipL_take]
  rfl
theorem good_tok {s:ByteArray} {k:Nat} (hk:k ≤ s.size) (hs:Qak s k ≠ s.size) (he:(Qbb (suf s (Qak s k))).e = 0) :
  GoodTok ⟨(Qbb (suf s (Qak s k))).kind,s.extract k (Qak s k),s.extract (Qak s k) (Qak s k + (Qbb (suf s (Qak s k))).n)⟩:=by
 have h1:=Qf0 s k hk
 have ho:Qc2 s k = false:=by
  cases h:Qc2 s k
  ·rfl
  ·rw [open_bad h (by omega)] at he
   cases he
 refine ⟨?_,?_,?_⟩
 ·show ((Qam (suf (s.extract _ _) 0):Nat):Int) = _
  rw [Qd9,class_own he (by omega)]
 ·have:=tok_kind he
  show ((Qbb (suf s (Qak s k))).kind:Int) ≠ 0
  omega
 ·show Qfp (s.extract k (Qak s k)) false = true
  obtain ⟨c1,c2⟩:=cut_skip s k hk
  unfold Qfp
  rw [c1,c2,ho]
  simp
theorem good_tail {s:ByteArray} {k:Nat} (hk:k ≤ s.size) (hs:Qak s k = s.size):Qfp (s.extract k s.size) true = true:=by
 obtain ⟨c1,_⟩:=cut_skip s k hk
 rw [hs] at c1
 unfold Qfp
 rw [c1]
 simp
def GoodRes (s:ByteArray) (r:Res):Prop :=
 (r.e = 0 → (∀ t ∈ r.toks,GoodTok t) ∧ joinL r.toks (bl r.tail) = bl s ∧ Qfp r.tail true = true) ∧ (r.e ≠ 0 → r.toks = [] ∧ r.tail = ByteArray.empty)
theorem take_extract (s:ByteArray) (a b:Nat) (hab:a ≤ b):(bl s).take a ++ bl (s.extract a b) = (bl s).take b:=by
 unfold bl
 rw [Qd9]
 have:suf s a = (suf s 0).drop a:=by rw [Qes,Nat.zero_add]
 rw [this,← List.drop_take]
 conv=>rhs;rw [← List.take_append_drop a ((suf s 0).take b)]
 rw [List.take_take,Nat.min_eq_left hab]
theorem scanF_good (s:ByteArray):∀ f k acc,k ≤ s.size → s.size < f + k → (∀ t ∈ acc,GoodTok t) → joinL acc [] = (bl s).take k → GoodRes s (scanF s f k acc):=by
 intro f
 induction f with
 | zero=>intro k acc hk hf _ _;omega
 | succ f ih =>
  intro k acc hk hf hacc hj
  have h2:=Qgs s k
  have h3:=Qf0 s k hk
  unfold scanF
  by_cases hs:Qak s k = s.size
  ·rw [if_pos hs]
   refine ⟨fun _=>⟨hacc,?_,good_tail hk hs⟩,fun h=>absurd rfl h⟩
   have:joinL acc (bl (s.extract k s.size)) = joinL acc [] ++ bl (s.extract k s.size):=by unfold joinL;simp
   rw [this,hj,take_extract s k s.size hk,List.take_of_length_le (by rw [Qfi];omega)]
  ·rw [if_neg hs]
   by_cases he:(Qbb (suf s (Qak s k))).e = 0
   ·rw [if_pos he]
    have h1:=tok_len he
    rw [Qbt] at h1
    refine ih _ _ (by omega) (by omega) ?_ ?_
    ·intro t ht
     rcases List.mem_append.1 ht with h | h
     ·exact hacc t h
     ·rw [List.mem_singleton.1 h]
      exact good_tok hk hs he
    ·rw [joinL_snoc,hj,← List.append_assoc,take_extract s k _ h2,take_extract s _ _ (by omega)]
   ·rw [if_neg he]
    exact ⟨fun h=>absurd h he,fun _=>⟨rfl,rfl⟩⟩
theorem scanR_good (s:ByteArray):GoodRes s (Qbd s):=by
 unfold Qbd
 split
 ·exact ⟨(fun h=>by cases h),fun _=>⟨rfl,rfl⟩⟩
 ·exact scanF_good s _ _ _ (Nat.zero_le _) (by omega) (by simp) (by simp [joinL])
theorem runLen_yes {p:Int → Bool} {c:UInt8} (h:p c.toNat = true) (r:List UInt8):Qdz p (c :: r) = Qdz p r + 1:=by simp [Qdz,h]
theorem runLen_no {p:Int → Bool} {c:UInt8} (h:¬ p c.toNat = true) (r:List UInt8):Qdz p (c :: r) = 0:=by simp [Qdz,h]
theorem runLen_full {p:Int → Bool} {a:List UInt8} (h:Qdz p a = a.length) (x:List UInt8):Qdz p (a ++ x) = a.length + Qdz p x:=by
 induction a with
 | nil=>simp
 | cons c r ih =>
  rw [List.cons_append,xD]
  rw [xD] at h
  by_cases hp:p c.toNat = true
  ·rw [runLen_yes hp] at h ⊢
   rw [ih (by omega)]
   omega
  ·rw [runLen_no hp] at h
   omega
theorem runLen_part {p:Int → Bool} {a:List UInt8} (h:Qdz p a ≠ a.length) (x:List UInt8):Qdz p (a ++ x) = Qdz p a:=by
 induction a with
 | nil=>exact absurd rfl h
 | cons c r ih =>
  rw [List.cons_append]
  rw [xD] at h
  by_cases hp:p c.toNat = true
  ·rw [runLen_yes hp] at h ⊢
   rw [runLen_yes hp,ih (by omega)]
  ·rw [runLen_no hp,runLen_no hp]
theorem at_app {a:List UInt8} {k:Nat} (h:k < a.length) (x:List UInt8):at' (a ++ x) k = at' a k:=by
 unfold at'
 rw [List.getD_eq_getElem?_getD,List.getD_eq_getElem?_getD,List.getElem?_append_left h]
theorem at_next (a:List UInt8) (d:UInt8) (r:List UInt8):at' (a ++ d :: r) a.length = d.toNat:=by
 unfold at'
 rw [List.getD_eq_getElem?_getD,List.getElem?_append_right (xA _),Nat.sub_self]
 rfl
theorem quotT_app (a:List UInt8):∀ i x,(Qcx i a).e = 0 → Qcx i (a ++ x) = Qcx i a:=by
 induction a with
 | nil=>intro i x h;simp [Qcx] at h
 | cons c r ih =>
  intro i x h
  rw [List.cons_append]
  unfold Qcx at h ⊢
  by_cases h1:c.toNat = 34
  ·rw [if_pos h1,if_pos h1]
  ·rw [if_neg h1] at h ⊢
   rw [if_neg h1]
   by_cases h2:c.toNat = 92 ∨ c.toNat = 9 ∨ c.toNat = 10 ∨ c.toNat = 13
   ·rw [if_pos h2] at h
    cases h
   ·rw [if_neg h2] at h ⊢
    rw [if_neg h2]
    by_cases h3:Qaq c.toNat = true
    ·rw [if_pos h3] at h ⊢
     rw [if_pos h3]
     exact ih _ _ h
    ·rw [if_neg h3] at h
     cases h
def goes (a:List UInt8) (d:UInt8):Bool :=
 if Qat (at' a 0) then Qgr d.toNat
 else if Qby (at' a 0) then Qby d.toNat
 else at' a 0 == 61 && a.length == 1 && d.toNat == 61
theorem plain_n {l:List UInt8} (h:(Qdt l).e = 0):(Qdt l).n = Qac l:=by
 unfold Qdt at h ⊢
 by_cases h1:24 < Qac l
 ·rw [if_pos h1] at h
  cases h
 ·rw [if_neg h1]
  split
  ·rfl
  ·split <;> rfl
theorem qual_n {l:List UInt8} {n:Nat} (h:(Qc5 l n).e = 0):(Qc5 l n).n = n + 1 + Qac (l.drop (n + 1)):=by
 unfold Qc5 at h ⊢
 by_cases h1:24 < n ∨ 24 < Qac (l.drop (n + 1))
 ·rw [if_pos h1] at h
  cases h
 ·rw [if_neg h1] at h ⊢
  by_cases h2:Qar ((l.drop (n + 1)).take (Qac (l.drop (n + 1)))) = true
  ·rw [if_pos h2] at h
   cases h
  ·rw [if_neg h2]
   split <;> rfl
theorem num_n {l:List UInt8} (h:(numT l).e = 0):(numT l).n = Qds l:=by
 unfold numT at h ⊢
 by_cases h1:1 < Qds l ∧ at' l 0 = 48
 ·rw [if_pos h1] at h
  cases h
 ·rw [if_neg h1] at h ⊢
  by_cases h2:15 < Qds l
  ·rw [if_pos h2] at h
   cases h
  ·rw [if_neg h2]
theorem run_next {p:Int → Bool} {d:UInt8} (h:p d.toNat = false) (r:List UInt8):Qdz p (d :: r) = 0:=by simp [Qdz,h]
theorem run_next_yes {p:Int → Bool} {d:UInt8} (h:p d.toNat = true) (r:List UInt8):0 < Qdz p (d :: r):=by simp [Qdz,h]
theorem dotted_parts {l:List UInt8} (h:Qc4 l = true):Qac l + 1 < l.length ∧ at' l (Qac l) = 46:=by
 unfold Qc4 at h
 simp only [Bool.and_eq_true,decide_eq_true_eq,beq_iff_eq] at h
 exact ⟨h.1.1.2,h.1.2⟩
theorem dotted_app {a:List UInt8} (h:Qac a + 1 < a.length) (x:List UInt8):Qc4 (a ++ x) = Qc4 a:=by
 have hw:Qac (a ++ x) = Qac a:=runLen_part (by show Qac a ≠ _;omega) x
 unfold Qc4
 rw [hw,at_app (by omega),at_app (by omega),at_app (by omega),List.take_append_of_le_length (by omega),xB,decide_eq_true h,decide_eq_true (by omega)]
theorem word_stop {a:List UInt8} {d:UInt8} (h0:0 < a.length) (he:(Qdm a).e = 0) (hn:(Qdm a).n = a.length) (hd:Qgr d.toNat = false) (h46:d.toNat ≠ 46) (r:List UInt8):Qdm (a ++ d :: r) = Qdm a:=by
 have hz:=run_next hd r
 unfold Qdm at he hn ⊢
 by_cases hdot:Qc4 a = true
 ·rw [if_pos hdot] at he hn ⊢
  obtain ⟨hl,_⟩:=dotted_parts hdot
  have hw:Qac (a ++ d :: r) = Qac a:=runLen_part (by show Qac a ≠ _;omega) _
  have hq:=qual_n he
  rw [dotted_app hl,if_pos hdot,hw]
  have hdr:(a ++ d :: r).drop (Qac a + 1) = a.drop (Qac a + 1) ++ d :: r:=List.drop_append_of_le_length (by omega)
  have hfull:Qdz Qgr (a.drop (Qac a + 1)) = (a.drop (Qac a + 1)).length:=by
   show Qac _ = _
   rw [List.length_drop]
   omega
  have hwl:Qac (a.drop (Qac a + 1) ++ d :: r) = Qac (a.drop (Qac a + 1)):=by
   show Qdz Qgr _ = Qdz Qgr _
   rw [runLen_full hfull,hz,hfull,Nat.add_zero]
  unfold Qc5
  rw [hdr,hwl,at_app hl,List.take_append_of_le_length (wordLen_len _)]
 ·rw [if_neg hdot] at he hn ⊢
  have hp:=plain_n he
  have hfull:Qdz Qgr a = a.length:=by
   show Qac a = _
   omega
  have hw:Qac (a ++ d :: r) = Qac a:=by
   show Qdz Qgr _ = Qdz Qgr _
   rw [runLen_full hfull,hz,hfull,Nat.add_zero]
  have hnd:¬ Qc4 (a ++ d :: r) = true:=by
   intro h
   have:=(dotted_parts h).2
   rw [hw,show Qac a = a.length from hfull,at_next] at this
   exact h46 this
  rw [if_neg hnd]
  unfold Qdt
  rw [hw,at_app h0,List.take_append_of_le_length (by show Qdz Qgr a ≤ _;omega)]
theorem num_stop {a:List UInt8} {d:UInt8} (h0:0 < a.length) (he:(numT a).e = 0) (hn:(numT a).n = a.length) (hd:Qby d.toNat = false) (r:List UInt8):numT (a ++ d :: r) = numT a:=by
 have hp:=num_n he
 have hfull:Qdz Qby a = a.length:=by
  show Qds a = _
  omega
 have hw:Qds (a ++ d :: r) = Qds a:=by
  show Qdz Qby _ = Qdz Qby _
  rw [runLen_full hfull,run_next hd,hfull,Nat.add_zero]
 unfold numT
 rw [hw,at_app h0]
theorem sign_stop {a:List UInt8} {d:UInt8} (h0:0 < a.length) (he:(Qd7 a).e = 0) (hn:(Qd7 a).n = a.length) (hd:¬ (at' a 0 = 61 ∧ a.length = 1 ∧ d.toNat = 61)) (r:List UInt8):Qd7 (a ++ d :: r) = Qd7 a:=by
 have hz:Qbn a ≠ 0:=by
  intro hz
  unfold Qd7 at he
  rw [if_pos hz] at he
  cases he
 have hl:Qbn a = a.length:=by
  unfold Qd7 at hn
  rw [if_neg hz] at hn
  exact hn
 have hs:Qbn (a ++ d :: r) = Qbn a:=by
  unfold Qbn at hl ⊢
  rw [at_app h0]
  by_cases h1:at' a 0 = 61
  ·rw [if_pos h1] at hl ⊢
   rw [if_pos h1]
   by_cases h2:at' a 1 = 61
   ·rw [if_pos h2] at hl ⊢
    rw [at_app (by omega),if_pos h2]
   ·rw [if_neg h2] at hl ⊢
    have:at' (a ++ d :: r) 1 = d.toNat:=by rw [hl];exact at_next a d r
    rw [this,if_neg (fun h=>hd ⟨h1,hl.symm,h⟩)]
  ·rw [if_neg h1,if_neg h1]
 unfold Qd7
 rw [hs]
theorem tok_stop {a:List UInt8} {d:UInt8} (he:(Qbb a).e = 0) (hn:(Qbb a).n = a.length) (hg:goes a d = false) (h46:d.toNat ≠ 46) (r:List UInt8):Qbb (a ++ d :: r) = Qbb a:=by
 have h0:0 < a.length:=by have:=(tok_len he).1;omega
 unfold goes at hg
 unfold Qbb at he hn ⊢
 rw [at_app h0]
 by_cases ha:Qaq (at' a 0) = false
 ·rw [if_pos ha,if_pos ha]
 ·rw [if_neg ha] at he hn ⊢
  rw [if_neg ha]
  by_cases hl:Qat (at' a 0) = true
  ·rw [if_pos hl] at he hn hg ⊢
   rw [if_pos hl]
   exact word_stop h0 he hn hg h46 r
  ·rw [if_neg hl] at he hn hg ⊢
   rw [if_neg hl]
   by_cases hd:Qby (at' a 0) = true
   ·rw [if_pos hd] at he hn hg ⊢
    rw [if_pos hd]
    exact num_stop h0 he hn hg r
   ·rw [if_neg hd] at he hn hg ⊢
    rw [if_neg hd]
    by_cases h34:at' a 0 = 34
    ·rw [if_pos h34] at he hn ⊢
     rw [if_pos h34,List.drop_append_of_le_length (by omega)]
     exact quotT_app _ _ _ he
    ·rw [if_neg h34] at he hn ⊢
     rw [if_neg h34]
     exact sign_stop h0 he hn (by intro h;rw [h.1,h.2.1,h.2.2] at hg;exact absurd hg (by decide)) r
theorem tok_goes {a:List UInt8} {d:UInt8} (he:(Qbb a).e = 0) (hn:(Qbb a).n = a.length) (hg:goes a d = true) (r:List UInt8) (he2:(Qbb (a ++ d :: r)).e = 0):(Qbb (a ++ d :: r)).n ≠ a.length:=by
 have h0:0 < a.length:=by have:=(tok_len he).1;omega
 unfold goes at hg
 unfold Qbb at he hn he2 ⊢
 rw [at_app h0] at he2 ⊢
 by_cases ha:Qaq (at' a 0) = false
 ·rw [if_pos ha] at he
  cases he
 ·rw [if_neg ha] at he hn he2 ⊢
  by_cases hl:Qat (at' a 0) = true
  ·rw [if_pos hl] at he hn hg he2 ⊢
   have hz:=run_next_yes hg r
   unfold Qdm at he hn he2 ⊢
   by_cases hdot:Qc4 a = true
   ·rw [if_pos hdot] at he hn
    obtain ⟨hl2,_⟩:=dotted_parts hdot
    have hw:Qac (a ++ d :: r) = Qac a:=runLen_part (by show Qac a ≠ _;omega) _
    have hq:=qual_n he
    rw [dotted_app hl2,if_pos hdot,hw] at he2 ⊢
    rw [qual_n he2,List.drop_append_of_le_length (by omega)]
    have hfull:Qdz Qgr (a.drop (Qac a + 1)) = (a.drop (Qac a + 1)).length:=by
     show Qac _ = _
     rw [List.length_drop]
     omega
    have:Qac (a.drop (Qac a + 1) ++ d :: r) = (a.drop (Qac a + 1)).length + Qdz Qgr (d :: r):=runLen_full hfull _
    rw [this,List.length_drop]
    omega
   ·rw [if_neg hdot] at he hn
    have hp:=plain_n he
    have hfull:Qdz Qgr a = a.length:=by
     show Qac a = _
     omega
    have hw:Qac (a ++ d :: r) = a.length + Qdz Qgr (d :: r):=runLen_full hfull _
    by_cases hd2:Qc4 (a ++ d :: r) = true
    ·rw [if_pos hd2] at he2 ⊢
     rw [qual_n he2,hw]
     omega
    ·rw [if_neg hd2] at he2 ⊢
     rw [plain_n he2,hw]
     omega
  ·rw [if_neg hl] at he hn hg he2 ⊢
   by_cases hd:Qby (at' a 0) = true
   ·rw [if_pos hd] at he hn hg he2 ⊢
    have hp:=num_n he
    have hfull:Qdz Qby a = a.length:=by
     show Qds a = _
     omega
    have hw:Qds (a ++ d :: r) = a.length + Qdz Qby (d :: r):=runLen_full hfull _
    have:=run_next_yes hg r
    rw [num_n he2,hw]
    omega
   ·rw [if_neg hd] at he hn hg he2 ⊢
    simp only [Bool.and_eq_true,beq_iff_eq] at hg
    obtain ⟨⟨h1,h2⟩,h3⟩:=hg
    rw [h1,if_neg (by decide)] at he2 ⊢
    have hs:Qbn (a ++ d :: r) = 2:=by
     unfold Qbn
     have:at' (a ++ d :: r) 1 = d.toNat:=by rw [← h2];exact at_next a d r
     rw [at_app h0,if_pos h1,this,if_pos h3]
    unfold Qd7
    rw [hs,if_neg (by decide),h2]
    decide
end Go.Proofs.YtnnfdbmanamfdaaGreat
