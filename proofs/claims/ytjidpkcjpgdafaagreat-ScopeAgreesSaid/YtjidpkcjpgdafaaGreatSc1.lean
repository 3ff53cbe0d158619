/- Part 1: Plain functions on lists of bytes in whose words package lex is specified, and their mathematics. -/
import Derived.Below
import Derived.Laws.Rows
import Derived.Laws.World
import Derived.Laws.AppendOwn
import Derived.Lib.Hide
set_option maxRecDepth 100000
set_option maxHeartbeats 4000000
namespace Go.Proofs.YtjidpkcjpgdafaaGreat
theorem hQ {p : Prop} (h : p) : Go.RowKit.Hid p := Lib.hid h
open Go.RowKit
theorem xA (n : Nat) : n ≤ n := Nat.le_refl n
theorem xB.{u} {α : Type u} {xs ys : List α} : (xs ++ ys).length = xs.length + ys.length := List.length_append
theorem xC (B : Nat) (w : World) : Below B w w := Below.refl B w
theorem xD.{u} {α : Type u} {a : α} {xs : List α} : (a :: xs).length = xs.length + 1 := List.length_cons
theorem xE {n m k : Nat} : n < m → m ≤ k → n < k := Nat.lt_of_lt_of_le
theorem xF.{u} {α : Type u} {l : List α} {i : Nat} (h : i < l.length) : l[i]? = some l[i] := List.getElem?_eq_getElem h
theorem xG.{u} {α : Type u} : ([] : List α).length = 0 := List.length_nil
theorem xH (w : World) (o : Obj) : (w.alloc o).heap[w.heap.size]? = some o := heap_alloc_new w o
theorem xI (w : World) (o : Obj) : (w.alloc o).heap.size = w.heap.size + 1 := World.size_alloc w o
theorem xJ {w w' : World} {a : Addr} : w'.heap[a.block]? = w.heap[a.block]? → w'.cell? a = w.cell? a := World.cell?_of_block
theorem xK (w : World) (a : Addr) {u : Value} : w.cell? a = some u → a.block < w.heap.size := World.block_lt_of_cell? w a
def Qd0 (c:Int):Bool:=c == 9 || c == 10 || c == 13 || c == 32
def Qbx (c:Int):Bool:=decide (65 ≤ c) && decide (c ≤ 90)
def lowerB (c:Int):Bool:=decide (97 ≤ c) && decide (c ≤ 122)
def Qau (c:Int):Bool:=Qbx c || lowerB c
def Qby (c:Int):Bool:=decide (48 ≤ c) && decide (c ≤ 57)
def wordB (c:Int):Bool:=Qau c || Qby c || c == 95
def Qfw (c:Int):Bool:=decide (32 ≤ c) && decide (c ≤ 126)
def Qap (c:Int):Bool:=Qd0 c || (decide (32 < c) && decide (c ≤ 126))
theorem allowed_printed (c:Int):Qap c = (Qd0 c || Qfw c):=by
 unfold Qap Qd0 Qfw
 rw [Bool.eq_iff_iff]
 simp
 omega
def suf (s:ByteArray) (k:Nat):List UInt8:=s.data.toList.drop k
theorem Qcz (s:ByteArray) (k:Nat) (h:k < s.size):suf s k = s[k] :: suf s (k + 1):=by
 unfold suf
 rw [List.drop_eq_getElem_cons (by simpa using h)]
 rfl
theorem suf_end (s:ByteArray) (k:Nat) (h:s.size ≤ k):suf s k = []:=by
 unfold suf
 exact List.drop_eq_nil_of_le (by simpa using h)
theorem Qbs (s:ByteArray) (k:Nat):(suf s k).length = s.size - k:=by
 unfold suf
 simp
def Qcb:Bool → List UInt8 → Nat × Bool
 | o,[]=>(0,o)
 | o,c :: r =>
  if Qap c.toNat then
   if o then ((Qcb (c.toNat != 10) r).1 + 1,(Qcb (c.toNat != 10) r).2)
   else if c.toNat = 35 then ((Qcb true r).1 + 1,(Qcb true r).2)
   else if Qd0 c.toNat then ((Qcb false r).1 + 1,(Qcb false r).2)
   else (0,false)
  else (0,o)
theorem skipL_le (o:Bool) (l:List UInt8):(Qcb o l).1 ≤ l.length:=by
 induction l generalizing o with
 | nil=>simp [Qcb]
 | cons c r ih =>
  have h1:=ih (c.toNat != 10)
  have h2:=ih true
  have h3:=ih false
  unfold Qcb
  simp only [xD]
  split
  ·split
   ·simp only [];omega
   ·split
    ·simp only [];omega
    ·split
     ·simp only [];omega
     ·simp
  ·simp
def Qal (s:ByteArray) (i:Nat):Nat:=i + (Qcb false (suf s i)).1
def Qct (s:ByteArray) (i:Nat):Bool:=(Qcb false (suf s i)).2
theorem Qgp (s:ByteArray) (i:Nat):i ≤ Qal s i:=by unfold Qal;omega
theorem Qf0 (s:ByteArray) (i:Nat) (h:i ≤ s.size):Qal s i ≤ s.size:=by
 have:=skipL_le false (suf s i)
 rw [Qbs] at this
 unfold Qal
 omega
def SkipAt (s:ByteArray) (i k:Nat) (o:Bool):Prop:=i ≤ k ∧ k ≤ s.size ∧ Qal s i = k + (Qcb o (suf s k)).1 ∧ Qct s i = (Qcb o (suf s k)).2
theorem SkipAt.start (s:ByteArray) (i:Nat) (h:i ≤ s.size):SkipAt s i i false:=⟨xA _,h,rfl,rfl⟩
section
variable {s:ByteArray} {i k:Nat} {o:Bool}
theorem SkipAt.done (h:SkipAt s i k o) (hk:¬ k < s.size):Qal s i = k ∧ Qct s i = o:=by
 obtain ⟨_,_,h1,h2⟩:=h
 rw [suf_end s k (by omega)] at h1 h2
 exact ⟨h1,h2⟩
theorem SkipAt.bad (h:SkipAt s i k o) (hk:k < s.size) (ha:Qap s[k].toNat = false):Qal s i = k ∧ Qct s i = o:=by
 obtain ⟨_,_,h1,h2⟩:=h
 rw [Qcz s k hk] at h1 h2
 simp [Qcb,ha] at h1 h2
 exact ⟨h1,h2⟩
theorem SkipAt.other (h:SkipAt s i k false) (hk:k < s.size) (ha:Qd0 s[k].toNat = false) (hc:s[k].toNat ≠ 35):Qal s i = k ∧ Qct s i = false:=by
 obtain ⟨_,_,h1,h2⟩:=h
 rw [Qcz s k hk] at h1 h2
 simp [Qcb,ha,hc] at h1 h2
 exact ⟨h1,h2⟩
theorem SkipAt.inside (h:SkipAt s i k true) (hk:k < s.size) (ha:Qap s[k].toNat = true):SkipAt s i (k + 1) (s[k].toNat != 10):=by
 obtain ⟨h0,_,h1,h2⟩:=h
 rw [Qcz s k hk] at h1 h2
 simp only [Qcb,ha,if_true] at h1 h2
 exact ⟨by omega,by omega,by omega,h2⟩
theorem SkipAt.opens (h:SkipAt s i k false) (hk:k < s.size) (hc:s[k].toNat = 35):SkipAt s i (k + 1) true:=by
 obtain ⟨h0,_,h1,h2⟩:=h
 have ha:Qap ((35:Nat):Int) = true:=by decide
 rw [Qcz s k hk] at h1 h2
 simp only [Qcb,hc,ha,if_true,Bool.false_eq_true,if_false] at h1 h2
 exact ⟨by omega,by omega,by omega,h2⟩
theorem white_allowed {c:Int} (h:Qd0 c = true):Qap c = true:=by unfold Qap;simp [h]
theorem SkipAt.white (h:SkipAt s i k false) (hk:k < s.size) (ha:Qd0 s[k].toNat = true):SkipAt s i (k + 1) false:=by
 obtain ⟨h0,_,h1,h2⟩:=h
 have hc:s[k].toNat ≠ 35:=by intro e;rw [e] at ha;exact absurd ha (by decide)
 rw [Qcz s k hk] at h1 h2
 simp only [Qcb,ha,hc,white_allowed ha,if_true,Bool.false_eq_true,if_false] at h1 h2
 exact ⟨by omega,by omega,by omega,h2⟩
end
def Qfs (s:ByteArray) (fin:Bool):Bool:=(Qal s 0 == s.size) && (fin || !Qct s 0)
def badAt (s:ByteArray) (i:Nat):Int:=if Qct s i = true ∧ Qal s i < s.size then (Qal s i:Int) else -1
theorem badAt_yes {s:ByteArray} {i k:Nat} (h:Qal s i = k ∧ Qct s i = true) (hk:k < s.size):badAt s i = k:=by
 unfold badAt
 rw [h.1,if_pos ⟨h.2,hk⟩]
theorem badAt_no {s:ByteArray} {i k:Nat} {o:Bool} (h:Qal s i = k ∧ Qct s i = o) (hk:o = false ∨ ¬ k < s.size):badAt s i = -1:=by
 unfold badAt
 rw [h.1,h.2,if_neg (by rcases hk with rfl | hk <;> simp_all)]
section
variable {s:ByteArray} {i k:Nat}
theorem SkipAt.begun (h:SkipAt s i k false) (hk:k < s.size) (hc:s[k].toNat = 35):SkipAt s i k true:=by
 obtain ⟨h0,h3,h1,h2⟩:=h
 refine ⟨h0,h3,?_,?_⟩
 ·rw [h1,Qcz s k hk]
  have ha:Qap (35:Int) = true:=by decide
  simp [Qcb,hc,ha]
 ·rw [h2,Qcz s k hk]
  have ha:Qap (35:Int) = true:=by decide
  simp [Qcb,hc,ha]
theorem SkipAt.ended (h:SkipAt s i k true) (hk:k < s.size) (hc:s[k].toNat = 10):SkipAt s i k false:=by
 obtain ⟨h0,h3,h1,h2⟩:=h
 have ha:Qap (10:Int) = true:=by decide
 have hw:Qd0 (10:Int) = true:=by decide
 refine ⟨h0,h3,?_,?_⟩
 ·rw [h1,Qcz s k hk]
  simp [Qcb,hc,ha,hw]
 ·rw [h2,Qcz s k hk]
  simp [Qcb,hc,ha,hw]
end
def openF:Bool → List UInt8 → Bool
 | o,[]=>o
 | o,c :: r=>openF (if c.toNat = 10 then false else if c.toNat = 35 then true else o) r
theorem openF_skip (o:Bool) (l:List UInt8) (h:(Qcb o l).1 = l.length):openF o l = (Qcb o l).2:=by
 induction l generalizing o with
 | nil=>simp [openF,Qcb]
 | cons c r ih =>
  unfold openF
  unfold Qcb at h ⊢
  by_cases ha:Qap c.toNat = true
  ·simp only [ha,if_true] at h ⊢
   cases o
   ·simp only [Bool.false_eq_true,if_false] at h ⊢
    by_cases hc:c.toNat = 35
    ·simp only [hc,if_true,xD] at h ⊢
     simpa using ih true (by omega)
    ·by_cases hw:Qd0 c.toNat = true
     ·simp only [hc,hw,if_true,if_false,xD] at h ⊢
      simpa using ih false (by omega)
     ·simp only [hc,hw,if_false,xD] at h
      simp at h
   ·simp only [if_true,xD] at h ⊢
    rw [← ih _ (by omega)]
    congr 1
    by_cases h10:c.toNat = 10 <;> simp [h10]
  ·have hf:Qap c.toNat = false:=by simpa using ha
   rw [hf] at h
   simp at h
theorem Qd1 (s:ByteArray) (a b:Nat):suf (s.extract a b) 0 = (suf s a).take (b - a):=by
 unfold suf
 rw [List.drop_zero,ByteArray.data_extract,Array.toList_extract,List.extract_eq_take_drop]
theorem suf_to_end (s:ByteArray) (a:Nat):suf (s.extract a s.size) 0 = suf s a:=by
 rw [Qd1,List.take_of_length_le (by rw [Qbs];omega)]
theorem Qex (s:ByteArray) (a n:Nat):(suf s a).drop n = suf s (a + n):=by
 unfold suf
 rw [List.drop_drop]
def Qd2 (p:Int → Bool):List UInt8 → Nat
 | []=>0
 | c :: r=>if p c.toNat then Qd2 p r + 1 else 0
theorem runLen_le (p:Int → Bool) (l:List UInt8):Qd2 p l ≤ l.length:=by
 induction l with
 | nil=>simp [Qd2]
 | cons c r ih=>unfold Qd2;split <;> simp <;> omega
def RunAt (p:Int → Bool) (s:ByteArray) (i k:Nat):Prop:=i ≤ k ∧ k ≤ s.size ∧ Qd2 p (suf s i) + i = k + Qd2 p (suf s k)
theorem RunAt.start (p:Int → Bool) (s:ByteArray) (i:Nat) (h:i ≤ s.size):RunAt p s i i:=⟨xA _,h,by omega⟩
section
variable {p:Int → Bool} {s:ByteArray} {i k:Nat}
theorem RunAt.next (h:RunAt p s i k) (hk:k < s.size) (hp:p s[k].toNat = true):RunAt p s i (k + 1):=by
 obtain ⟨h0,_,h1⟩:=h
 rw [Qcz s k hk] at h1
 simp only [Qd2,hp,if_true] at h1
 exact ⟨by omega,by omega,by omega⟩
theorem RunAt.stop (h:RunAt p s i k) (hk:k < s.size) (hp:p s[k].toNat = false):Qd2 p (suf s i) + i = k:=by
 obtain ⟨h0,_,h1⟩:=h
 rw [Qcz s k hk] at h1
 simp only [Qd2,hp] at h1
 simpa using h1
theorem RunAt.done (h:RunAt p s i k) (hk:¬ k < s.size):Qd2 p (suf s i) + i = k:=by
 obtain ⟨h0,_,h1⟩:=h
 rw [suf_end s k (by omega)] at h1
 simpa [Qd2] using h1
end
def Qac (l:List UInt8):Nat:=Qd2 wordB l
def Qdk (l:List UInt8):Nat:=Qd2 Qby l
def reservedWords:List (List UInt8):=[[109,111,100,117,108,101],[100,101,102],[116,121,112,101],[108,101,116],[105,110],[105,102],[116,104,101,110],[101,108,115,101],[116,114,117,101],[102,97,108,115,101],[73,110,116],[84,101,120,116],[66,111,111,108]]
def Qaq (l:List UInt8):Bool:=reservedWords.contains l
structure Tk where
 kind:Nat
 n:Nat
 e:Nat
def at' (l:List UInt8) (k:Nat):Nat:=(l.getD k 0).toNat
def Qc2 (l:List UInt8) (n:Nat):Tk :=
 if 24 < n ∨ 24 < Qac (l.drop (n + 1)) then ⟨0,0,3⟩
 else if Qaq ((l.drop (n + 1)).take (Qac (l.drop (n + 1)))) then ⟨0,0,2⟩
 else if Qbx (at' l (n + 1)) then ⟨4,n + 1 + Qac (l.drop (n + 1)),0⟩
 else ⟨3,n + 1 + Qac (l.drop (n + 1)),0⟩
def Qdb (l:List UInt8):Bool :=
 Qbx (at' l 0) && !Qaq (l.take (Qac l)) && decide (Qac l + 1 < l.length) && at' l (Qac l) == 46 && Qau (at' l (Qac l + 1))
def Qdy (l:List UInt8):Tk :=
 if 24 < Qac l then ⟨0,0,3⟩
 else if Qaq (l.take (Qac l)) then ⟨7,Qac l,0⟩
 else if Qbx (at' l 0) then ⟨2,Qac l,0⟩
 else ⟨1,Qac l,0⟩
def Qdv (l:List UInt8):Tk:=if Qdb l then Qc2 l (Qac l) else Qdy l
def numT (l:List UInt8):Tk :=
 if 1 < Qdk l ∧ at' l 0 = 48 then ⟨0,0,2⟩
 else if 15 < Qdk l then ⟨0,0,3⟩
 else ⟨5,Qdk l,0⟩
def Qcv:Nat → List UInt8 → Tk
 | _,[]=>⟨0,0,2⟩
 | i,c :: r =>
  if c.toNat = 34 then ⟨6,i + 1,0⟩
  else if c.toNat = 92 ∨ c.toNat = 9 ∨ c.toNat = 10 ∨ c.toNat = 13 then ⟨0,0,2⟩
  else if Qap c.toNat then Qcv (i + 1) r
  else ⟨0,i,1⟩
def Qes (c:Int):Bool:=c == 40 || c == 41 || c == 91 || c == 93 || c == 58 || c == 44 || c == 43 || c == 45 || c == 42 || c == 60 || c == 63
def Qbn (l:List UInt8):Nat :=
 if at' l 0 = 61 then (if at' l 1 = 61 then 2 else 1)
 else if Qes (at' l 0) then 1 else 0
def Qd3 (l:List UInt8):Tk:=if Qbn l = 0 then ⟨0,0,2⟩ else ⟨8,Qbn l,0⟩
def Qbe (l:List UInt8):Tk :=
 if Qap (at' l 0) = false then ⟨0,0,1⟩
 else if Qau (at' l 0) then Qdv l
 else if Qby (at' l 0) then numT l
 else if at' l 0 = 34 then Qcv 1 (l.drop 1)
 else Qd3 l
theorem at_suf (s:ByteArray) (a k:Nat) (h:a + k < s.size):at' (suf s a) k = s[a + k].toNat:=by
 unfold at' suf
 rw [List.getD_eq_getElem?_getD,List.getElem?_drop,xF (by simpa using h)]
 rfl
theorem wordLen_len (l:List UInt8):Qac l ≤ l.length:=runLen_le wordB l
theorem numLen_len (l:List UInt8):Qdk l ≤ l.length:=runLen_le Qby l
theorem at_cons (c:UInt8) (r:List UInt8):at' (c :: r) 0 = c.toNat:=rfl
theorem wordLen_head {l:List UInt8} (h:Qau (at' l 0) = true):0 < Qac l:=by
 cases l with
 | nil=>exact absurd h (by decide)
 | cons c r =>
  rw [at_cons] at h
  have:wordB c.toNat = true:=by unfold wordB;rw [h];rfl
  unfold Qac
  simp [Qd2,this]
theorem numLen_head {l:List UInt8} (h:Qby (at' l 0) = true):0 < Qdk l:=by
 cases l with
 | nil=>exact absurd h (by decide)
 | cons c r =>
  rw [at_cons] at h
  unfold Qdk
  simp [Qd2,h]
theorem quotT_len (l:List UInt8):∀ i,(Qcv i l).e = 0 → i < (Qcv i l).n ∧ (Qcv i l).n ≤ i + l.length:=by
 induction l with
 | nil=>intro i h;simp [Qcv] at h
 | cons c r ih =>
  intro i h
  unfold Qcv at h ⊢
  by_cases h1:c.toNat = 34
  ·simp only [h1,if_true,xD]
   omega
  ·simp only [h1,if_false] at h ⊢
   by_cases h2:c.toNat = 92 ∨ c.toNat = 9 ∨ c.toNat = 10 ∨ c.toNat = 13
   ·simp [h2] at h
   ·simp only [h2,if_false] at h ⊢
    by_cases h3:Qap c.toNat = true
    ·simp only [h3,if_true,xD] at h ⊢
     have:=ih (i + 1) h
     omega
    ·simp [h3] at h
theorem qual_len {l:List UInt8} {n:Nat} (hn:n + 1 < l.length) (h:(Qc2 l n).e = 0):0 < (Qc2 l n).n ∧ (Qc2 l n).n ≤ l.length:=by
 have hm:=wordLen_len (l.drop (n + 1))
 rw [List.length_drop] at hm
 unfold Qc2 at h ⊢
 by_cases h1:24 < n ∨ 24 < Qac (l.drop (n + 1))
 ·rw [if_pos h1] at h
  cases h
 ·rw [if_neg h1] at h ⊢
  by_cases h2:Qaq ((l.drop (n + 1)).take (Qac (l.drop (n + 1)))) = true
  ·rw [if_pos h2] at h
   cases h
  ·rw [if_neg h2]
   by_cases h3:Qbx (at' l (n + 1)) = true
   ·rw [if_pos h3]
    exact ⟨by show 0 < n + 1 + _;omega,by show n + 1 + _ ≤ _;omega⟩
   ·rw [if_neg h3]
    exact ⟨by show 0 < n + 1 + _;omega,by show n + 1 + _ ≤ _;omega⟩
theorem plain_len {l:List UInt8} (hw:0 < Qac l) (h:(Qdy l).e = 0):0 < (Qdy l).n ∧ (Qdy l).n ≤ l.length:=by
 have hm:=wordLen_len l
 unfold Qdy at h ⊢
 by_cases h1:24 < Qac l
 ·rw [if_pos h1] at h
  cases h
 ·rw [if_neg h1]
  by_cases h2:Qaq (l.take (Qac l)) = true
  ·rw [if_pos h2]
   exact ⟨hw,hm⟩
  ·rw [if_neg h2]
   by_cases h3:Qbx (at' l 0) = true
   ·rw [if_pos h3]
    exact ⟨hw,hm⟩
   ·rw [if_neg h3]
    exact ⟨hw,hm⟩
theorem num_len {l:List UInt8} (hw:0 < Qdk l) (h:(numT l).e = 0):0 < (numT l).n ∧ (numT l).n ≤ l.length:=by
 have hm:=numLen_len l
 unfold numT at h ⊢
 by_cases h1:1 < Qdk l ∧ at' l 0 = 48
 ·rw [if_pos h1] at h
  cases h
 ·rw [if_neg h1] at h ⊢
  by_cases h2:15 < Qdk l
  ·rw [if_pos h2] at h
   cases h
  ·rw [if_neg h2]
   exact ⟨hw,hm⟩
theorem signLen_len (l:List UInt8):Qbn l ≤ l.length:=by
 unfold Qbn
 match l with
 | []=>decide
 | [c] =>
  have h1:at' [c] 1 = 0:=rfl
  rw [h1,show [c].length = 1 from rfl]
  by_cases h:at' [c] 0 = 61
  ·rw [if_pos h]
   decide
  ·rw [if_neg h]
   by_cases h2:Qes (at' [c] 0) = true
   ·rw [if_pos h2]
    decide
   ·rw [if_neg h2]
    decide
 | c :: d :: r =>
  simp only [xD]
  by_cases h:at' (c :: d :: r) 0 = 61
  ·rw [if_pos h]
   by_cases h2:at' (c :: d :: r) 1 = 61
   ·rw [if_pos h2]
    omega
   ·rw [if_neg h2]
    omega
  ·rw [if_neg h]
   by_cases h2:Qes (at' (c :: d :: r) 0) = true
   ·rw [if_pos h2]
    omega
   ·rw [if_neg h2]
    omega
theorem sign_len {l:List UInt8} (h:(Qd3 l).e = 0):0 < (Qd3 l).n ∧ (Qd3 l).n ≤ l.length:=by
 have hm:=signLen_len l
 unfold Qd3 at h ⊢
 by_cases hz:Qbn l = 0
 ·rw [if_pos hz] at h
  cases h
 ·rw [if_neg hz]
  exact ⟨by show 0 < Qbn l;omega,hm⟩
theorem tok_len {l:List UInt8} (h:(Qbe l).e = 0):0 < (Qbe l).n ∧ (Qbe l).n ≤ l.length:=by
 unfold Qbe at h ⊢
 by_cases ha:Qap (at' l 0) = false
 ·rw [if_pos ha] at h
  cases h
 ·rw [if_neg ha] at h ⊢
  by_cases hl:Qau (at' l 0) = true
  ·rw [if_pos hl] at h ⊢
   unfold Qdv at h ⊢
   by_cases hd:Qdb l = true
   ·rw [if_pos hd] at h ⊢
    have hlen:Qac l + 1 < l.length:=by
     unfold Qdb at hd
     simp only [Bool.and_eq_true,decide_eq_true_eq] at hd
     exact hd.1.1.2
    exact qual_len hlen h
   ·rw [if_neg hd] at h ⊢
    exact plain_len (wordLen_head hl) h
  ·rw [if_neg hl] at h ⊢
   by_cases hd:Qby (at' l 0) = true
   ·rw [if_pos hd] at h ⊢
    exact num_len (numLen_head hd) h
   ·rw [if_neg hd] at h ⊢
    by_cases h34:at' l 0 = 34
    ·rw [if_pos h34] at h ⊢
     have:=quotT_len (l.drop 1) 1 h
     rw [List.length_drop] at this
     cases l with
     | nil=>exact absurd h34 (by decide)
     | cons c r =>
      rw [xD] at this ⊢
      omega
    ·rw [if_neg h34] at h ⊢
     exact sign_len h
theorem quotT_any (l:List UInt8):∀ i,(Qcv i l).n ≤ i + l.length:=by
 induction l with
 | nil=>intro i;exact Nat.zero_le _
 | cons c r ih =>
  intro i
  unfold Qcv
  rw [xD]
  by_cases h1:c.toNat = 34
  ·rw [if_pos h1]
   show i + 1 ≤ _
   omega
  ·rw [if_neg h1]
   by_cases h2:c.toNat = 92 ∨ c.toNat = 9 ∨ c.toNat = 10 ∨ c.toNat = 13
   ·rw [if_pos h2]
    exact Nat.zero_le _
   ·rw [if_neg h2]
    by_cases h3:Qap c.toNat = true
    ·rw [if_pos h3]
     have:=ih (i + 1)
     omega
    ·rw [if_neg h3]
     show i ≤ _
     omega
theorem tok_err_len {l:List UInt8} (h:(Qbe l).e ≠ 0):(Qbe l).n ≤ l.length:=by
 unfold Qbe at h ⊢
 by_cases ha:Qap (at' l 0) = false
 ·rw [if_pos ha]
  exact Nat.zero_le _
 ·rw [if_neg ha] at h ⊢
  by_cases hl:Qau (at' l 0) = true
  ·rw [if_pos hl] at h ⊢
   unfold Qdv at h ⊢
   by_cases hd:Qdb l = true
   ·rw [if_pos hd] at h ⊢
    unfold Qc2 at h ⊢
    split
    ·exact Nat.zero_le _
    ·split
     ·exact Nat.zero_le _
     ·rename_i h1 h2
      rw [if_neg h1,if_neg h2] at h
      split at h <;> exact absurd rfl h
   ·rw [if_neg hd] at h ⊢
    unfold Qdy at h ⊢
    split
    ·exact Nat.zero_le _
    ·rename_i h1
     rw [if_neg h1] at h
     split at h
     ·exact absurd rfl h
     ·split at h <;> exact absurd rfl h
  ·rw [if_neg hl] at h ⊢
   by_cases hd:Qby (at' l 0) = true
   ·rw [if_pos hd] at h ⊢
    unfold numT at h ⊢
    split
    ·exact Nat.zero_le _
    ·split
     ·exact Nat.zero_le _
     ·rename_i h1 h2
      rw [if_neg h1,if_neg h2] at h
      exact absurd rfl h
   ·rw [if_neg hd] at h ⊢
    by_cases h34:at' l 0 = 34
    ·rw [if_pos h34]
     have:=quotT_any (l.drop 1) 1
     rw [List.length_drop] at this
     cases l with
     | nil=>exact absurd h34 (by decide)
     | cons c r =>
      rw [xD] at this ⊢
      omega
    ·rw [if_neg h34] at h ⊢
     unfold Qd3 at h ⊢
     split
     ·exact Nat.zero_le _
     ·rename_i h1
      rw [if_neg h1] at h
      exact absurd rfl h
structure Tok where
 kind:Int
 lead:ByteArray
 text:ByteArray
structure Res where
 toks:List Tok
 tail:ByteArray
 place:Nat
 e:Nat
def scanF (s:ByteArray):Nat → Nat → List Tok → Res
 | 0,_,_=>⟨[],ByteArray.empty,0,0⟩
 | f + 1,k,acc =>
  if Qal s k = s.size then ⟨acc,s.extract k s.size,0,0⟩
  else if (Qbe (suf s (Qal s k))).e = 0 then
   scanF s f (Qal s k + (Qbe (suf s (Qal s k))).n) (acc ++ [⟨(Qbe (suf s (Qal s k))).kind,s.extract k (Qal s k),s.extract (Qal s k) (Qal s k + (Qbe (suf s (Qal s k))).n)⟩])
  else ⟨[],ByteArray.empty,Qal s k + (Qbe (suf s (Qal s k))).n,(Qbe (suf s (Qal s k))).e⟩
def scanG (s:ByteArray):Res:=scanF s (s.size + 1) 0 []
def Qbf (s:ByteArray):Res:=if 4096 < s.size then ⟨[],ByteArray.empty,4096,3⟩ else scanG s
def ScanAt (s:ByteArray) (k:Nat) (acc:List Tok):Prop:=k ≤ s.size ∧ acc.length ≤ k ∧ ∃ f,s.size < f + k ∧ scanG s = scanF s f k acc
theorem ScanAt.start (s:ByteArray):ScanAt s 0 []:=⟨Nat.zero_le _,xA _,s.size + 1,by omega,rfl⟩
section
variable {s:ByteArray} {k:Nat} {acc:List Tok}
theorem ScanAt.done (h:ScanAt s k acc) (hs:Qal s k = s.size):scanG s = ⟨acc,s.extract k s.size,0,0⟩:=by
 obtain ⟨hk,_,f,hf,h⟩:=h
 obtain ⟨f,rfl⟩:∃ g,f = g + 1:=⟨f - 1,by omega⟩
 rw [h,scanF,if_pos hs]
theorem ScanAt.stop (h:ScanAt s k acc) (hs:Qal s k ≠ s.size) (he:(Qbe (suf s (Qal s k))).e ≠ 0):scanG s = ⟨[],ByteArray.empty,Qal s k + (Qbe (suf s (Qal s k))).n,(Qbe (suf s (Qal s k))).e⟩:=by
 obtain ⟨hk,_,f,hf,h⟩:=h
 obtain ⟨f,rfl⟩:∃ g,f = g + 1:=⟨f - 1,by omega⟩
 rw [h,scanF,if_neg hs,if_neg he]
theorem ScanAt.next (h:ScanAt s k acc) (hs:Qal s k ≠ s.size) (he:(Qbe (suf s (Qal s k))).e = 0) :
  ScanAt s (Qal s k + (Qbe (suf s (Qal s k))).n) (acc ++ [⟨(Qbe (suf s (Qal s k))).kind,s.extract k (Qal s k),s.extract (Qal s k) (Qal s k + (Qbe (suf s (Qal s k))).n)⟩]):=by
 obtain ⟨hk,ha,f,hf,h⟩:=h
 have h1:=tok_len he
 have h2:=Qgp s k
 have h3:=Qf0 s k hk
 rw [Qbs] at h1
 obtain ⟨f,rfl⟩:∃ g,f = g + 1:=⟨f - 1,by omega⟩
 refine ⟨by omega,by simp;omega,f,by omega,?_⟩
 rw [h,scanF,if_neg hs,if_pos he]
end
theorem Qg2 (p:Int → Bool) (l:List UInt8):∀ m,Qd2 p l ≤ m → Qd2 p (l.take m) = Qd2 p l:=by
 induction l with
 | nil=>intro m _;simp [Qd2]
 | cons c r ih =>
  intro m h
  cases m with
  | zero =>
   unfold Qd2 at h
   split at h
   ·omega
   ·rename_i hp
    simp [Qd2,hp]
  | succ m =>
   rw [List.take_succ_cons]
   unfold Qd2 at h ⊢
   split
   ·rename_i hp
    rw [if_pos hp] at h
    rw [ih m (by omega)]
   ·rfl
theorem Qg3 (l:List UInt8) (m k:Nat) (h:k < m):at' (l.take m) k = at' l k:=by
 unfold at'
 rw [List.getD_eq_getElem?_getD,List.getD_eq_getElem?_getD,List.getElem?_take,if_pos h]
theorem at_take_out (l:List UInt8) (m k:Nat) (h:m ≤ k):at' (l.take m) k = 0:=by
 unfold at'
 rw [List.getD_eq_getElem?_getD,List.getElem?_take,if_neg (by omega)]
 rfl
theorem quotT_kind (l:List UInt8):∀ i,(Qcv i l).e = 0 → Qcv i l = ⟨6,(Qcv i l).n,0⟩:=by
 induction l with
 | nil=>intro i h;simp [Qcv] at h
 | cons c r ih =>
  intro i h
  unfold Qcv at h ⊢
  by_cases h1:c.toNat = 34
  ·rw [if_pos h1]
  ·rw [if_neg h1] at h ⊢
   by_cases h2:c.toNat = 92 ∨ c.toNat = 9 ∨ c.toNat = 10 ∨ c.toNat = 13
   ·rw [if_pos h2] at h
    cases h
   ·rw [if_neg h2] at h ⊢
    by_cases h3:Qap c.toNat = true
    ·rw [if_pos h3] at h ⊢
     exact ih _ h
    ·rw [if_neg h3] at h
     cases h
theorem quotT_take (l:List UInt8):∀ i,(Qcv i l).e = 0 → Qcv i (l.take ((Qcv i l).n - i)) = Qcv i l:=by
 induction l with
 | nil=>intro i h;simp [Qcv] at h
 | cons c r ih =>
  intro i h
  have hn:=(quotT_len (c :: r) i h).1
  unfold Qcv at h hn
  by_cases h1:c.toNat = 34
  ·have e:Qcv i (c :: r) = ⟨6,i + 1,0⟩:=by rw [Qcv,if_pos h1]
   rw [e,show i + 1 - i = 1 from by omega]
   rw [List.take_succ_cons,Qcv,if_pos h1]
  ·rw [if_neg h1] at h hn
   by_cases h2:c.toNat = 92 ∨ c.toNat = 9 ∨ c.toNat = 10 ∨ c.toNat = 13
   ·rw [if_pos h2] at h
    cases h
   ·rw [if_neg h2] at h hn
    by_cases h3:Qap c.toNat = true
    ·rw [if_pos h3] at h hn
     have e:Qcv i (c :: r) = Qcv (i + 1) r:=by rw [Qcv,if_neg h1,if_neg h2,if_pos h3]
     have h4:=(quotT_len r (i + 1) h).1
     rw [e,show (Qcv (i + 1) r).n - i = ((Qcv (i + 1) r).n - (i + 1)) + 1 from by omega,List.take_succ_cons,Qcv,if_neg h1,if_neg h2,if_pos h3]
     exact ih _ h
    ·rw [if_neg h3] at h
     cases h
theorem plain_take {l:List UInt8} (_hd:Qdb l = false) (hw:0 < Qac l) (h:(Qdy l).e = 0):Qdb (l.take (Qdy l).n) = false ∧ Qdy (l.take (Qdy l).n) = Qdy l:=by
 have hn:(Qdy l).n = Qac l:=by
  unfold Qdy at h ⊢
  by_cases h1:24 < Qac l
  ·rw [if_pos h1] at h
   cases h
  ·rw [if_neg h1]
   split
   ·rfl
   ·split <;> rfl
 have hwl:Qac (l.take (Qac l)) = Qac l:=Qg2 _ _ _ (xA _)
 rw [hn]
 constructor
 ·unfold Qdb
  rw [hwl,List.length_take]
  rw [show decide (Qac l + 1 < min (Qac l) l.length) = false from decide_eq_false (by omega)]
  simp
 ·unfold Qdy
  rw [hwl,List.take_take,Nat.min_self,Qg3 l _ 0 hw]
theorem qual_take {l:List UInt8} (hd:Qdb l = true) (h:(Qc2 l (Qac l)).e = 0) :
  Qdb (l.take (Qc2 l (Qac l)).n) = true ∧ Qac (l.take (Qc2 l (Qac l)).n) = Qac l ∧ Qc2 (l.take (Qc2 l (Qac l)).n) (Qac l) = Qc2 l (Qac l):=by
 have hn:(Qc2 l (Qac l)).n = Qac l + 1 + Qac (l.drop (Qac l + 1)):=by
  unfold Qc2 at h ⊢
  by_cases h1:24 < Qac l ∨ 24 < Qac (l.drop (Qac l + 1))
  ·rw [if_pos h1] at h
   cases h
  ·rw [if_neg h1] at h ⊢
   by_cases h2:Qaq ((l.drop (Qac l + 1)).take (Qac (l.drop (Qac l + 1)))) = true
   ·rw [if_pos h2] at h
    cases h
   ·rw [if_neg h2]
    split <;> rfl
 rw [hn]
 unfold Qdb at hd
 simp only [Bool.and_eq_true,decide_eq_true_eq,beq_iff_eq,Bool.not_eq_true'] at hd
 obtain ⟨⟨⟨⟨hu,hr⟩,hlen⟩,h46⟩,hl⟩:=hd
 generalize hW:Qac l = W at *
 have hm:0 < Qac (l.drop (W + 1)):=by
  refine wordLen_head ?_
  have:at' (l.drop (W + 1)) 0 = at' l (W + 1):=by
   unfold at'
   rw [List.getD_eq_getElem?_getD,List.getD_eq_getElem?_getD,List.getElem?_drop,Nat.add_zero]
  rw [this]
  exact hl
 have hM:=wordLen_len (l.drop (W + 1))
 rw [List.length_drop] at hM
 generalize hMM:Qac (l.drop (W + 1)) = M at *
 have hw:Qac (l.take (W + 1 + M)) = W:=by
  rw [← hW]
  exact Qg2 _ _ _ (by show Qac l ≤ _;omega)
 have hdr:(l.take (W + 1 + M)).drop (W + 1) = (l.drop (W + 1)).take M:=by rw [List.drop_take,show W + 1 + M - (W + 1) = M from by omega]
 have hw2:Qac ((l.drop (W + 1)).take M) = M:=by
  rw [← hMM]
  exact Qg2 _ _ _ (xA _)
 refine ⟨?_,hw,?_⟩
 ·unfold Qdb
  rw [hw,Qg3 _ _ _ (by omega),Qg3 _ _ _ (by omega),Qg3 _ _ _ (by omega),List.take_take,Nat.min_eq_left (by omega),List.length_take,hu,hr,h46,hl,decide_eq_true (by omega)]
  rfl
 ·unfold Qc2
  rw [hdr,hw2,hMM,List.take_take,Nat.min_self,Qg3 _ _ _ (by omega)]
theorem num_take {l:List UInt8} (hw:0 < Qdk l) (h:(numT l).e = 0):0 < (numT l).n ∧ numT (l.take (numT l).n) = numT l:=by
 have hn:(numT l).n = Qdk l:=by
  unfold numT at h ⊢
  by_cases h1:1 < Qdk l ∧ at' l 0 = 48
  ·rw [if_pos h1] at h
   cases h
  ·rw [if_neg h1] at h ⊢
   by_cases h2:15 < Qdk l
   ·rw [if_pos h2] at h
    cases h
   ·rw [if_neg h2]
 rw [hn]
 have hwl:Qdk (l.take (Qdk l)) = Qdk l:=Qg2 _ _ _ (xA _)
 refine ⟨hw,?_⟩
 unfold numT
 rw [hwl,Qg3 l _ 0 hw]
theorem sign_take {l:List UInt8} (h:(Qd3 l).e = 0):0 < (Qd3 l).n ∧ Qd3 (l.take (Qd3 l).n) = Qd3 l:=by
 have hz:Qbn l ≠ 0:=by
  intro hz
  unfold Qd3 at h
  rw [if_pos hz] at h
  cases h
 have hn:(Qd3 l).n = Qbn l:=by unfold Qd3;rw [if_neg hz]
 rw [hn]
 refine ⟨by omega,?_⟩
 have hs:Qbn (l.take (Qbn l)) = Qbn l:=by
  have h0:at' (l.take (Qbn l)) 0 = at' l 0:=Qg3 _ _ _ (by omega)
  unfold Qbn at h0 hz ⊢
  by_cases h1:at' l 0 = 61
  ·simp only [h1,if_true] at h0 hz ⊢
   by_cases h2:at' l 1 = 61
   ·simp only [h2,if_true] at h0 ⊢
    rw [h0,Qg3 l 2 1 (by omega),h2]
    rfl
   ·simp only [h2,if_false] at h0 ⊢
    rw [h0,at_take_out l 1 1 (by omega)]
    rfl
  ·simp only [h1,if_false] at h0 hz ⊢
   by_cases h2:Qes (at' l 0) = true
   ·simp only [h2,if_true] at h0 ⊢
    rw [h0]
    simp [h1,h2]
   ·simp [h2] at hz
 unfold Qd3
 rw [hs]
theorem tok_take {l:List UInt8} (h:(Qbe l).e = 0):Qbe (l.take (Qbe l).n) = Qbe l:=by
 have hpos:=(tok_len h).1
 have h0:at' (l.take (Qbe l).n) 0 = at' l 0:=Qg3 _ _ _ hpos
 have key:∀ m,at' (l.take m) 0 = at' l 0 → Qbe (l.take m) = if Qap (at' l 0) = false then ⟨0,0,1⟩ else if Qau (at' l 0) then Qdv (l.take m) else if Qby (at' l 0) then numT (l.take m) else if at' l 0 = 34 then Qcv 1 ((l.take m).drop 1) else Qd3 (l.take m):=by
  intro m hm
  unfold Qbe
  rw [hm]
 rw [key _ h0]
 clear key h0
 unfold Qbe at h hpos ⊢
 by_cases ha:Qap (at' l 0) = false
 ·rw [if_pos ha] at h
  cases h
 ·rw [if_neg ha] at h hpos ⊢
  rw [if_neg ha]
  by_cases hl:Qau (at' l 0) = true
  ·rw [if_pos hl] at h hpos ⊢
   rw [if_pos hl]
   unfold Qdv at h hpos ⊢
   by_cases hd:Qdb l = true
   ·rw [if_pos hd] at h hpos ⊢
    obtain ⟨q1,q2,q3⟩:=qual_take hd h
    rw [if_pos q1,q2,q3]
   ·rw [if_neg hd] at h hpos ⊢
    obtain ⟨q1,q2⟩:=plain_take (by simpa using hd) (wordLen_head hl) h
    rw [if_neg (by simp [q1]),q2]
  ·rw [if_neg hl] at h hpos ⊢
   rw [if_neg hl]
   by_cases hd:Qby (at' l 0) = true
   ·rw [if_pos hd] at h hpos ⊢
    rw [if_pos hd]
    exact (num_take (numLen_head hd) h).2
   ·rw [if_neg hd] at h hpos ⊢
    rw [if_neg hd]
    by_cases h34:at' l 0 = 34
    ·rw [if_pos h34] at h hpos ⊢
     rw [if_pos h34,List.drop_take]
     exact quotT_take _ _ h
    ·rw [if_neg h34] at h hpos ⊢
     rw [if_neg h34]
     exact (sign_take h).2
theorem tok_kind {l:List UInt8} (h:(Qbe l).e = 0):(Qbe l).kind ≠ 0:=by
 unfold Qbe at h ⊢
 by_cases ha:Qap (at' l 0) = false
 ·rw [if_pos ha] at h
  cases h
 ·rw [if_neg ha] at h ⊢
  by_cases hl:Qau (at' l 0) = true
  ·rw [if_pos hl] at h ⊢
   unfold Qdv at h ⊢
   by_cases hd:Qdb l = true
   ·rw [if_pos hd] at h ⊢
    unfold Qc2 at h ⊢
    split at h
    ·cases h
    ·rename_i h1
     rw [if_neg h1]
     split at h
     ·cases h
     ·rename_i h2
      rw [if_neg h2]
      split <;> simp
   ·rw [if_neg hd] at h ⊢
    unfold Qdy at h ⊢
    split at h
    ·cases h
    ·rename_i h1
     rw [if_neg h1]
     split
     ·simp
     ·split <;> simp
  ·rw [if_neg hl] at h ⊢
   by_cases hd:Qby (at' l 0) = true
   ·rw [if_pos hd] at h ⊢
    unfold numT at h ⊢
    split at h
    ·cases h
    ·rename_i h1
     rw [if_neg h1]
     split at h
     ·cases h
     ·rename_i h2
      rw [if_neg h2]
      exact (by decide:(5:Nat) ≠ 0)
   ·rw [if_neg hd] at h ⊢
    by_cases h34:at' l 0 = 34
    ·rw [if_pos h34] at h ⊢
     rw [quotT_kind _ _ h]
     exact (by decide:(6:Nat) ≠ 0)
    ·rw [if_neg h34] at h ⊢
     unfold Qd3 at h ⊢
     split at h
     ·cases h
     ·rename_i h1
      rw [if_neg h1]
      exact (by decide:(8:Nat) ≠ 0)
theorem at_drop' (s:ByteArray) (a k:Nat):at' (suf s a) k = at' (suf s 0) (a + k):=by
 unfold at' suf
 rw [List.getD_eq_getElem?_getD,List.getD_eq_getElem?_getD,List.getElem?_drop,List.getElem?_drop,Nat.zero_add]
theorem skipL_open (l:List UInt8):∀ o,(Qcb o l).2 = true → (Qcb o l).1 < l.length → Qap (at' l (Qcb o l).1) = false:=by
 induction l with
 | nil=>intro o _ h;exact absurd h (by simp)
 | cons c r ih =>
  intro o h1 h2
  unfold Qcb at h1 h2 ⊢
  by_cases ha:Qap c.toNat = true
  ·simp only [ha,if_true] at h1 h2 ⊢
   cases o
   ·simp only [Bool.false_eq_true,if_false] at h1 h2 ⊢
    by_cases hc:c.toNat = 35
    ·simp only [hc,if_true,xD] at h1 h2 ⊢
     exact ih true h1 (by omega)
    ·by_cases hw:Qd0 c.toNat = true
     ·simp only [hc,hw,if_true,if_false,xD] at h1 h2 ⊢
      exact ih false h1 (by omega)
     ·simp only [hc,hw,if_false] at h1
      simp at h1
   ·simp only [if_true,xD] at h1 h2 ⊢
    exact ih _ h1 (by omega)
  ·have hf:Qap c.toNat = false:=by simpa using ha
   simp only [hf,Bool.false_eq_true,if_false]
   exact hf
theorem open_bad {s:ByteArray} {k:Nat} (ho:Qct s k = true) (hl:Qal s k < s.size):Qbe (suf s (Qal s k)) = ⟨0,0,1⟩:=by
 have h:=skipL_open (suf s k) false ho (by rw [Qbs];unfold Qal at hl;omega)
 unfold Qbe
 rw [if_pos]
 rw [at_drop'] at h ⊢
 exact h
def Qa3 (l:List UInt8):Nat:=if l = [] then 0 else if (Qbe l).e ≠ 0 ∨ (Qbe l).n ≠ l.length then 0 else (Qbe l).kind
def bl (s:ByteArray):List UInt8:=suf s 0
theorem Qf1 (s:ByteArray):(bl s).length = s.size:=by unfold bl;rw [Qbs];omega
theorem bl_inj {a b:ByteArray} (h:bl a = bl b):a = b:=by
 unfold bl suf at h
 rw [List.drop_zero,List.drop_zero] at h
 cases a;cases b
 congr 1
 exact Array.toList_inj.1 h
theorem Qgq (a b:ByteArray):bl (a ++ b) = bl a ++ bl b:=by
 unfold bl suf
 rw [List.drop_zero,List.drop_zero,List.drop_zero,ByteArray.data_append,Array.toList_append]
def joinL (ts:List Tok) (tail:List UInt8):List UInt8:=(ts.flatMap fun t=>bl t.lead ++ bl t.text) ++ tail
theorem joinL_snoc (ts:List Tok) (t:Tok):joinL (ts ++ [t]) [] = joinL ts [] ++ (bl t.lead ++ bl t.text):=by
 unfold joinL
 rw [List.flatMap_append]
 simp
def GoodTok (t:Tok):Prop:=(Qa3 (bl t.text):Int) = t.kind ∧ t.kind ≠ 0 ∧ Qfs t.lead false = true
theorem class_own {l:List UInt8} {n:Nat} (h:(Qbe l).e = 0) (hn:(Qbe l).n = n):Qa3 (l.take n) = (Qbe l).kind:=by
 subst hn
 have h1:=tok_len h
 have h2:=tok_take h
 unfold Qa3
 rw [if_neg,h2,if_neg]
 ·rw [List.length_take]
  omega
 ·intro e
  have:=congrArg List.length e
  rw [List.length_take,xG] at this
  omega
theorem skipL_take (l:List UInt8):∀ o,Qcb o (l.take (Qcb o l).1) = Qcb o l:=by
 induction l with
 | nil=>intro o;simp [Qcb]
 | cons c r ih =>
  intro o
  by_cases ha:Qap c.toNat = true
  ·cases o
   ·by_cases hc:c.toNat = 35
    ·have e:Qcb false (c :: r) = ((Qcb true r).1 + 1,(Qcb true r).2):=by
      rw [Qcb,if_pos ha,if_neg (by decide),if_pos hc]
     rw [e,List.take_succ_cons,Qcb,if_pos ha,if_neg (by decide),if_pos hc,ih]
    ·by_cases hw:Qd0 c.toNat = true
     ·have e:Qcb false (c :: r) = ((Qcb false r).1 + 1,(Qcb false r).2):=by
       rw [Qcb,if_pos ha,if_neg (by decide),if_neg hc,if_pos hw]
      rw [e,List.take_succ_cons,Qcb,if_pos ha,if_neg (by decide),if_neg hc,if_pos hw,ih]
     ·have e:Qcb false (c :: r) = (0,false):=by
       rw [Qcb,if_pos ha,if_neg (by decide),if_neg hc,if_neg hw]
      rw [e]
      rfl
   ·have e:Qcb true (c :: r) = ((Qcb (c.toNat != 10) r).1 + 1,(Qcb (c.toNat != 10) r).2):=by
     rw [Qcb,if_pos ha,if_pos rfl]
    rw [e,List.take_succ_cons,Qcb,if_pos ha,if_pos rfl,ih]
  ·have e:Qcb o (c :: r) = (0,o):=by rw [Qcb,if_neg ha]
   rw [e]
   rfl
theorem cut_skip (s:ByteArray) (k:Nat) (hk:k ≤ s.size):Qal (s.extract k (Qal s k)) 0 = (s.extract k (Qal s k)).size ∧ Qct (s.extract k (Qal s k)) 0 = Qct s k:=by
 have h1:=Qf0 s k hk
 have h2:=Qgp s k
 have hn:Qal s k - k = (Qcb false (suf s k)).1:=by unfold Qal;omega
 have hs:suf (s.extract k (Qal s k)) 0 = (suf s k).take (Qcb false (suf s k)).1:=by rw [Qd1,hn]
 constructor
 ·rw [ByteArray.size_extract,Nat.min_eq_left h1,hn]
  rw [show ∀ x,Qal x 0 = 0 + (Qcb false (suf x 0)).1 from fun _=>rfl,hs,skipL_take,Nat.zero_add]
 ·rw [show ∀ x,Qct x 0 = (Qcb false (suf x 0)).2 from fun _=>rfl,hs,skipL_take]
  rfl
theorem good_tok {s:ByteArray} {k:Nat} (hk:k ≤ s.size) (hs:Qal s k ≠ s.size) (he:(Qbe (suf s (Qal s k))).e = 0) :
  GoodTok ⟨(Qbe (suf s (Qal s k))).kind,s.extract k (Qal s k),s.extract (Qal s k) (Qal s k + (Qbe (suf s (Qal s k))).n)⟩:=by
 have h1:=Qf0 s k hk
 have ho:Qct s k = false:=by
  cases h:Qct s k
  ·rfl
  ·rw [open_bad h (by omega)] at he
   cases he
 refine ⟨?_,?_,?_⟩
 ·show ((Qa3 (suf (s.extract _ _) 0):Nat):Int) = _
  rw [Qd1,class_own he (by omega)]
 ·have:=tok_kind he
  show ((Qbe (suf s (Qal s k))).kind:Int) ≠ 0
  omega
 ·show Qfs (s.extract k (Qal s k)) false = true
  obtain ⟨c1,c2⟩:=cut_skip s k hk
  unfold Qfs
  rw [c1,c2,ho]
  simp
theorem good_tail {s:ByteArray} {k:Nat} (hk:k ≤ s.size) (hs:Qal s k = s.size):Qfs (s.extract k s.size) true = true:=by
 obtain ⟨c1,_⟩:=cut_skip s k hk
 rw [hs] at c1
 unfold Qfs
 rw [c1]
 simp
def GoodRes (s:ByteArray) (r:Res):Prop :=
 (r.e = 0 → (∀ t ∈ r.toks,GoodTok t) ∧ joinL r.toks (bl r.tail) = bl s ∧ Qfs r.tail true = true) ∧ (r.e ≠ 0 → r.toks = [] ∧ r.tail = ByteArray.empty)
theorem take_extract (s:ByteArray) (a b:Nat) (hab:a ≤ b):(bl s).take a ++ bl (s.extract a b) = (bl s).take b:=by
 unfold bl
 rw [Qd1]
 have:suf s a = (suf s 0).drop a:=by rw [Qex,Nat.zero_add]
 rw [this,← List.drop_take]
 conv=>rhs;rw [← List.take_append_drop a ((suf s 0).take b)]
 rw [List.take_take,Nat.min_eq_left hab]
theorem scanF_good (s:ByteArray):∀ f k acc,k ≤ s.size → s.size < f + k → (∀ t ∈ acc,GoodTok t) → joinL acc [] = (bl s).take k → GoodRes s (scanF s f k acc):=by
 intro f
 induction f with
 | zero=>intro k acc hk hf _ _;omega
 | succ f ih =>
  intro k acc hk hf hacc hj
  have h2:=Qgp s k
  have h3:=Qf0 s k hk
  unfold scanF
  by_cases hs:Qal s k = s.size
  ·rw [if_pos hs]
   refine ⟨fun _=>⟨hacc,?_,good_tail hk hs⟩,fun h=>absurd rfl h⟩
   have:joinL acc (bl (s.extract k s.size)) = joinL acc [] ++ bl (s.extract k s.size):=by unfold joinL;simp
   rw [this,hj,take_extract s k s.size hk,List.take_of_length_le (by rw [Qf1];omega)]
  ·rw [if_neg hs]
   by_cases he:(Qbe (suf s (Qal s k))).e = 0
   ·rw [if_pos he]
    have h1:=tok_len he
    rw [Qbs] at h1
    refine ih _ _ (by omega) (by omega) ?_ ?_
    ·intro t ht
     rcases List.mem_append.1 ht with h | h
     ·exact hacc t h
     ·rw [List.mem_singleton.1 h]
      exact good_tok hk hs he
    ·rw [joinL_snoc,hj,← List.append_assoc,take_extract s k _ h2,take_extract s _ _ (by omega)]
   ·rw [if_neg he]
    exact ⟨fun h=>absurd h he,fun _=>⟨rfl,rfl⟩⟩
theorem scanR_good (s:ByteArray):GoodRes s (Qbf s):=by
 unfold Qbf
 split
 ·exact ⟨(fun h=>by cases h),fun _=>⟨rfl,rfl⟩⟩
 ·exact scanF_good s _ _ _ (Nat.zero_le _) (by omega) (by simp) (by simp [joinL])
end Go.Proofs.YtjidpkcjpgdafaaGreat
