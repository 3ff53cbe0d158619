/- Part 1 -/
import Derived.Below
import Derived.Laws.Rows
import Derived.Laws.World
import Derived.Laws.AppendOwn
import Derived.Lib.Hide
import Derived.Lib.Builder
import Derived.Deep.AppendLies
set_option maxRecDepth 100000
set_option maxHeartbeats 4000000
namespace Go.Proofs.YtjidpkcjpgdafaaGreat
theorem hQ {p : Prop} (h : p) : Go.RowKit.Hid p := Lib.hid h
open Go.RowKit
theorem xA (n : Nat) : n ≤ n := Nat.le_refl n
theorem xB.{u} {α : Type u} {xs ys : List α} : (xs ++ ys).length = xs.length + ys.length := List.length_append
theorem xC (B : Nat) (w : World) : Below B w w := Below.refl B w
theorem xD.{u} {α : Type u} {a : α} {xs : List α} : (a :: xs).length = xs.length + 1 := List.length_cons
theorem xE {n m k : Nat} : n < m → m ≤ k → n < k := Nat.lt_of_lt_of_le
theorem xF.{u} {α : Type u} {l : List α} {i : Nat} (h : i < l.length) : l[i]? = some l[i] := List.getElem?_eq_getElem h
theorem xG.{u} {α : Type u} : ([] : List α).length = 0 := List.length_nil
theorem xH (w : World) (o : Obj) : (w.alloc o).heap[w.heap.size]? = some o := heap_alloc_new w o
theorem xI (w : World) (o : Obj) : (w.alloc o).heap.size = w.heap.size + 1 := World.size_alloc w o
theorem xJ {w w' : World} {a : Addr} : w'.heap[a.block]? = w.heap[a.block]? → w'.cell? a = w.cell? a := World.cell?_of_block
theorem xK (w : World) (a : Addr) {u : Value} : w.cell? a = some u → a.block < w.heap.size := World.block_lt_of_cell? w a
theorem xL {w : World} {b : Nat} {cs : Array Value} {T : TypeId} (h : w.heap[b]? = some (.cells cs T)) (j : Nat) : w.frozen? ⟨b, j, none⟩ = false := Lib.frozen_of_heap h j
theorem xM {w : World} {B : Nat} {cs : Array Value} {t : TypeId} {fr : Nat × Nat} (h : w.heap[B]? = some (.cells cs t fr)) (j : Nat) (u : Value) (hu : cs.toList[j]? = some u) : w.cell? ((⟨B, 0, none⟩ : Addr).add j) = some u := World.news_of_block h j u hu
theorem xN.{u} {c : Prop} {h : Decidable c} (n : ¬c) {α : Sort u} {t e : α} : (if c then t else e) = e := if_neg n
theorem xO.{u} {c : Prop} {h : Decidable c} (n : c) {α : Sort u} {t e : α} : (if c then t else e) = t := if_pos n
theorem xP.{u} {α : Type u} {i : Nat} {a : α} {l : List α} : l[i]? = some a ↔ ∃ h : i < l.length, l[i] = a := List.getElem?_eq_some_iff
theorem xQ {n m k : Nat} : n ≤ m → m ≤ k → n ≤ k := Nat.le_trans
theorem xR {p : Prop} [Decidable p] : ¬p → decide p = false := decide_eq_false
theorem xS {p : Prop} [Decidable p] : p → decide p = true := decide_eq_true
theorem xT.{u} {α : Type u} (a b c : List α) : a ++ b ++ c = a ++ (b ++ c) := List.append_assoc a b c
theorem xU.{u} {α : Type u} (a : List α) : [] ++ a = a := List.nil_append a
theorem xV.{u} {α : Type u} {a : α} {b c : List α} : a :: b ++ c = a :: (b ++ c) := List.cons_append
theorem xW (n : Nat) : n < n.succ := Nat.lt_succ_self n
theorem xX.{u} {α : Type u} {a b : List α} {i : Nat} (h : a.length ≤ i) : (a ++ b)[i]? = b[i - a.length]? := List.getElem?_append_right h
theorem xY.{u} {α : Type u} {xs : Array α} {i j : Nat} (h : i ≠ j) {a : α} : (xs.setIfInBounds i a)[j]? = xs[j]? := Array.getElem?_setIfInBounds_ne h
theorem xZ (n : Nat) : 0 ≤ n := Nat.zero_le n
theorem yA.{u} {α : Type u} {l : List α} {i : Nat} {a : α} (h : l[i]? = some a) : a ∈ l := List.mem_of_getElem? h
theorem yB.{u} {α : Type u} {a b : List α} {i : Nat} (h : i < a.length) : (a ++ b)[i]? = a[i]? := List.getElem?_append_left h
def Qea (c:Int):Bool:=c==9 || c==10 || c==13 || c==32
def Qbc (c:Int):Bool:=decide (65≤c) && decide (c≤90)
def Qgc (c:Int):Bool:=decide (97≤c) && decide (c≤122)
def Qai (c:Int):Bool:=Qbc c || Qgc c
def Qbd (c:Int):Bool:=decide (48≤c) && decide (c≤57)
def Qgf (c:Int):Bool:=Qai c || Qbd c || c==95
def Qet (c:Int):Bool:=decide (32≤c) && decide (c≤126)
def Qal (c:Int):Bool:=Qea c || (decide (32<c) && decide (c≤126))
theorem Qgg (c:Int):Qal c=(Qea c || Qet c):=by
 unfold Qal Qea Qet
 rw [Bool.eq_iff_iff]
 simp
 omega
def suf (s:ByteArray) (k:Nat):List UInt8:=s.data.toList.drop k
theorem Qds (s:ByteArray) (k:Nat) (h:k<s.size):suf s k=s[k] :: suf s (k+1):=by
 unfold suf
 rw [List.drop_eq_getElem_cons (by simpa using h)]
 rfl
theorem Qjz (s:ByteArray) (k:Nat) (h:s.size≤k):suf s k = []:=by
 unfold suf
 exact List.drop_eq_nil_of_le (by simpa using h)
theorem Qbm (s:ByteArray) (k:Nat):(suf s k).length=s.size-k:=by
 unfold suf
 simp
def Qb0:Bool→List UInt8→Nat × Bool
 | o,[]=>(0,o)
 | o,c :: r =>
  if Qal c.toNat then
   if o then ((Qb0 (c.toNat != 10) r).1+1,(Qb0 (c.toNat != 10) r).2)
   else if c.toNat=35 then ((Qb0 true r).1+1,(Qb0 true r).2)
   else if Qea c.toNat then ((Qb0 false r).1+1,(Qb0 false r).2)
   else (0,false)
  else (0,o)
theorem Qvi (o:Bool) (l:List UInt8):(Qb0 o l).1≤l.length:=by
 induction l generalizing o with
 | nil=>simp [Qb0]
 | cons c r ih =>
  have h1:=ih (c.toNat != 10)
  have h2:=ih true
  have h3:=ih false
  unfold Qb0
  simp only [xD]
  split
  ·split
   ·simp only [];omega
   ·split
    ·simp only [];omega
    ·split
     ·simp only [];omega
     ·simp
  ·simp
def Qak (s:ByteArray) (i:Nat):Nat:=i+(Qb0 false (suf s i)).1
def Qdt (s:ByteArray) (i:Nat):Bool:=(Qb0 false (suf s i)).2
theorem Qhn (s:ByteArray) (i:Nat):i≤Qak s i:=by unfold Qak;omega
theorem Qgh (s:ByteArray) (i:Nat) (h:i≤s.size):Qak s i≤s.size:=by
 have:=Qvi false (suf s i)
 rw [Qbm] at this
 unfold Qak
 omega
def SkipAt (s:ByteArray) (i k:Nat) (o:Bool):Prop:=i≤k∧k≤s.size∧Qak s i=k+(Qb0 o (suf s k)).1∧Qdt s i=(Qb0 o (suf s k)).2
theorem SkipAt.start (s:ByteArray) (i:Nat) (h:i≤s.size):SkipAt s i i false:=⟨xA _,h,rfl,rfl⟩
section
variable {s:ByteArray} {i k:Nat} {o:Bool}
theorem SkipAt.done (h:SkipAt s i k o) (hk:¬ k<s.size):Qak s i=k∧Qdt s i=o:=by
 obtain ⟨_,_,h1,h2⟩:=h
 rw [Qjz s k (by omega)] at h1 h2
 exact ⟨h1,h2⟩
theorem SkipAt.bad (h:SkipAt s i k o) (hk:k<s.size) (ha:Qal s[k].toNat=false):Qak s i=k∧Qdt s i=o:=by
 obtain ⟨_,_,h1,h2⟩:=h
 rw [Qds s k hk] at h1 h2
 simp [Qb0,ha] at h1 h2
 exact ⟨h1,h2⟩
theorem SkipAt.other (h:SkipAt s i k false) (hk:k<s.size) (ha:Qea s[k].toNat=false) (hc:s[k].toNat≠35):Qak s i=k∧Qdt s i=false:=by
 obtain ⟨_,_,h1,h2⟩:=h
 rw [Qds s k hk] at h1 h2
 simp [Qb0,ha,hc] at h1 h2
 exact ⟨h1,h2⟩
theorem SkipAt.inside (h:SkipAt s i k true) (hk:k<s.size) (ha:Qal s[k].toNat=true):SkipAt s i (k+1) (s[k].toNat != 10):=by
 obtain ⟨h0,_,h1,h2⟩:=h
 rw [Qds s k hk] at h1 h2
 simp only [Qb0,ha,if_true] at h1 h2
 exact ⟨by omega,by omega,by omega,h2⟩
theorem SkipAt.opens (h:SkipAt s i k false) (hk:k<s.size) (hc:s[k].toNat=35):SkipAt s i (k+1) true:=by
 obtain ⟨h0,_,h1,h2⟩:=h
 have ha:Qal ((35:Nat):Int)=true:=by decide
 rw [Qds s k hk] at h1 h2
 simp only [Qb0,hc,ha,if_true,Bool.false_eq_true,if_false] at h1 h2
 exact ⟨by omega,by omega,by omega,h2⟩
theorem Ql4 {c:Int} (h:Qea c=true):Qal c=true:=by unfold Qal;simp [h]
theorem SkipAt.white (h:SkipAt s i k false) (hk:k<s.size) (ha:Qea s[k].toNat=true):SkipAt s i (k+1) false:=by
 obtain ⟨h0,_,h1,h2⟩:=h
 have hc:s[k].toNat≠35:=by intro e;rw [e] at ha;exact absurd ha (by decide)
 rw [Qds s k hk] at h1 h2
 simp only [Qb0,ha,hc,Ql4 ha,if_true,Bool.false_eq_true,if_false] at h1 h2
 exact ⟨by omega,by omega,by omega,h2⟩
end
def Qij (s:ByteArray) (fin:Bool):Bool:=(Qak s 0==s.size) && (fin || !Qdt s 0)
theorem Qc3 (s:ByteArray) (a b:Nat):suf (s.extract a b) 0=(suf s a).take (b-a):=by
 unfold suf
 rw [List.drop_zero,ByteArray.data_extract,Array.toList_extract,List.extract_eq_take_drop]
theorem Qgw (s:ByteArray) (a:Nat):suf (s.extract a s.size) 0=suf s a:=by
 rw [Qc3,List.take_of_length_le (by rw [Qbm];omega)]
theorem Qd4 (s:ByteArray) (a n:Nat):(suf s a).drop n=suf s (a+n):=by
 unfold suf
 rw [List.drop_drop]
def Qc4 (p:Int→Bool):List UInt8→Nat
 | []=>0
 | c :: r=>if p c.toNat then Qc4 p r+1 else 0
theorem Qj0 (p:Int→Bool) (l:List UInt8):Qc4 p l≤l.length:=by
 induction l with
 | nil=>simp [Qc4]
 | cons c r ih=>unfold Qc4;split <;> simp <;> omega
def RunAt (p:Int→Bool) (s:ByteArray) (i k:Nat):Prop:=i≤k∧k≤s.size∧Qc4 p (suf s i)+i=k+Qc4 p (suf s k)
theorem RunAt.start (p:Int→Bool) (s:ByteArray) (i:Nat) (h:i≤s.size):RunAt p s i i:=⟨xA _,h,by omega⟩
section
variable {p:Int→Bool} {s:ByteArray} {i k:Nat}
theorem RunAt.next (h:RunAt p s i k) (hk:k<s.size) (hp:p s[k].toNat=true):RunAt p s i (k+1):=by
 obtain ⟨h0,_,h1⟩:=h
 rw [Qds s k hk] at h1
 simp only [Qc4,hp,if_true] at h1
 exact ⟨by omega,by omega,by omega⟩
theorem RunAt.stop (h:RunAt p s i k) (hk:k<s.size) (hp:p s[k].toNat=false):Qc4 p (suf s i)+i=k:=by
 obtain ⟨h0,_,h1⟩:=h
 rw [Qds s k hk] at h1
 simp only [Qc4,hp] at h1
 simpa using h1
theorem RunAt.done (h:RunAt p s i k) (hk:¬ k<s.size):Qc4 p (suf s i)+i=k:=by
 obtain ⟨h0,_,h1⟩:=h
 rw [Qjz s k (by omega)] at h1
 simpa [Qc4] using h1
end
def Qac (l:List UInt8):Nat:=Qc4 Qgf l
def Qco (l:List UInt8):Nat:=Qc4 Qbd l
def reservedWords:List (List UInt8):=[[109,111,100,117,108,101],[100,101,102],[116,121,112,101],[108,101,116],[105,110],[105,102],[116,104,101,110],[101,108,115,101],[116,114,117,101],[102,97,108,115,101],[73,110,116],[84,101,120,116],[66,111,111,108]]
def Qah (l:List UInt8):Bool:=reservedWords.contains l
structure Tk where
 kind:Nat
 n:Nat
 e:Nat
def at' (l:List UInt8) (k:Nat):Nat:=(l.getD k 0).toNat
def Qcd (l:List UInt8) (n:Nat):Tk :=
 if 24<n∨24<Qac (l.drop (n+1)) then ⟨0,0,3⟩
 else if Qah ((l.drop (n+1)).take (Qac (l.drop (n+1)))) then ⟨0,0,2⟩
 else if Qbc (at' l (n+1)) then ⟨4,n+1+Qac (l.drop (n+1)),0⟩
 else ⟨3,n+1+Qac (l.drop (n+1)),0⟩
def Qci (l:List UInt8):Bool :=
 Qbc (at' l 0) && !Qah (l.take (Qac l)) && decide (Qac l+1<l.length) && at' l (Qac l)==46 && Qai (at' l (Qac l+1))
def Qc0 (l:List UInt8):Tk :=
 if 24<Qac l then ⟨0,0,3⟩
 else if Qah (l.take (Qac l)) then ⟨7,Qac l,0⟩
 else if Qbc (at' l 0) then ⟨2,Qac l,0⟩
 else ⟨1,Qac l,0⟩
def Qcx (l:List UInt8):Tk:=if Qci l then Qcd l (Qac l) else Qc0 l
def Qhc (l:List UInt8):Tk :=
 if 1<Qco l∧at' l 0=48 then ⟨0,0,2⟩
 else if 15<Qco l then ⟨0,0,3⟩
 else ⟨5,Qco l,0⟩
def Qb5:Nat→List UInt8→Tk
 | _,[]=>⟨0,0,2⟩
 | i,c :: r =>
  if c.toNat=34 then ⟨6,i+1,0⟩
  else if c.toNat=92∨c.toNat=9∨c.toNat=10∨c.toNat=13 then ⟨0,0,2⟩
  else if Qal c.toNat then Qb5 (i+1) r
  else ⟨0,i,1⟩
def Qdv (c:Int):Bool:=c==40 || c==41 || c==91 || c==93 || c==58 || c==44 || c==43 || c==45 || c==42 || c==60 || c==63
def Qa2 (l:List UInt8):Nat :=
 if at' l 0=61 then (if at' l 1=61 then 2 else 1)
 else if Qdv (at' l 0) then 1 else 0
def Qc5 (l:List UInt8):Tk:=if Qa2 l=0 then ⟨0,0,2⟩ else ⟨8,Qa2 l,0⟩
def Qbu (l:List UInt8):Tk :=
 if Qal (at' l 0)=false then ⟨0,0,1⟩
 else if Qai (at' l 0) then Qcx l
 else if Qbd (at' l 0) then Qhc l
 else if at' l 0=34 then Qb5 1 (l.drop 1)
 else Qc5 l
theorem Qg8 (s:ByteArray) (a k:Nat) (h:a+k<s.size):at' (suf s a) k=s[a+k].toNat:=by
 unfold at' suf
 rw [List.getD_eq_getElem?_getD,List.getElem?_drop,xF (by simpa using h)]
 rfl
theorem Qhd (l:List UInt8):Qac l≤l.length:=Qj0 Qgf l
theorem Qq1 (l:List UInt8):Qco l≤l.length:=Qj0 Qbd l
theorem Qsl (c:UInt8) (r:List UInt8):at' (c :: r) 0=c.toNat:=rfl
theorem Qgi {l:List UInt8} (h:Qai (at' l 0)=true):0<Qac l:=by
 cases l with
 | nil=>exact absurd h (by decide)
 | cons c r =>
  rw [Qsl] at h
  have:Qgf c.toNat=true:=by unfold Qgf;rw [h];rfl
  unfold Qac
  simp [Qc4,this]
theorem Qj1 {l:List UInt8} (h:Qbd (at' l 0)=true):0<Qco l:=by
 cases l with
 | nil=>exact absurd h (by decide)
 | cons c r =>
  rw [Qsl] at h
  unfold Qco
  simp [Qc4,h]
theorem Qj2 (l:List UInt8):∀ i,(Qb5 i l).e=0→i<(Qb5 i l).n∧(Qb5 i l).n≤i+l.length:=by
 induction l with
 | nil=>intro i h;simp [Qb5] at h
 | cons c r ih =>
  intro i h
  unfold Qb5 at h ⊢
  by_cases h1:c.toNat=34
  ·simp only [h1,if_true,xD]
   omega
  ·simp only [h1,if_false] at h ⊢
   by_cases h2:c.toNat=92∨c.toNat=9∨c.toNat=10∨c.toNat=13
   ·simp [h2] at h
   ·simp only [h2,if_false] at h ⊢
    by_cases h3:Qal c.toNat=true
    ·simp only [h3,if_true,xD] at h ⊢
     have:=ih (i+1) h
     omega
    ·simp [h3] at h
theorem Qvj {l:List UInt8} {n:Nat} (hn:n+1<l.length) (h:(Qcd l n).e=0):0<(Qcd l n).n∧(Qcd l n).n≤l.length:=by
 have hm:=Qhd (l.drop (n+1))
 rw [List.length_drop] at hm
 unfold Qcd at h ⊢
 by_cases h1:24<n∨24<Qac (l.drop (n+1))
 ·rw [xO h1] at h
  cases h
 ·rw [xN h1] at h ⊢
  by_cases h2:Qah ((l.drop (n+1)).take (Qac (l.drop (n+1))))=true
  ·rw [xO h2] at h
   cases h
  ·rw [xN h2]
   by_cases h3:Qbc (at' l (n+1))=true
   ·rw [xO h3]
    exact ⟨by show 0<n+1+_;omega,by show n+1+_≤_;omega⟩
   ·rw [xN h3]
    exact ⟨by show 0<n+1+_;omega,by show n+1+_≤_;omega⟩
theorem Qsm {l:List UInt8} (hw:0<Qac l) (h:(Qc0 l).e=0):0<(Qc0 l).n∧(Qc0 l).n≤l.length:=by
 have hm:=Qhd l
 unfold Qc0 at h ⊢
 by_cases h1:24<Qac l
 ·rw [xO h1] at h
  cases h
 ·rw [xN h1]
  by_cases h2:Qah (l.take (Qac l))=true
  ·rw [xO h2]
   exact ⟨hw,hm⟩
  ·rw [xN h2]
   by_cases h3:Qbc (at' l 0)=true
   ·rw [xO h3]
    exact ⟨hw,hm⟩
   ·rw [xN h3]
    exact ⟨hw,hm⟩
theorem Qxp {l:List UInt8} (hw:0<Qco l) (h:(Qhc l).e=0):0<(Qhc l).n∧(Qhc l).n≤l.length:=by
 have hm:=Qq1 l
 unfold Qhc at h ⊢
 by_cases h1:1<Qco l∧at' l 0=48
 ·rw [xO h1] at h
  cases h
 ·rw [xN h1] at h ⊢
  by_cases h2:15<Qco l
  ·rw [xO h2] at h
   cases h
  ·rw [xN h2]
   exact ⟨hw,hm⟩
theorem Qof (l:List UInt8):Qa2 l≤l.length:=by
 unfold Qa2
 match l with
 | []=>decide
 | [c] =>
  have h1:at' [c] 1=0:=rfl
  rw [h1,show [c].length=1 from rfl]
  by_cases h:at' [c] 0=61
  ·rw [xO h]
   decide
  ·rw [xN h]
   by_cases h2:Qdv (at' [c] 0)=true
   ·rw [xO h2]
    decide
   ·rw [xN h2]
    decide
 | c :: d :: r =>
  simp only [xD]
  by_cases h:at' (c :: d :: r) 0=61
  ·rw [xO h]
   by_cases h2:at' (c :: d :: r) 1=61
   ·rw [xO h2]
    omega
   ·rw [xN h2]
    omega
  ·rw [xN h]
   by_cases h2:Qdv (at' (c :: d :: r) 0)=true
   ·rw [xO h2]
    omega
   ·rw [xN h2]
    omega
theorem Qvk {l:List UInt8} (h:(Qc5 l).e=0):0<(Qc5 l).n∧(Qc5 l).n≤l.length:=by
 have hm:=Qof l
 unfold Qc5 at h ⊢
 by_cases hz:Qa2 l=0
 ·rw [xO hz] at h
  cases h
 ·rw [xN hz]
  exact ⟨by show 0<Qa2 l;omega,hm⟩
theorem Qj3 {l:List UInt8} (h:(Qbu l).e=0):0<(Qbu l).n∧(Qbu l).n≤l.length:=by
 unfold Qbu at h ⊢
 by_cases ha:Qal (at' l 0)=false
 ·rw [xO ha] at h
  cases h
 ·rw [xN ha] at h ⊢
  by_cases hl:Qai (at' l 0)=true
  ·rw [xO hl] at h ⊢
   unfold Qcx at h ⊢
   by_cases hd:Qci l=true
   ·rw [xO hd] at h ⊢
    have hlen:Qac l+1<l.length:=by
     unfold Qci at hd
     simp only [Bool.and_eq_true,decide_eq_true_eq] at hd
     exact hd.1.1.2
    exact Qvj hlen h
   ·rw [xN hd] at h ⊢
    exact Qsm (Qgi hl) h
  ·rw [xN hl] at h ⊢
   by_cases hd:Qbd (at' l 0)=true
   ·rw [xO hd] at h ⊢
    exact Qxp (Qj1 hd) h
   ·rw [xN hd] at h ⊢
    by_cases h34:at' l 0=34
    ·rw [xO h34] at h ⊢
     have:=Qj2 (l.drop 1) 1 h
     rw [List.length_drop] at this
     cases l with
     | nil=>exact absurd h34 (by decide)
     | cons c r =>
      rw [xD] at this ⊢
      omega
    ·rw [xN h34] at h ⊢
     exact Qvk h
theorem Qsn (l:List UInt8):∀ i,(Qb5 i l).n≤i+l.length:=by
 induction l with
 | nil=>intro i;exact xZ _
 | cons c r ih =>
  intro i
  unfold Qb5
  rw [xD]
  by_cases h1:c.toNat=34
  ·rw [xO h1]
   show i+1≤_
   omega
  ·rw [xN h1]
   by_cases h2:c.toNat=92∨c.toNat=9∨c.toNat=10∨c.toNat=13
   ·rw [xO h2]
    exact xZ _
   ·rw [xN h2]
    by_cases h3:Qal c.toNat=true
    ·rw [xO h3]
     have:=ih (i+1)
     omega
    ·rw [xN h3]
     show i≤_
     omega
theorem Qog {l:List UInt8} (h:(Qbu l).e≠0):(Qbu l).n≤l.length:=by
 unfold Qbu at h ⊢
 by_cases ha:Qal (at' l 0)=false
 ·rw [xO ha]
  exact xZ _
 ·rw [xN ha] at h ⊢
  by_cases hl:Qai (at' l 0)=true
  ·rw [xO hl] at h ⊢
   unfold Qcx at h ⊢
   by_cases hd:Qci l=true
   ·rw [xO hd] at h ⊢
    unfold Qcd at h ⊢
    split
    ·exact xZ _
    ·split
     ·exact xZ _
     ·rename_i h1 h2
      rw [xN h1,xN h2] at h
      split at h <;> exact absurd rfl h
   ·rw [xN hd] at h ⊢
    unfold Qc0 at h ⊢
    split
    ·exact xZ _
    ·rename_i h1
     rw [xN h1] at h
     split at h
     ·exact absurd rfl h
     ·split at h <;> exact absurd rfl h
  ·rw [xN hl] at h ⊢
   by_cases hd:Qbd (at' l 0)=true
   ·rw [xO hd] at h ⊢
    unfold Qhc at h ⊢
    split
    ·exact xZ _
    ·split
     ·exact xZ _
     ·rename_i h1 h2
      rw [xN h1,xN h2] at h
      exact absurd rfl h
   ·rw [xN hd] at h ⊢
    by_cases h34:at' l 0=34
    ·rw [xO h34]
     have:=Qsn (l.drop 1) 1
     rw [List.length_drop] at this
     cases l with
     | nil=>exact absurd h34 (by decide)
     | cons c r =>
      rw [xD] at this ⊢
      omega
    ·rw [xN h34] at h ⊢
     unfold Qc5 at h ⊢
     split
     ·exact xZ _
     ·rename_i h1
      rw [xN h1] at h
      exact absurd rfl h
structure Tok where
 kind:Int
 lead:ByteArray
 text:ByteArray
structure Res where
 toks:List Tok
 tail:ByteArray
 place:Nat
 e:Nat
def Qm1 (s:ByteArray):Nat→Nat→List Tok→Res
 | 0,_,_=>⟨[],ByteArray.empty,0,0⟩
 | f+1,k,acc =>
  if Qak s k=s.size then ⟨acc,s.extract k s.size,0,0⟩
  else if (Qbu (suf s (Qak s k))).e=0 then
   Qm1 s f (Qak s k+(Qbu (suf s (Qak s k))).n) (acc ++ [⟨(Qbu (suf s (Qak s k))).kind,s.extract k (Qak s k),s.extract (Qak s k) (Qak s k+(Qbu (suf s (Qak s k))).n)⟩])
  else ⟨[],ByteArray.empty,Qak s k+(Qbu (suf s (Qak s k))).n,(Qbu (suf s (Qak s k))).e⟩
def Qso (s:ByteArray):Res:=Qm1 s (s.size+1) 0 []
def Qbs (s:ByteArray):Res:=if 4096<s.size then ⟨[],ByteArray.empty,4096,3⟩ else Qso s
def ScanAt (s:ByteArray) (k:Nat) (acc:List Tok):Prop:=k≤s.size∧acc.length≤k∧∃ f,s.size<f+k∧Qso s=Qm1 s f k acc
theorem ScanAt.start (s:ByteArray):ScanAt s 0 []:=⟨xZ _,xA _,s.size+1,by omega,rfl⟩
section
variable {s:ByteArray} {k:Nat} {acc:List Tok}
theorem ScanAt.done (h:ScanAt s k acc) (hs:Qak s k=s.size):Qso s=⟨acc,s.extract k s.size,0,0⟩:=by
 obtain ⟨hk,_,f,hf,h⟩:=h
 obtain ⟨f,rfl⟩:∃ g,f=g+1:=⟨f-1,by omega⟩
 rw [h,Qm1,xO hs]
theorem ScanAt.stop (h:ScanAt s k acc) (hs:Qak s k≠s.size) (he:(Qbu (suf s (Qak s k))).e≠0):Qso s=⟨[],ByteArray.empty,Qak s k+(Qbu (suf s (Qak s k))).n,(Qbu (suf s (Qak s k))).e⟩:=by
 obtain ⟨hk,_,f,hf,h⟩:=h
 obtain ⟨f,rfl⟩:∃ g,f=g+1:=⟨f-1,by omega⟩
 rw [h,Qm1,xN hs,xN he]
theorem ScanAt.next (h:ScanAt s k acc) (hs:Qak s k≠s.size) (he:(Qbu (suf s (Qak s k))).e=0) :
  ScanAt s (Qak s k+(Qbu (suf s (Qak s k))).n) (acc ++ [⟨(Qbu (suf s (Qak s k))).kind,s.extract k (Qak s k),s.extract (Qak s k) (Qak s k+(Qbu (suf s (Qak s k))).n)⟩]):=by
 obtain ⟨hk,ha,f,hf,h⟩:=h
 have h1:=Qj3 he
 have h2:=Qhn s k
 have h3:=Qgh s k hk
 rw [Qbm] at h1
 obtain ⟨f,rfl⟩:∃ g,f=g+1:=⟨f-1,by omega⟩
 refine ⟨by omega,by simp;omega,f,by omega,?_⟩
 rw [h,Qm1,xN hs,xO he]
end
theorem Qfv (p:Int→Bool) (l:List UInt8):∀ m,Qc4 p l≤m→Qc4 p (l.take m)=Qc4 p l:=by
 induction l with
 | nil=>intro m _;simp [Qc4]
 | cons c r ih =>
  intro m h
  cases m with
  | zero =>
   unfold Qc4 at h
   split at h
   ·omega
   ·rename_i hp
    simp [Qc4,hp]
  | succ m =>
   rw [List.take_succ_cons]
   unfold Qc4 at h ⊢
   split
   ·rename_i hp
    rw [xO hp] at h
    rw [ih m (by omega)]
   ·rfl
theorem Qfw (l:List UInt8) (m k:Nat) (h:k<m):at' (l.take m) k=at' l k:=by
 unfold at'
 rw [List.getD_eq_getElem?_getD,List.getD_eq_getElem?_getD,List.getElem?_take,xO h]
theorem Qoh (l:List UInt8) (m k:Nat) (h:m≤k):at' (l.take m) k=0:=by
 unfold at'
 rw [List.getD_eq_getElem?_getD,List.getElem?_take,xN (by omega)]
 rfl
theorem Qq2 (l:List UInt8):∀ i,(Qb5 i l).e=0→Qb5 i l=⟨6,(Qb5 i l).n,0⟩:=by
 induction l with
 | nil=>intro i h;simp [Qb5] at h
 | cons c r ih =>
  intro i h
  unfold Qb5 at h ⊢
  by_cases h1:c.toNat=34
  ·rw [xO h1]
  ·rw [xN h1] at h ⊢
   by_cases h2:c.toNat=92∨c.toNat=9∨c.toNat=10∨c.toNat=13
   ·rw [xO h2] at h
    cases h
   ·rw [xN h2] at h ⊢
    by_cases h3:Qal c.toNat=true
    ·rw [xO h3] at h ⊢
     exact ih _ h
    ·rw [xN h3] at h
     cases h
theorem Qq3 (l:List UInt8):∀ i,(Qb5 i l).e=0→Qb5 i (l.take ((Qb5 i l).n-i))=Qb5 i l:=by
 induction l with
 | nil=>intro i h;simp [Qb5] at h
 | cons c r ih =>
  intro i h
  have hn:=(Qj2 (c :: r) i h).1
  unfold Qb5 at h hn
  by_cases h1:c.toNat=34
  ·have e:Qb5 i (c :: r)=⟨6,i+1,0⟩:=by rw [Qb5,xO h1]
   rw [e,show i+1-i=1 from by omega]
   rw [List.take_succ_cons,Qb5,xO h1]
  ·rw [xN h1] at h hn
   by_cases h2:c.toNat=92∨c.toNat=9∨c.toNat=10∨c.toNat=13
   ·rw [xO h2] at h
    cases h
   ·rw [xN h2] at h hn
    by_cases h3:Qal c.toNat=true
    ·rw [xO h3] at h hn
     have e:Qb5 i (c :: r)=Qb5 (i+1) r:=by rw [Qb5,xN h1,xN h2,xO h3]
     have h4:=(Qj2 r (i+1) h).1
     rw [e,show (Qb5 (i+1) r).n-i=((Qb5 (i+1) r).n-(i+1))+1 from by omega,List.take_succ_cons,Qb5,xN h1,xN h2,xO h3]
     exact ih _ h
    ·rw [xN h3] at h
     cases h
theorem Qq4 {l:List UInt8} (_hd:Qci l=false) (hw:0<Qac l) (h:(Qc0 l).e=0):Qci (l.take (Qc0 l).n)=false∧Qc0 (l.take (Qc0 l).n)=Qc0 l:=by
 have hn:(Qc0 l).n=Qac l:=by
  unfold Qc0 at h ⊢
  by_cases h1:24<Qac l
  ·rw [xO h1] at h
   cases h
  ·rw [xN h1]
   split
   ·rfl
   ·split <;> rfl
 have hwl:Qac (l.take (Qac l))=Qac l:=Qfv _ _ _ (xA _)
 rw [hn]
 constructor
 ·unfold Qci
  rw [hwl,List.length_take]
  rw [show decide (Qac l+1<min (Qac l) l.length)=false from xR (by omega)]
  simp
 ·unfold Qc0
  rw [hwl,List.take_take,Nat.min_self,Qfw l _ 0 hw]
theorem Qsp {l:List UInt8} (hd:Qci l=true) (h:(Qcd l (Qac l)).e=0) :
  Qci (l.take (Qcd l (Qac l)).n)=true∧Qac (l.take (Qcd l (Qac l)).n)=Qac l∧Qcd (l.take (Qcd l (Qac l)).n) (Qac l)=Qcd l (Qac l):=by
 have hn:(Qcd l (Qac l)).n=Qac l+1+Qac (l.drop (Qac l+1)):=by
  unfold Qcd at h ⊢
  by_cases h1:24<Qac l∨24<Qac (l.drop (Qac l+1))
  ·rw [xO h1] at h
   cases h
  ·rw [xN h1] at h ⊢
   by_cases h2:Qah ((l.drop (Qac l+1)).take (Qac (l.drop (Qac l+1))))=true
   ·rw [xO h2] at h
    cases h
   ·rw [xN h2]
    split <;> rfl
 rw [hn]
 unfold Qci at hd
 simp only [Bool.and_eq_true,decide_eq_true_eq,beq_iff_eq,Bool.not_eq_true'] at hd
 obtain ⟨⟨⟨⟨hu,hr⟩,hlen⟩,h46⟩,hl⟩:=hd
 generalize hW:Qac l=W at *
 have hm:0<Qac (l.drop (W+1)):=by
  refine Qgi ?_
  have:at' (l.drop (W+1)) 0=at' l (W+1):=by
   unfold at'
   rw [List.getD_eq_getElem?_getD,List.getD_eq_getElem?_getD,List.getElem?_drop,Nat.add_zero]
  rw [this]
  exact hl
 have hM:=Qhd (l.drop (W+1))
 rw [List.length_drop] at hM
 generalize hMM:Qac (l.drop (W+1))=M at *
 have hw:Qac (l.take (W+1+M))=W:=by
  rw [←hW]
  exact Qfv _ _ _ (by show Qac l≤_;omega)
 have hdr:(l.take (W+1+M)).drop (W+1)=(l.drop (W+1)).take M:=by rw [List.drop_take,show W+1+M-(W+1)=M from by omega]
 have hw2:Qac ((l.drop (W+1)).take M)=M:=by
  rw [←hMM]
  exact Qfv _ _ _ (xA _)
 refine ⟨?_,hw,?_⟩
 ·unfold Qci
  rw [hw,Qfw _ _ _ (by omega),Qfw _ _ _ (by omega),Qfw _ _ _ (by omega),List.take_take,Nat.min_eq_left (by omega),List.length_take,hu,hr,h46,hl,xS (by omega)]
  rfl
 ·unfold Qcd
  rw [hdr,hw2,hMM,List.take_take,Nat.min_self,Qfw _ _ _ (by omega)]
theorem Qvl {l:List UInt8} (hw:0<Qco l) (h:(Qhc l).e=0):0<(Qhc l).n∧Qhc (l.take (Qhc l).n)=Qhc l:=by
 have hn:(Qhc l).n=Qco l:=by
  unfold Qhc at h ⊢
  by_cases h1:1<Qco l∧at' l 0=48
  ·rw [xO h1] at h
   cases h
  ·rw [xN h1] at h ⊢
   by_cases h2:15<Qco l
   ·rw [xO h2] at h
    cases h
   ·rw [xN h2]
 rw [hn]
 have hwl:Qco (l.take (Qco l))=Qco l:=Qfv _ _ _ (xA _)
 refine ⟨hw,?_⟩
 unfold Qhc
 rw [hwl,Qfw l _ 0 hw]
theorem Qsq {l:List UInt8} (h:(Qc5 l).e=0):0<(Qc5 l).n∧Qc5 (l.take (Qc5 l).n)=Qc5 l:=by
 have hz:Qa2 l≠0:=by
  intro hz
  unfold Qc5 at h
  rw [xO hz] at h
  cases h
 have hn:(Qc5 l).n=Qa2 l:=by unfold Qc5;rw [xN hz]
 rw [hn]
 refine ⟨by omega,?_⟩
 have hs:Qa2 (l.take (Qa2 l))=Qa2 l:=by
  have h0:at' (l.take (Qa2 l)) 0=at' l 0:=Qfw _ _ _ (by omega)
  unfold Qa2 at h0 hz ⊢
  by_cases h1:at' l 0=61
  ·simp only [h1,if_true] at h0 hz ⊢
   by_cases h2:at' l 1=61
   ·simp only [h2,if_true] at h0 ⊢
    rw [h0,Qfw l 2 1 (by omega),h2]
    rfl
   ·simp only [h2,if_false] at h0 ⊢
    rw [h0,Qoh l 1 1 (by omega)]
    rfl
  ·simp only [h1,if_false] at h0 hz ⊢
   by_cases h2:Qdv (at' l 0)=true
   ·simp only [h2,if_true] at h0 ⊢
    rw [h0]
    simp [h1,h2]
   ·simp [h2] at hz
 unfold Qc5
 rw [hs]
theorem Qvm {l:List UInt8} (h:(Qbu l).e=0):Qbu (l.take (Qbu l).n)=Qbu l:=by
 have hpos:=(Qj3 h).1
 have h0:at' (l.take (Qbu l).n) 0=at' l 0:=Qfw _ _ _ hpos
 have key:∀ m,at' (l.take m) 0=at' l 0→Qbu (l.take m)=if Qal (at' l 0)=false then ⟨0,0,1⟩ else if Qai (at' l 0) then Qcx (l.take m) else if Qbd (at' l 0) then Qhc (l.take m) else if at' l 0=34 then Qb5 1 ((l.take m).drop 1) else Qc5 (l.take m):=by
  intro m hm
  unfold Qbu
  rw [hm]
 rw [key _ h0]
 clear key h0
 unfold Qbu at h hpos ⊢
 by_cases ha:Qal (at' l 0)=false
 ·rw [xO ha] at h
  cases h
 ·rw [xN ha] at h hpos ⊢
  rw [xN ha]
  by_cases hl:Qai (at' l 0)=true
  ·rw [xO hl] at h hpos ⊢
   rw [xO hl]
   unfold Qcx at h hpos ⊢
   by_cases hd:Qci l=true
   ·rw [xO hd] at h hpos ⊢
    obtain ⟨q1,q2,q3⟩:=Qsp hd h
    rw [xO q1,q2,q3]
   ·rw [xN hd] at h hpos ⊢
    obtain ⟨q1,q2⟩:=Qq4 (by simpa using hd) (Qgi hl) h
    rw [xN (by simp [q1]),q2]
  ·rw [xN hl] at h hpos ⊢
   rw [xN hl]
   by_cases hd:Qbd (at' l 0)=true
   ·rw [xO hd] at h hpos ⊢
    rw [xO hd]
    exact (Qvl (Qj1 hd) h).2
   ·rw [xN hd] at h hpos ⊢
    rw [xN hd]
    by_cases h34:at' l 0=34
    ·rw [xO h34] at h hpos ⊢
     rw [xO h34,List.drop_take]
     exact Qq3 _ _ h
    ·rw [xN h34] at h hpos ⊢
     rw [xN h34]
     exact (Qsq h).2
theorem Qvn {l:List UInt8} (h:(Qbu l).e=0):(Qbu l).kind≠0:=by
 unfold Qbu at h ⊢
 by_cases ha:Qal (at' l 0)=false
 ·rw [xO ha] at h
  cases h
 ·rw [xN ha] at h ⊢
  by_cases hl:Qai (at' l 0)=true
  ·rw [xO hl] at h ⊢
   unfold Qcx at h ⊢
   by_cases hd:Qci l=true
   ·rw [xO hd] at h ⊢
    unfold Qcd at h ⊢
    split at h
    ·cases h
    ·rename_i h1
     rw [xN h1]
     split at h
     ·cases h
     ·rename_i h2
      rw [xN h2]
      split <;> simp
   ·rw [xN hd] at h ⊢
    unfold Qc0 at h ⊢
    split at h
    ·cases h
    ·rename_i h1
     rw [xN h1]
     split
     ·simp
     ·split <;> simp
  ·rw [xN hl] at h ⊢
   by_cases hd:Qbd (at' l 0)=true
   ·rw [xO hd] at h ⊢
    unfold Qhc at h ⊢
    split at h
    ·cases h
    ·rename_i h1
     rw [xN h1]
     split at h
     ·cases h
     ·rename_i h2
      rw [xN h2]
      exact (by decide:(5:Nat)≠0)
   ·rw [xN hd] at h ⊢
    by_cases h34:at' l 0=34
    ·rw [xO h34] at h ⊢
     rw [Qq2 _ _ h]
     exact (by decide:(6:Nat)≠0)
    ·rw [xN h34] at h ⊢
     unfold Qc5 at h ⊢
     split at h
     ·cases h
     ·rename_i h1
      rw [xN h1]
      exact (by decide:(8:Nat)≠0)
theorem Qvo (s:ByteArray) (a k:Nat):at' (suf s a) k=at' (suf s 0) (a+k):=by
 unfold at' suf
 rw [List.getD_eq_getElem?_getD,List.getD_eq_getElem?_getD,List.getElem?_drop,List.getElem?_drop,Nat.zero_add]
theorem Qq5 (l:List UInt8):∀ o,(Qb0 o l).2=true→(Qb0 o l).1<l.length→Qal (at' l (Qb0 o l).1)=false:=by
 induction l with
 | nil=>intro o _ h;exact absurd h (by simp)
 | cons c r ih =>
  intro o h1 h2
  unfold Qb0 at h1 h2 ⊢
  by_cases ha:Qal c.toNat=true
  ·simp only [ha,if_true] at h1 h2 ⊢
   cases o
   ·simp only [Bool.false_eq_true,if_false] at h1 h2 ⊢
    by_cases hc:c.toNat=35
    ·simp only [hc,if_true,xD] at h1 h2 ⊢
     exact ih true h1 (by omega)
    ·by_cases hw:Qea c.toNat=true
     ·simp only [hc,hw,if_true,if_false,xD] at h1 h2 ⊢
      exact ih false h1 (by omega)
     ·simp only [hc,hw,if_false] at h1
      simp at h1
   ·simp only [if_true,xD] at h1 h2 ⊢
    exact ih _ h1 (by omega)
  ·have hf:Qal c.toNat=false:=by simpa using ha
   simp only [hf,Bool.false_eq_true,if_false]
   exact hf
theorem Qvp {s:ByteArray} {k:Nat} (ho:Qdt s k=true) (hl:Qak s k<s.size):Qbu (suf s (Qak s k))=⟨0,0,1⟩:=by
 have h:=Qq5 (suf s k) false ho (by rw [Qbm];unfold Qak at hl;omega)
 unfold Qbu
 rw [xO]
 rw [Qvo] at h ⊢
 exact h
def Qa6 (l:List UInt8):Nat:=if l = [] then 0 else if (Qbu l).e≠0∨(Qbu l).n≠l.length then 0 else (Qbu l).kind
def bl (s:ByteArray):List UInt8:=suf s 0
theorem Qfo (s:ByteArray):(bl s).length=s.size:=by unfold bl;rw [Qbm];omega
def Qjj (ts:List Tok) (tail:List UInt8):List UInt8:=(ts.flatMap fun t=>bl t.lead ++ bl t.text) ++ tail
theorem Qq6 (ts:List Tok) (t:Tok):Qjj (ts ++ [t]) [] = Qjj ts [] ++ (bl t.lead ++ bl t.text):=by
 unfold Qjj
 rw [List.flatMap_append]
 simp
def Ql5 (t:Tok):Prop:=(Qa6 (bl t.text):Int)=t.kind∧t.kind≠0∧Qij t.lead false=true
theorem Qsr {l:List UInt8} {n:Nat} (h:(Qbu l).e=0) (hn:(Qbu l).n=n):Qa6 (l.take n)=(Qbu l).kind:=by
 subst hn
 have h1:=Qj3 h
 have h2:=Qvm h
 unfold Qa6
 rw [xN,h2,xN]
 ·rw [List.length_take]
  omega
 ·intro e
  have:=congrArg List.length e
  rw [List.length_take,xG] at this
  omega
theorem Qk4 (l:List UInt8):∀ o,Qb0 o (l.take (Qb0 o l).1)=Qb0 o l:=by
 induction l with
 | nil=>intro o;simp [Qb0]
 | cons c r ih =>
  intro o
  by_cases ha:Qal c.toNat=true
  ·cases o
   ·by_cases hc:c.toNat=35
    ·have e:Qb0 false (c :: r)=((Qb0 true r).1+1,(Qb0 true r).2):=by
      rw [Qb0,xO ha,xN (by decide),xO hc]
     rw [e,List.take_succ_cons,Qb0,xO ha,xN (by decide),xO hc,ih]
    ·by_cases hw:Qea c.toNat=true
     ·have e:Qb0 false (c :: r)=((Qb0 false r).1+1,(Qb0 false r).2):=by
       rw [Qb0,xO ha,xN (by decide),xN hc,xO hw]
      rw [e,List.take_succ_cons,Qb0,xO ha,xN (by decide),xN hc,xO hw,ih]
     ·have e:Qb0 false (c :: r)=(0,false):=by
       rw [Qb0,xO ha,xN (by decide),xN hc,xN hw]
      rw [e]
      rfl
   ·have e:Qb0 true (c :: r)=((Qb0 (c.toNat != 10) r).1+1,(Qb0 (c.toNat != 10) r).2):=by
     rw [Qb0,xO ha,xO rfl]
    rw [e,List.take_succ_cons,Qb0,xO ha,xO rfl,ih]
  ·have e:Qb0 o (c :: r)=(0,o):=by rw [Qb0,xN ha]
   rw [e]
   rfl
theorem Qpy (s:ByteArray) (k:Nat) (hk:k≤s.size):Qak (s.extract k (Qak s k)) 0=(s.extract k (Qak s k)).size∧Qdt (s.extract k (Qak s k)) 0=Qdt s k:=by
 have h1:=Qgh s k hk
 have h2:=Qhn s k
 have hn:Qak s k-k=(Qb0 false (suf s k)).1:=by unfold Qak;omega
 have hs:suf (s.extract k (Qak s k)) 0=(suf s k).take (Qb0 false (suf s k)).1:=by rw [Qc3,hn]
 constructor
 ·rw [ByteArray.size_extract,Nat.min_eq_left h1,hn]
  rw [show ∀ x,Qak x 0=0+(Qb0 false (suf x 0)).1 from fun _=>rfl,hs,Qk4,Nat.zero_add]
 ·rw [show ∀ x,Qdt x 0=(Qb0 false (suf x 0)).2 from fun _=>rfl,hs,Qk4]
  rfl
theorem Qvq {s:ByteArray} {k:Nat} (hk:k≤s.size) (hs:Qak s k≠s.size) (he:(Qbu (suf s (Qak s k))).e=0) :
  Ql5 ⟨(Qbu (suf s (Qak s k))).kind,s.extract k (Qak s k),s.extract (Qak s k) (Qak s k+(Qbu (suf s (Qak s k))).n)⟩:=by
 have h1:=Qgh s k hk
 have ho:Qdt s k=false:=by
  cases h:Qdt s k
  ·rfl
  ·rw [Qvp h (by omega)] at he
   cases he
 refine ⟨?_,?_,?_⟩
 ·show ((Qa6 (suf (s.extract _ _) 0):Nat):Int)=_
  rw [Qc3,Qsr he (by omega)]
 ·have:=Qvn he
  show ((Qbu (suf s (Qak s k))).kind:Int)≠0
  omega
 ·show Qij (s.extract k (Qak s k)) false=true
  obtain ⟨c1,c2⟩:=Qpy s k hk
  unfold Qij
  rw [c1,c2,ho]
  simp
theorem Qss {s:ByteArray} {k:Nat} (hk:k≤s.size) (hs:Qak s k=s.size):Qij (s.extract k s.size) true=true:=by
 obtain ⟨c1,_⟩:=Qpy s k hk
 rw [hs] at c1
 unfold Qij
 rw [c1]
 simp
def Qst (s:ByteArray) (r:Res):Prop :=
 (r.e=0→(∀ t∈r.toks,Ql5 t)∧Qjj r.toks (bl r.tail)=bl s∧Qij r.tail true=true)∧(r.e≠0→r.toks = []∧r.tail=ByteArray.empty)
theorem Qgj (s:ByteArray) (a b:Nat) (hab:a≤b):(bl s).take a ++ bl (s.extract a b)=(bl s).take b:=by
 unfold bl
 rw [Qc3]
 have:suf s a=(suf s 0).drop a:=by rw [Qd4,Nat.zero_add]
 rw [this,←List.drop_take]
 conv=>rhs;rw [←List.take_append_drop a ((suf s 0).take b)]
 rw [List.take_take,Nat.min_eq_left hab]
theorem Qq7 (s:ByteArray):∀ f k acc,k≤s.size→s.size<f+k→(∀ t∈acc,Ql5 t)→Qjj acc [] = (bl s).take k→Qst s (Qm1 s f k acc):=by
 intro f
 induction f with
 | zero=>intro k acc hk hf _ _;omega
 | succ f ih =>
  intro k acc hk hf hacc hj
  have h2:=Qhn s k
  have h3:=Qgh s k hk
  unfold Qm1
  by_cases hs:Qak s k=s.size
  ·rw [xO hs]
   refine ⟨fun _=>⟨hacc,?_,Qss hk hs⟩,fun h=>absurd rfl h⟩
   have:Qjj acc (bl (s.extract k s.size))=Qjj acc [] ++ bl (s.extract k s.size):=by unfold Qjj;simp
   rw [this,hj,Qgj s k s.size hk,List.take_of_length_le (by rw [Qfo];omega)]
  ·rw [xN hs]
   by_cases he:(Qbu (suf s (Qak s k))).e=0
   ·rw [xO he]
    have h1:=Qj3 he
    rw [Qbm] at h1
    refine ih _ _ (by omega) (by omega) ?_ ?_
    ·intro t ht
     rcases List.mem_append.1 ht with h | h
     ·exact hacc t h
     ·rw [List.mem_singleton.1 h]
      exact Qvq hk hs he
    ·rw [Qq6,hj,←xT,Qgj s k _ h2,Qgj s _ _ (by omega)]
   ·rw [xN he]
    exact ⟨fun h=>absurd h he,fun _=>⟨rfl,rfl⟩⟩
theorem Qq8 (s:ByteArray):Qst s (Qbs s):=by
 unfold Qbs
 split
 ·exact ⟨(fun h=>by cases h),fun _=>⟨rfl,rfl⟩⟩
 ·exact Qq7 s _ _ _ (xZ _) (by omega) (by simp) (by simp [Qjj])
end Go.Proofs.YtjidpkcjpgdafaaGreat
