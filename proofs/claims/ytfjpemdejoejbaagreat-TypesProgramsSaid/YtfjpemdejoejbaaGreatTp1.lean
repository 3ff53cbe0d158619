/- Part 1 -/
import Derived.Below
import Derived.Laws.Rows
import Derived.Laws.World
import Derived.Laws.AppendOwn
import Derived.Lib.Hide
import Derived.Lib.Builder
import Derived.Deep.AppendLies
set_option maxRecDepth 100000
set_option maxHeartbeats 4000000
namespace Go.Proofs.YtfjpemdejoejbaaGreat
theorem hQ {p : Prop} (h : p) : Go.RowKit.Hid p := Lib.hid h
open Go.RowKit
theorem xA (n : Nat) : n ≤ n := Nat.le_refl n
theorem xB.{u} {α : Type u} {xs ys : List α} : (xs ++ ys).length = xs.length + ys.length := List.length_append
theorem xC (B : Nat) (w : World) : Below B w w := Below.refl B w
theorem xD.{u} {α : Type u} {a : α} {xs : List α} : (a :: xs).length = xs.length + 1 := List.length_cons
theorem xE {n m k : Nat} : n < m → m ≤ k → n < k := Nat.lt_of_lt_of_le
theorem xF.{u} {α : Type u} {l : List α} {i : Nat} (h : i < l.length) : l[i]? = some l[i] := List.getElem?_eq_getElem h
theorem xG.{u} {α : Type u} : ([] : List α).length = 0 := List.length_nil
theorem xH (w : World) (o : Obj) : (w.alloc o).heap[w.heap.size]? = some o := heap_alloc_new w o
theorem xI (w : World) (o : Obj) : (w.alloc o).heap.size = w.heap.size + 1 := World.size_alloc w o
theorem xJ {w w' : World} {a : Addr} : w'.heap[a.block]? = w.heap[a.block]? → w'.cell? a = w.cell? a := World.cell?_of_block
theorem xK (w : World) (a : Addr) {u : Value} : w.cell? a = some u → a.block < w.heap.size := World.block_lt_of_cell? w a
theorem xL {w : World} {b : Nat} {cs : Array Value} {T : TypeId} (h : w.heap[b]? = some (.cells cs T)) (j : Nat) : w.frozen? ⟨b, j, none⟩ = false := Lib.frozen_of_heap h j
theorem xM {w : World} {B : Nat} {cs : Array Value} {t : TypeId} {fr : Nat × Nat} (h : w.heap[B]? = some (.cells cs t fr)) (j : Nat) (u : Value) (hu : cs.toList[j]? = some u) : w.cell? ((⟨B, 0, none⟩ : Addr).add j) = some u := World.news_of_block h j u hu
theorem xN.{u} {c : Prop} {h : Decidable c} (n : ¬c) {α : Sort u} {t e : α} : (if c then t else e) = e := if_neg n
theorem xO.{u} {c : Prop} {h : Decidable c} (n : c) {α : Sort u} {t e : α} : (if c then t else e) = t := if_pos n
theorem xP.{u} {α : Type u} {i : Nat} {a : α} {l : List α} : l[i]? = some a ↔ ∃ h : i < l.length, l[i] = a := List.getElem?_eq_some_iff
theorem xQ {n m k : Nat} : n ≤ m → m ≤ k → n ≤ k := Nat.le_trans
theorem xR {p : Prop} [Decidable p] : ¬p → decide p = false := decide_eq_false
theorem xS {p : Prop} [Decidable p] : p → decide p = true := decide_eq_true
theorem xT.{u} {α : Type u} (a b c : List α) : a ++ b ++ c = a ++ (b ++ c) := List.append_assoc a b c
theorem xU.{u} {α : Type u} (a : List α) : [] ++ a = a := List.nil_append a
theorem xV.{u} {α : Type u} {a : α} {b c : List α} : a :: b ++ c = a :: (b ++ c) := List.cons_append
theorem xW (n : Nat) : n < n.succ := Nat.lt_succ_self n
theorem xX.{u} {α : Type u} {a b : List α} {i : Nat} (h : a.length ≤ i) : (a ++ b)[i]? = b[i - a.length]? := List.getElem?_append_right h
theorem xY.{u} {α : Type u} {xs : Array α} {i j : Nat} (h : i ≠ j) {a : α} : (xs.setIfInBounds i a)[j]? = xs[j]? := Array.getElem?_setIfInBounds_ne h
theorem xZ (n : Nat) : 0 ≤ n := Nat.zero_le n
theorem yA.{u} {α : Type u} {l : List α} {i : Nat} {a : α} (h : l[i]? = some a) : a ∈ l := List.mem_of_getElem? h
theorem yB.{u} {α : Type u} {a b : List α} {i : Nat} (h : i < a.length) : (a ++ b)[i]? = a[i]? := List.getElem?_append_left h
theorem yC {a b c : World} (h : Below a.heap.size a b) (k : Below b.heap.size b c) : Below a.heap.size a c := h.trans (k.mono h.size)
abbrev yD := ByteArray
abbrev yE := Option Addr
def Qef(c:Int):Bool:=c==9 || c==10 || c==13 || c==32
def Qbx(c:Int):Bool:=decide (65<=c) && decide (c<=90)
def Qik(c:Int):Bool:=decide (97<=c) && decide (c<=122)
def Qax(c:Int):Bool:=Qbx c || Qik c
def Qb8(c:Int):Bool:=decide (48<=c) && decide (c<=57)
def Qhh(c:Int):Bool:=Qax c || Qb8 c || c==95
def Qgj(c:Int):Bool:=decide (32<=c) && decide (c<=126)
def Qas(c:Int):Bool:=Qef c || (decide (32<c) && decide (c<=126))
theorem Qio(c:Int):Qas c=(Qef c || Qgj c):=by
 unfold Qas Qef Qgj;rw[Bool.eq_iff_iff];simp
 omega
def suf(s:yD)(k:Nat):List UInt8:=s.data.toList.drop k
theorem Qdd(s:yD)(k:Nat)(h:k<s.size):suf s k=s[k] :: suf s (k+1):=by
 unfold suf;rw[List.drop_eq_getElem_cons (by simpa using h)];rfl
theorem Qle(s:yD)(k:Nat)(h:s.size<=k):suf s k = []:=by
 unfold suf;exact List.drop_eq_nil_of_le (by simpa using h)
theorem Qb4(s:yD)(k:Nat):(suf s k).length=s.size-k:=by
 unfold suf;simp
def Qct:Bool->List UInt8->Nat × Bool
 | o,[]=>(0,o)
 | o,c :: r =>
  if Qas c.toNat then
   if o then ((Qct (c.toNat != 10) r).1+1,(Qct (c.toNat != 10) r).2)
   else if c.toNat=35 then ((Qct true r).1+1,(Qct true r).2)
   else if Qef c.toNat then ((Qct false r).1+1,(Qct false r).2)
   else (0,false)
  else (0,o)
theorem Zfe(o:Bool)(l:List UInt8):(Qct o l).1<=l.length:=by
 induction l generalizing o with
 | nil=>simp[Qct]
 | cons c r ih =>
  have h1:=ih (c.toNat != 10);have h2:=ih true;have h3:=ih false;unfold Qct;simp only[xD]
  split
  ·split
   ·simp only[];omega
   ·split
    ·simp only[];omega
    ·split
     ·simp only[];omega
     ·simp
  ·simp
def Qan(s:yD)(i:Nat):Nat:=i+(Qct false (suf s i)).1
def Qc7(s:yD)(i:Nat):Bool:=(Qct false (suf s i)).2
theorem Qhi(s:yD)(i:Nat):i<=Qan s i:=by unfold Qan;omega
theorem Qgp(s:yD)(i:Nat)(h:i<=s.size):Qan s i<=s.size:=by
 have:=Zfe false (suf s i)
 rw[Qb4]at this;unfold Qan;omega
def SkipAt(s:yD)(i k:Nat)(o:Bool):Prop:=i<=k/\k<=s.size/\Qan s i=k+(Qct o (suf s k)).1/\Qc7 s i=(Qct o (suf s k)).2
theorem SkipAt.start(s:yD)(i:Nat)(h:i<=s.size):SkipAt s i i false:=⟨xA _,h,rfl,rfl⟩
section
variable {s:yD} {i k:Nat} {o:Bool}
theorem SkipAt.done(h:SkipAt s i k o)(hk:¬ k<s.size):Qan s i=k/\Qc7 s i=o:=by
 obtain⟨_,_,h1,h2⟩:=h;rw[Qle s k (by omega)]at h1 h2;exact⟨h1,h2⟩
theorem SkipAt.bad(h:SkipAt s i k o)(hk:k<s.size)(ha:Qas s[k].toNat=false):Qan s i=k/\Qc7 s i=o:=by
 obtain⟨_,_,h1,h2⟩:=h;rw[Qdd s k hk]at h1 h2;simp[Qct,ha]at h1 h2
 exact⟨h1,h2⟩
theorem SkipAt.other(h:SkipAt s i k false)(hk:k<s.size)(ha:Qef s[k].toNat=false)(hc:s[k].toNat≠35):Qan s i=k/\Qc7 s i=false:=by
 obtain⟨_,_,h1,h2⟩:=h;rw[Qdd s k hk]at h1 h2;simp[Qct,ha,hc]at h1 h2
 exact⟨h1,h2⟩
theorem SkipAt.inside(h:SkipAt s i k true)(hk:k<s.size)(ha:Qas s[k].toNat=true):SkipAt s i (k+1) (s[k].toNat != 10):=by
 obtain⟨h0,_,h1,h2⟩:=h;rw[Qdd s k hk]at h1 h2;simp only[Qct,ha,if_true]at h1 h2;exact⟨by omega,by omega,by omega,h2⟩
theorem SkipAt.opens(h:SkipAt s i k false)(hk:k<s.size)(hc:s[k].toNat=35):SkipAt s i (k+1) true:=by
 obtain⟨h0,_,h1,h2⟩:=h;have ha:Qas ((35:Nat):Int)=true:=by decide
 rw[Qdd s k hk]at h1 h2;simp only[Qct,hc,ha,if_true,Bool.false_eq_true,if_false]at h1 h2;exact⟨by omega,by omega,by omega,h2⟩
theorem Qp0{c:Int}(h:Qef c=true):Qas c=true:=by unfold Qas;simp[h]
theorem SkipAt.white(h:SkipAt s i k false)(hk:k<s.size)(ha:Qef s[k].toNat=true):SkipAt s i (k+1) false:=by
 obtain⟨h0,_,h1,h2⟩:=h;have hc:s[k].toNat≠35:=by intro e;rw[e]at ha;exact absurd ha (by decide)
 rw[Qdd s k hk]at h1 h2;simp only[Qct,ha,hc,Qp0 ha,if_true,Bool.false_eq_true,if_false]at h1 h2;exact⟨by omega,by omega,by omega,h2⟩
end
def Qge(s:yD)(fin:Bool):Bool:=(Qan s 0==s.size) && (fin || !Qc7 s 0)
def Qju(s:yD)(i:Nat):Int:=if Qc7 s i=true/\Qan s i<s.size then (Qan s i:Int) else -1
theorem Qq8{s:yD}{i k:Nat}(h:Qan s i=k/\Qc7 s i=true)(hk:k<s.size):Qju s i=k:=by
 unfold Qju;rw[h.1,xO ⟨h.2,hk⟩]
theorem Qi4{s:yD}{i k:Nat}{o:Bool}(h:Qan s i=k/\Qc7 s i=o)(hk:o=false\/¬ k<s.size):Qju s i = -1:=by
 unfold Qju;rw[h.1,h.2,xN (by rcases hk with rfl | hk <;> simp_all)]
section
variable {s:yD} {i k:Nat}
theorem SkipAt.begun(h:SkipAt s i k false)(hk:k<s.size)(hc:s[k].toNat=35):SkipAt s i k true:=by
 obtain⟨h0,h3,h1,h2⟩:=h
 refine⟨h0,h3,?_,?_⟩
 ·rw[h1,Qdd s k hk];have ha:Qas (35:Int)=true:=by decide
  simp[Qct,hc,ha]
 ·rw[h2,Qdd s k hk];have ha:Qas (35:Int)=true:=by decide
  simp[Qct,hc,ha]
theorem SkipAt.ended(h:SkipAt s i k true)(hk:k<s.size)(hc:s[k].toNat=10):SkipAt s i k false:=by
 obtain⟨h0,h3,h1,h2⟩:=h;have ha:Qas (10:Int)=true:=by decide
 have hw:Qef (10:Int)=true:=by decide
 refine⟨h0,h3,?_,?_⟩
 ·rw[h1,Qdd s k hk];simp[Qct,hc,ha,hw]
 ·rw[h2,Qdd s k hk];simp[Qct,hc,ha,hw]
end
def Qq9:Bool->List UInt8->Bool
 | o,[]=>o
 | o,c :: r=>Qq9 (if c.toNat=10 then false else if c.toNat=35 then true else o) r
theorem Qwv(o:Bool)(l:List UInt8)(h:(Qct o l).1=l.length):Qq9 o l=(Qct o l).2:=by
 induction l generalizing o with
 | nil=>simp[Qq9,Qct]
 | cons c r ih =>
  unfold Qq9;unfold Qct at h |-
  by_cases ha:Qas c.toNat=true
  ·simp only[ha,if_true]at h |-
   cases o
   ·simp only[Bool.false_eq_true,if_false]at h |-
    by_cases hc:c.toNat=35
    ·simp only[hc,if_true,xD]at h |-
     simpa using ih true (by omega)
    ·by_cases hw:Qef c.toNat=true
     ·simp only[hc,hw,if_true,if_false,xD]at h |-
      simpa using ih false (by omega)
     ·simp only[hc,hw,if_false,xD]at h;simp at h
   ·simp only[if_true,xD]at h |-;rw[<-ih _ (by omega)]
    congr 1
    by_cases h10:c.toNat=10 <;> simp[h10]
  ·have hf:Qas c.toNat=false:=by simpa using ha
   rw[hf]at h;simp at h
theorem Qeg(s:yD)(a b:Nat):suf (s.extract a b) 0=(suf s a).take (b-a):=by
 unfold suf;rw[List.drop_zero,ByteArray.data_extract,Array.toList_extract,List.extract_eq_take_drop]
theorem Qhj(s:yD)(a:Nat):suf (s.extract a s.size) 0=suf s a:=by
 rw[Qeg,List.take_of_length_le (by rw[Qb4];omega)]
theorem Qe1(s:yD)(a n:Nat):(suf s a).drop n=suf s (a+n):=by
 unfold suf;rw[List.drop_drop]
def Qd2(p:Int->Bool):List UInt8->Nat
 | []=>0
 | c :: r=>if p c.toNat then Qd2 p r+1 else 0
theorem Qmx(p:Int->Bool)(l:List UInt8):Qd2 p l<=l.length:=by
 induction l with
 | nil=>simp[Qd2]
 | cons c r ih=>unfold Qd2;split <;> simp <;> omega
def RunAt(p:Int->Bool)(s:yD)(i k:Nat):Prop:=i<=k/\k<=s.size/\Qd2 p (suf s i)+i=k+Qd2 p (suf s k)
theorem RunAt.start(p:Int->Bool)(s:yD)(i:Nat)(h:i<=s.size):RunAt p s i i:=⟨xA _,h,by omega⟩
section
variable {p:Int->Bool} {s:yD} {i k:Nat}
theorem RunAt.next(h:RunAt p s i k)(hk:k<s.size)(hp:p s[k].toNat=true):RunAt p s i (k+1):=by
 obtain⟨h0,_,h1⟩:=h;rw[Qdd s k hk]at h1;simp only[Qd2,hp,if_true]at h1;exact⟨by omega,by omega,by omega⟩
theorem RunAt.stop(h:RunAt p s i k)(hk:k<s.size)(hp:p s[k].toNat=false):Qd2 p (suf s i)+i=k:=by
 obtain⟨h0,_,h1⟩:=h;rw[Qdd s k hk]at h1;simp only[Qd2,hp]at h1
 simpa using h1
theorem RunAt.done(h:RunAt p s i k)(hk:¬ k<s.size):Qd2 p (suf s i)+i=k:=by
 obtain⟨h0,_,h1⟩:=h;rw[Qle s k (by omega)]at h1
 simpa [Qd2] using h1
end
def Qac(l:List UInt8):Nat:=Qd2 Qhh l
def Qdw(l:List UInt8):Nat:=Qd2 Qb8 l
def reservedWords:List (List UInt8):=[[109,111,100,117,108,101],[100,101,102],[116,121,112,101],[108,101,116],[105,110],[105,102],[116,104,101,110],[101,108,115,101],[116,114,117,101],[102,97,108,115,101],[73,110,116],[84,101,120,116],[66,111,111,108]]
def Qau(l:List UInt8):Bool:=reservedWords.contains l
structure Tk where
 kind:Nat
 n:Nat
 e:Nat
def at'(l:List UInt8)(k:Nat):Nat:=(l.getD k 0).toNat
def Qda(l:List UInt8)(n:Nat):Tk :=
 if 24<n\/24<Qac (l.drop (n+1)) then ⟨0,0,3⟩
 else if Qau ((l.drop (n+1)).take (Qac (l.drop (n+1)))) then ⟨0,0,2⟩
 else if Qbx (at' l (n+1)) then ⟨4,n+1+Qac (l.drop (n+1)),0⟩
 else ⟨3,n+1+Qac (l.drop (n+1)),0⟩
def Qc9(l:List UInt8):Bool :=
 Qbx (at' l 0) && !Qau (l.take (Qac l)) && decide (Qac l+1<l.length) && at' l (Qac l)==46 && Qax (at' l (Qac l+1))
def Qdx(l:List UInt8):Tk :=
 if 24<Qac l then ⟨0,0,3⟩
 else if Qau (l.take (Qac l)) then ⟨7,Qac l,0⟩
 else if Qbx (at' l 0) then ⟨2,Qac l,0⟩
 else ⟨1,Qac l,0⟩
def Qdp(l:List UInt8):Tk:=if Qc9 l then Qda l (Qac l) else Qdx l
def Qjm(l:List UInt8):Tk :=
 if 1<Qdw l/\at' l 0=48 then ⟨0,0,2⟩
 else if 15<Qdw l then ⟨0,0,3⟩
 else ⟨5,Qdw l,0⟩
def Qc4:Nat->List UInt8->Tk
 | _,[]=>⟨0,0,2⟩
 | i,c :: r =>
  if c.toNat=34 then ⟨6,i+1,0⟩
  else if c.toNat=92\/c.toNat=9\/c.toNat=10\/c.toNat=13 then ⟨0,0,2⟩
  else if Qas c.toNat then Qc4 (i+1) r
  else ⟨0,i,1⟩
def Qe6(c:Int):Bool:=c==40 || c==41 || c==91 || c==93 || c==58 || c==44 || c==43 || c==45 || c==42 || c==60 || c==63
def Qbz(l:List UInt8):Nat :=
 if at' l 0=61 then (if at' l 1=61 then 2 else 1)
 else if Qe6 (at' l 0) then 1 else 0
def Qee(l:List UInt8):Tk:=if Qbz l=0 then ⟨0,0,2⟩ else ⟨8,Qbz l,0⟩
def Qbl(l:List UInt8):Tk :=
 if Qas (at' l 0)=false then ⟨0,0,1⟩
 else if Qax (at' l 0) then Qdp l
 else if Qb8 (at' l 0) then Qjm l
 else if at' l 0=34 then Qc4 1 (l.drop 1)
 else Qee l
theorem Qjn(s:yD)(a k:Nat)(h:a+k<s.size):at' (suf s a) k=s[a+k].toNat:=by
 unfold at' suf;rw[List.getD_eq_getElem?_getD,List.getElem?_drop,xF (by simpa using h)];rfl
theorem Qjv(l:List UInt8):Qac l<=l.length:=Qmx Qhh l
theorem Qww(l:List UInt8):Qdw l<=l.length:=Qmx Qb8 l
theorem Qzr(c:UInt8)(r:List UInt8):at' (c :: r) 0=c.toNat:=rfl
theorem Qip{l:List UInt8}(h:Qax (at' l 0)=true):0<Qac l:=by
 cases l with
 | nil=>exact absurd h (by decide)
 | cons c r =>
  rw[Qzr]at h;have:Qhh c.toNat=true:=by unfold Qhh;rw[h];rfl
  unfold Qac;simp[Qd2,this]
theorem Qmy{l:List UInt8}(h:Qb8 (at' l 0)=true):0<Qdw l:=by
 cases l with
 | nil=>exact absurd h (by decide)
 | cons c r =>
  rw[Qzr]at h;unfold Qdw;simp[Qd2,h]
theorem Qmz(l:List UInt8):∀ i,(Qc4 i l).e=0->i<(Qc4 i l).n/\(Qc4 i l).n<=i+l.length:=by
 induction l with
 | nil=>intro i h;simp[Qc4]at h
 | cons c r ih =>
  intro i h;unfold Qc4 at h |-
  by_cases h1:c.toNat=34
  ·simp only[h1,if_true,xD];omega
  ·simp only[h1,if_false]at h |-
   by_cases h2:c.toNat=92\/c.toNat=9\/c.toNat=10\/c.toNat=13
   ·simp[h2]at h
   ·simp only[h2,if_false]at h |-
    by_cases h3:Qas c.toNat=true
    ·simp only[h3,if_true,xD]at h |-;have:=ih (i+1) h
     omega
    ·simp[h3]at h
theorem Zff{l:List UInt8}{n:Nat}(hn:n+1<l.length)(h:(Qda l n).e=0):0<(Qda l n).n/\(Qda l n).n<=l.length:=by
 have hm:=Qjv (l.drop (n+1));rw[List.length_drop]at hm;unfold Qda at h |-
 by_cases h1:24<n\/24<Qac (l.drop (n+1))
 ·rw[xO h1]at h;cases h
 ·rw[xN h1]at h |-
  by_cases h2:Qau ((l.drop (n+1)).take (Qac (l.drop (n+1))))=true
  ·rw[xO h2]at h;cases h
  ·rw[xN h2]
   by_cases h3:Qbx (at' l (n+1))=true
   ·rw[xO h3];exact⟨by show 0<n+1+_;omega,by show n+1+_<=_;omega⟩
   ·rw[xN h3];exact⟨by show 0<n+1+_;omega,by show n+1+_<=_;omega⟩
theorem Qzs{l:List UInt8}(hw:0<Qac l)(h:(Qdx l).e=0):0<(Qdx l).n/\(Qdx l).n<=l.length:=by
 have hm:=Qjv l;unfold Qdx at h |-
 by_cases h1:24<Qac l
 ·rw[xO h1]at h;cases h
 ·rw[xN h1]
  by_cases h2:Qau (l.take (Qac l))=true
  ·rw[xO h2];exact⟨hw,hm⟩
  ·rw[xN h2]
   by_cases h3:Qbx (at' l 0)=true
   ·rw[xO h3];exact⟨hw,hm⟩
   ·rw[xN h3];exact⟨hw,hm⟩
theorem Zio{l:List UInt8}(hw:0<Qdw l)(h:(Qjm l).e=0):0<(Qjm l).n/\(Qjm l).n<=l.length:=by
 have hm:=Qww l;unfold Qjm at h |-
 by_cases h1:1<Qdw l/\at' l 0=48
 ·rw[xO h1]at h;cases h
 ·rw[xN h1]at h |-
  by_cases h2:15<Qdw l
  ·rw[xO h2]at h;cases h
  ·rw[xN h2];exact⟨hw,hm⟩
theorem Qth(l:List UInt8):Qbz l<=l.length:=by
 unfold Qbz
 match l with
 | []=>decide
 | [c] =>
  have h1:at' [c] 1=0:=rfl;rw[h1,show[c].length=1 from rfl]
  by_cases h:at' [c] 0=61
  ·rw[xO h]
   decide
  ·rw[xN h]
   by_cases h2:Qe6 (at' [c] 0)=true
   ·rw[xO h2]
    decide
   ·rw[xN h2]
    decide
 | c :: d :: r =>
  simp only[xD]
  by_cases h:at' (c :: d :: r) 0=61
  ·rw[xO h]
   by_cases h2:at' (c :: d :: r) 1=61
   ·rw[xO h2];omega
   ·rw[xN h2];omega
  ·rw[xN h]
   by_cases h2:Qe6 (at' (c :: d :: r) 0)=true
   ·rw[xO h2];omega
   ·rw[xN h2];omega
theorem Zfg{l:List UInt8}(h:(Qee l).e=0):0<(Qee l).n/\(Qee l).n<=l.length:=by
 have hm:=Qth l;unfold Qee at h |-
 by_cases hz:Qbz l=0
 ·rw[xO hz]at h;cases h
 ·rw[xN hz];exact⟨by show 0<Qbz l;omega,hm⟩
theorem Qlf{l:List UInt8}(h:(Qbl l).e=0):0<(Qbl l).n/\(Qbl l).n<=l.length:=by
 unfold Qbl at h |-
 by_cases ha:Qas (at' l 0)=false
 ·rw[xO ha]at h;cases h
 ·rw[xN ha]at h |-
  by_cases hl:Qax (at' l 0)=true
  ·rw[xO hl]at h |-;unfold Qdp at h |-
   by_cases hd:Qc9 l=true
   ·rw[xO hd]at h |-
    have hlen:Qac l+1<l.length:=by
     unfold Qc9 at hd;simp only[Bool.and_eq_true,decide_eq_true_eq]at hd;exact hd.1.1.2
    exact Zff hlen h
   ·rw[xN hd]at h |-;exact Qzs (Qip hl) h
  ·rw[xN hl]at h |-
   by_cases hd:Qb8 (at' l 0)=true
   ·rw[xO hd]at h |-;exact Zio (Qmy hd) h
   ·rw[xN hd]at h |-
    by_cases h34:at' l 0=34
    ·rw[xO h34]at h |-;have:=Qmz (l.drop 1) 1 h
     rw[List.length_drop]at this;cases l with
     | nil=>exact absurd h34 (by decide)
     | cons c r =>
      rw[xD]at this |-;omega
    ·rw[xN h34]at h |-;exact Zfg h
theorem Qzt(l:List UInt8):∀ i,(Qc4 i l).n<=i+l.length:=by
 induction l with
 | nil=>intro i;exact xZ _
 | cons c r ih =>
  intro i;unfold Qc4;rw[xD]
  by_cases h1:c.toNat=34
  ·rw[xO h1];show i+1<=_
   omega
  ·rw[xN h1]
   by_cases h2:c.toNat=92\/c.toNat=9\/c.toNat=10\/c.toNat=13
   ·rw[xO h2];exact xZ _
   ·rw[xN h2]
    by_cases h3:Qas c.toNat=true
    ·rw[xO h3];have:=ih (i+1)
     omega
    ·rw[xN h3];show i<=_
     omega
theorem Qm0{l:List UInt8}(h:(Qbl l).e≠0):(Qbl l).n<=l.length:=by
 unfold Qbl at h |-
 by_cases ha:Qas (at' l 0)=false
 ·rw[xO ha];exact xZ _
 ·rw[xN ha]at h |-
  by_cases hl:Qax (at' l 0)=true
  ·rw[xO hl]at h |-;unfold Qdp at h |-
   by_cases hd:Qc9 l=true
   ·rw[xO hd]at h |-;unfold Qda at h |-
    split
    ·exact xZ _
    ·split
     ·exact xZ _
     ·rename_i h1 h2;rw[xN h1,xN h2]at h
      split at h <;> exact absurd rfl h
   ·rw[xN hd]at h |-;unfold Qdx at h |-
    split
    ·exact xZ _
    ·rename_i h1;rw[xN h1]at h
     split at h
     ·exact absurd rfl h
     ·split at h <;> exact absurd rfl h
  ·rw[xN hl]at h |-
   by_cases hd:Qb8 (at' l 0)=true
   ·rw[xO hd]at h |-;unfold Qjm at h |-
    split
    ·exact xZ _
    ·split
     ·exact xZ _
     ·rename_i h1 h2;rw[xN h1,xN h2]at h;exact absurd rfl h
   ·rw[xN hd]at h |-
    by_cases h34:at' l 0=34
    ·rw[xO h34];have:=Qzt (l.drop 1) 1
     rw[List.length_drop]at this;cases l with
     | nil=>exact absurd h34 (by decide)
     | cons c r =>
      rw[xD]at this |-;omega
    ·rw[xN h34]at h |-;unfold Qee at h |-
     split
     ·exact xZ _
     ·rename_i h1;rw[xN h1]at h;exact absurd rfl h
structure Tok where
 kind:Int
 lead:yD
 text:yD
structure Res where
 toks:List Tok
 tail:yD
 place:Nat
 e:Nat
def Qra(s:yD):Nat->Nat->List Tok->Res
 | 0,_,_=>⟨[],ByteArray.empty,0,0⟩
 | f+1,k,acc =>
  if Qan s k=s.size then ⟨acc,s.extract k s.size,0,0⟩
  else if (Qbl (suf s (Qan s k))).e=0 then
   Qra s f (Qan s k+(Qbl (suf s (Qan s k))).n) (acc ++ [⟨(Qbl (suf s (Qan s k))).kind,s.extract k (Qan s k),s.extract (Qan s k) (Qan s k+(Qbl (suf s (Qan s k))).n)⟩])
  else ⟨[],ByteArray.empty,Qan s k+(Qbl (suf s (Qan s k))).n,(Qbl (suf s (Qan s k))).e⟩
def Qoe(s:yD):Res:=Qra s (s.size+1) 0 []
def Qbp(s:yD):Res:=if 4096<s.size then ⟨[],ByteArray.empty,4096,3⟩ else Qoe s
def ScanAt(s:yD)(k:Nat)(acc:List Tok):Prop:=k<=s.size/\acc.length<=k/\∃ f,s.size<f+k/\Qoe s=Qra s f k acc
theorem ScanAt.start(s:yD):ScanAt s 0 []:=⟨xZ _,xA _,s.size+1,by omega,rfl⟩
section
variable {s:yD} {k:Nat} {acc:List Tok}
theorem ScanAt.done(h:ScanAt s k acc)(hs:Qan s k=s.size):Qoe s=⟨acc,s.extract k s.size,0,0⟩:=by
 obtain⟨hk,_,f,hf,h⟩:=h;obtain⟨f,rfl⟩:∃ g,f=g+1:=⟨f-1,by omega⟩;rw[h,Qra,xO hs]
theorem ScanAt.stop(h:ScanAt s k acc)(hs:Qan s k≠s.size)(he:(Qbl (suf s (Qan s k))).e≠0):Qoe s=⟨[],ByteArray.empty,Qan s k+(Qbl (suf s (Qan s k))).n,(Qbl (suf s (Qan s k))).e⟩:=by
 obtain⟨hk,_,f,hf,h⟩:=h;obtain⟨f,rfl⟩:∃ g,f=g+1:=⟨f-1,by omega⟩;rw[h,Qra,xN hs,xN he]
theorem ScanAt.next(h:ScanAt s k acc)(hs:Qan s k≠s.size)(he:(Qbl (suf s (Qan s k))).e=0) :
  ScanAt s (Qan s k+(Qbl (suf s (Qan s k))).n) (acc ++ [⟨(Qbl (suf s (Qan s k))).kind,s.extract k (Qan s k),s.extract (Qan s k) (Qan s k+(Qbl (suf s (Qan s k))).n)⟩]):=by
 obtain⟨hk,ha,f,hf,h⟩:=h;have h1:=Qlf he;have h2:=Qhi s k;have h3:=Qgp s k hk;rw[Qb4]at h1;obtain⟨f,rfl⟩:∃ g,f=g+1:=⟨f-1,by omega⟩;refine⟨by omega,by simp;omega,f,by omega,?_⟩;rw[h,Qra,xN hs,xO he]
end
theorem Qh3(p:Int->Bool)(l:List UInt8):∀ m,Qd2 p l<=m->Qd2 p (l.take m)=Qd2 p l:=by
 induction l with
 | nil=>intro m _;simp[Qd2]
 | cons c r ih =>
  intro m h;cases m with
  | zero =>
   unfold Qd2 at h
   split at h
   ·omega
   ·rename_i hp;simp[Qd2,hp]
  | succ m =>
   rw[List.take_succ_cons];unfold Qd2 at h |-
   split
   ·rename_i hp;rw[xO hp]at h;rw[ih m (by omega)]
   ·rfl
theorem Qh4(l:List UInt8)(m k:Nat)(h:k<m):at' (l.take m) k=at' l k:=by
 unfold at';rw[List.getD_eq_getElem?_getD,List.getD_eq_getElem?_getD,List.getElem?_take,xO h]
theorem Qti(l:List UInt8)(m k:Nat)(h:m<=k):at' (l.take m) k=0:=by
 unfold at';rw[List.getD_eq_getElem?_getD,List.getElem?_take,xN (by omega)];rfl
theorem Qwx(l:List UInt8):∀ i,(Qc4 i l).e=0->Qc4 i l=⟨6,(Qc4 i l).n,0⟩:=by
 induction l with
 | nil=>intro i h;simp[Qc4]at h
 | cons c r ih =>
  intro i h;unfold Qc4 at h |-
  by_cases h1:c.toNat=34
  ·rw[xO h1]
  ·rw[xN h1]at h |-
   by_cases h2:c.toNat=92\/c.toNat=9\/c.toNat=10\/c.toNat=13
   ·rw[xO h2]at h;cases h
   ·rw[xN h2]at h |-
    by_cases h3:Qas c.toNat=true
    ·rw[xO h3]at h |-;exact ih _ h
    ·rw[xN h3]at h;cases h
theorem Qwy(l:List UInt8):∀ i,(Qc4 i l).e=0->Qc4 i (l.take ((Qc4 i l).n-i))=Qc4 i l:=by
 induction l with
 | nil=>intro i h;simp[Qc4]at h
 | cons c r ih =>
  intro i h;have hn:=(Qmz (c :: r) i h).1;unfold Qc4 at h hn
  by_cases h1:c.toNat=34
  ·have e:Qc4 i (c :: r)=⟨6,i+1,0⟩:=by rw[Qc4,xO h1]
   rw[e,show i+1-i=1 from by omega];rw[List.take_succ_cons,Qc4,xO h1]
  ·rw[xN h1]at h hn
   by_cases h2:c.toNat=92\/c.toNat=9\/c.toNat=10\/c.toNat=13
   ·rw[xO h2]at h;cases h
   ·rw[xN h2]at h hn
    by_cases h3:Qas c.toNat=true
    ·rw[xO h3]at h hn;have e:Qc4 i (c :: r)=Qc4 (i+1) r:=by rw[Qc4,xN h1,xN h2,xO h3]
     have h4:=(Qmz r (i+1) h).1;rw[e,show(Qc4 (i+1) r).n-i=((Qc4 (i+1) r).n-(i+1))+1 from by omega,List.take_succ_cons,Qc4,xN h1,xN h2,xO h3];exact ih _ h
    ·rw[xN h3]at h;cases h
theorem Qwz{l:List UInt8}(_hd:Qc9 l=false)(hw:0<Qac l)(h:(Qdx l).e=0):Qc9 (l.take (Qdx l).n)=false/\Qdx (l.take (Qdx l).n)=Qdx l:=by
 have hn:(Qdx l).n=Qac l:=by
  unfold Qdx at h |-
  by_cases h1:24<Qac l
  ·rw[xO h1]at h;cases h
  ·rw[xN h1]
   split
   ·rfl
   ·split <;> rfl
 have hwl:Qac (l.take (Qac l))=Qac l:=Qh3 _ _ _ (xA _);rw[hn]
 constructor
 ·unfold Qc9;rw[hwl,List.length_take];rw[show decide (Qac l+1<min (Qac l) l.length)=false from xR (by omega)];simp
 ·unfold Qdx;rw[hwl,List.take_take,Nat.min_self,Qh4 l _ 0 hw]
theorem Qzu{l:List UInt8}(hd:Qc9 l=true)(h:(Qda l (Qac l)).e=0) :
  Qc9 (l.take (Qda l (Qac l)).n)=true/\Qac (l.take (Qda l (Qac l)).n)=Qac l/\Qda (l.take (Qda l (Qac l)).n) (Qac l)=Qda l (Qac l):=by
 have hn:(Qda l (Qac l)).n=Qac l+1+Qac (l.drop (Qac l+1)):=by
  unfold Qda at h |-
  by_cases h1:24<Qac l\/24<Qac (l.drop (Qac l+1))
  ·rw[xO h1]at h;cases h
  ·rw[xN h1]at h |-
   by_cases h2:Qau ((l.drop (Qac l+1)).take (Qac (l.drop (Qac l+1))))=true
   ·rw[xO h2]at h;cases h
   ·rw[xN h2]
    split <;> rfl
 rw[hn];unfold Qc9 at hd;simp only[Bool.and_eq_true,decide_eq_true_eq,beq_iff_eq,Bool.not_eq_true']at hd;obtain⟨⟨⟨⟨hu,hr⟩,hlen⟩,h46⟩,hl⟩:=hd;generalize hW:Qac l=W at *
 have hm:0<Qac (l.drop (W+1)):=by
  refine Qip ?_
  have:at' (l.drop (W+1)) 0=at' l (W+1):=by
   unfold at';rw[List.getD_eq_getElem?_getD,List.getD_eq_getElem?_getD,List.getElem?_drop,Nat.add_zero]
  rw[this];exact hl
 have hM:=Qjv (l.drop (W+1));rw[List.length_drop]at hM;generalize hMM:Qac (l.drop (W+1))=M at *
 have hw:Qac (l.take (W+1+M))=W:=by
  rw[<-hW];exact Qh3 _ _ _ (by show Qac l<=_;omega)
 have hdr:(l.take (W+1+M)).drop (W+1)=(l.drop (W+1)).take M:=by rw[List.drop_take,show W+1+M-(W+1)=M from by omega]
 have hw2:Qac ((l.drop (W+1)).take M)=M:=by
  rw[<-hMM];exact Qh3 _ _ _ (xA _)
 refine⟨?_,hw,?_⟩
 ·unfold Qc9;rw[hw,Qh4 _ _ _ (by omega),Qh4 _ _ _ (by omega),Qh4 _ _ _ (by omega),List.take_take,Nat.min_eq_left (by omega),List.length_take,hu,hr,h46,hl,xS (by omega)];rfl
 ·unfold Qda;rw[hdr,hw2,hMM,List.take_take,Nat.min_self,Qh4 _ _ _ (by omega)]
theorem Zfh{l:List UInt8}(hw:0<Qdw l)(h:(Qjm l).e=0):0<(Qjm l).n/\Qjm (l.take (Qjm l).n)=Qjm l:=by
 have hn:(Qjm l).n=Qdw l:=by
  unfold Qjm at h |-
  by_cases h1:1<Qdw l/\at' l 0=48
  ·rw[xO h1]at h;cases h
  ·rw[xN h1]at h |-
   by_cases h2:15<Qdw l
   ·rw[xO h2]at h;cases h
   ·rw[xN h2]
 rw[hn];have hwl:Qdw (l.take (Qdw l))=Qdw l:=Qh3 _ _ _ (xA _);refine⟨hw,?_⟩;unfold Qjm;rw[hwl,Qh4 l _ 0 hw]
theorem Qzv{l:List UInt8}(h:(Qee l).e=0):0<(Qee l).n/\Qee (l.take (Qee l).n)=Qee l:=by
 have hz:Qbz l≠0:=by
  intro hz;unfold Qee at h;rw[xO hz]at h;cases h
 have hn:(Qee l).n=Qbz l:=by unfold Qee;rw[xN hz]
 rw[hn];refine⟨by omega,?_⟩
 have hs:Qbz (l.take (Qbz l))=Qbz l:=by
  have h0:at' (l.take (Qbz l)) 0=at' l 0:=Qh4 _ _ _ (by omega);unfold Qbz at h0 hz |-
  by_cases h1:at' l 0=61
  ·simp only[h1,if_true]at h0 hz |-
   by_cases h2:at' l 1=61
   ·simp only[h2,if_true]at h0 |-;rw[h0,Qh4 l 2 1 (by omega),h2];rfl
   ·simp only[h2,if_false]at h0 |-;rw[h0,Qti l 1 1 (by omega)];rfl
  ·simp only[h1,if_false]at h0 hz |-
   by_cases h2:Qe6 (at' l 0)=true
   ·simp only[h2,if_true]at h0 |-;rw[h0];simp[h1,h2]
   ·simp[h2]at hz
 unfold Qee;rw[hs]
theorem Zfi{l:List UInt8}(h:(Qbl l).e=0):Qbl (l.take (Qbl l).n)=Qbl l:=by
 have hpos:=(Qlf h).1;have h0:at' (l.take (Qbl l).n) 0=at' l 0:=Qh4 _ _ _ hpos
 have key:∀ m,at' (l.take m) 0=at' l 0->Qbl (l.take m)=if Qas (at' l 0)=false then ⟨0,0,1⟩ else if Qax (at' l 0) then Qdp (l.take m) else if Qb8 (at' l 0) then Qjm (l.take m) else if at' l 0=34 then Qc4 1 ((l.take m).drop 1) else Qee (l.take m):=by
  intro m hm;unfold Qbl;rw[hm]
 rw[key _ h0];clear key h0;unfold Qbl at h hpos |-
 by_cases ha:Qas (at' l 0)=false
 ·rw[xO ha]at h;cases h
 ·rw[xN ha]at h hpos |-;rw[xN ha]
  by_cases hl:Qax (at' l 0)=true
  ·rw[xO hl]at h hpos |-;rw[xO hl];unfold Qdp at h hpos |-
   by_cases hd:Qc9 l=true
   ·rw[xO hd]at h hpos |-;obtain⟨q1,q2,q3⟩:=Qzu hd h;rw[xO q1,q2,q3]
   ·rw[xN hd]at h hpos |-;obtain⟨q1,q2⟩:=Qwz (by simpa using hd) (Qip hl) h;rw[xN (by simp[q1]),q2]
  ·rw[xN hl]at h hpos |-;rw[xN hl]
   by_cases hd:Qb8 (at' l 0)=true
   ·rw[xO hd]at h hpos |-;rw[xO hd];exact(Zfh (Qmy hd) h).2
   ·rw[xN hd]at h hpos |-;rw[xN hd]
    by_cases h34:at' l 0=34
    ·rw[xO h34]at h hpos |-;rw[xO h34,List.drop_take];exact Qwy _ _ h
    ·rw[xN h34]at h hpos |-;rw[xN h34];exact(Qzv h).2
theorem Zfj{l:List UInt8}(h:(Qbl l).e=0):(Qbl l).kind≠0:=by
 unfold Qbl at h |-
 by_cases ha:Qas (at' l 0)=false
 ·rw[xO ha]at h;cases h
 ·rw[xN ha]at h |-
  by_cases hl:Qax (at' l 0)=true
  ·rw[xO hl]at h |-;unfold Qdp at h |-
   by_cases hd:Qc9 l=true
   ·rw[xO hd]at h |-;unfold Qda at h |-
    split at h
    ·cases h
    ·rename_i h1;rw[xN h1]
     split at h
     ·cases h
     ·rename_i h2;rw[xN h2]
      split <;> simp
   ·rw[xN hd]at h |-;unfold Qdx at h |-
    split at h
    ·cases h
    ·rename_i h1;rw[xN h1]
     split
     ·simp
     ·split <;> simp
  ·rw[xN hl]at h |-
   by_cases hd:Qb8 (at' l 0)=true
   ·rw[xO hd]at h |-;unfold Qjm at h |-
    split at h
    ·cases h
    ·rename_i h1;rw[xN h1]
     split at h
     ·cases h
     ·rename_i h2;rw[xN h2];exact(by decide:(5:Nat)≠0)
   ·rw[xN hd]at h |-
    by_cases h34:at' l 0=34
    ·rw[xO h34]at h |-;rw[Qwx _ _ h];exact(by decide:(6:Nat)≠0)
    ·rw[xN h34]at h |-;unfold Qee at h |-
     split at h
     ·cases h
     ·rename_i h1;rw[xN h1];exact(by decide:(8:Nat)≠0)
theorem Zfk(s:yD)(a k:Nat):at' (suf s a) k=at' (suf s 0) (a+k):=by
 unfold at' suf;rw[List.getD_eq_getElem?_getD,List.getD_eq_getElem?_getD,List.getElem?_drop,List.getElem?_drop,Nat.zero_add]
theorem Qw0(l:List UInt8):∀ o,(Qct o l).2=true->(Qct o l).1<l.length->Qas (at' l (Qct o l).1)=false:=by
 induction l with
 | nil=>intro o _ h;exact absurd h (by simp)
 | cons c r ih =>
  intro o h1 h2;unfold Qct at h1 h2 |-
  by_cases ha:Qas c.toNat=true
  ·simp only[ha,if_true]at h1 h2 |-
   cases o
   ·simp only[Bool.false_eq_true,if_false]at h1 h2 |-
    by_cases hc:c.toNat=35
    ·simp only[hc,if_true,xD]at h1 h2 |-;exact ih true h1 (by omega)
    ·by_cases hw:Qef c.toNat=true
     ·simp only[hc,hw,if_true,if_false,xD]at h1 h2 |-;exact ih false h1 (by omega)
     ·simp only[hc,hw,if_false]at h1;simp at h1
   ·simp only[if_true,xD]at h1 h2 |-;exact ih _ h1 (by omega)
  ·have hf:Qas c.toNat=false:=by simpa using ha
   simp only[hf,Bool.false_eq_true,if_false];exact hf
theorem Qu7{s:yD}{k:Nat}(ho:Qc7 s k=true)(hl:Qan s k<s.size):Qbl (suf s (Qan s k))=⟨0,0,1⟩:=by
 have h:=Qw0 (suf s k) false ho (by rw[Qb4];unfold Qan at hl;omega);unfold Qbl;rw[xO];rw[Zfk]at h |-;exact h
def Qap(l:List UInt8):Nat:=if l = [] then 0 else if (Qbl l).e≠0\/(Qbl l).n≠l.length then 0 else (Qbl l).kind
def bl(s:yD):List UInt8:=suf s 0
theorem Qf0(s:yD):(bl s).length=s.size:=by unfold bl;rw[Qb4];omega
theorem Zld{a b:yD}(h:bl a=bl b):a=b:=by
 unfold bl suf at h;rw[List.drop_zero,List.drop_zero]at h;cases a;cases b
 congr 1
 exact Array.toList_inj.1 h
theorem Qhk(a b:yD):bl (a ++ b)=bl a ++ bl b:=by
 unfold bl suf;rw[List.drop_zero,List.drop_zero,List.drop_zero,ByteArray.data_append,Array.toList_append]
def Qlg(ts:List Tok)(tail:List UInt8):List UInt8:=(ts.flatMap fun t=>bl t.lead ++ bl t.text) ++ tail
theorem Qw1(ts:List Tok)(t:Tok):Qlg (ts ++ [t]) [] = Qlg ts [] ++ (bl t.lead ++ bl t.text):=by
 unfold Qlg;rw[List.flatMap_append];simp
def Qp1(t:Tok):Prop:=(Qap (bl t.text):Int)=t.kind/\t.kind≠0/\Qge t.lead false=true
theorem Qzw{l:List UInt8}{n:Nat}(h:(Qbl l).e=0)(hn:(Qbl l).n=n):Qap (l.take n)=(Qbl l).kind:=by
 subst hn;have h1:=Qlf h;have h2:=Zfi h;unfold Qap
 rw[xN,h2,xN]
 ·rw[List.length_take];omega
 ·intro e;have:=congrArg List.length e
  rw[List.length_take,xG]at this;omega
theorem Qol(l:List UInt8):∀ o,Qct o (l.take (Qct o l).1)=Qct o l:=by
 induction l with
 | nil=>intro o;simp[Qct]
 | cons c r ih =>
  intro o
  by_cases ha:Qas c.toNat=true
  ·cases o
   ·by_cases hc:c.toNat=35
    ·have e:Qct false (c :: r)=((Qct true r).1+1,(Qct true r).2):=by
      rw[Qct,xO ha,xN (by decide),xO hc]
     rw[e,List.take_succ_cons,Qct,xO ha,xN (by decide),xO hc,ih]
    ·by_cases hw:Qef c.toNat=true
     ·have e:Qct false (c :: r)=((Qct false r).1+1,(Qct false r).2):=by
       rw[Qct,xO ha,xN (by decide),xN hc,xO hw]
      rw[e,List.take_succ_cons,Qct,xO ha,xN (by decide),xN hc,xO hw,ih]
     ·have e:Qct false (c :: r)=(0,false):=by
       rw[Qct,xO ha,xN (by decide),xN hc,xN hw]
      rw[e];rfl
   ·have e:Qct true (c :: r)=((Qct (c.toNat != 10) r).1+1,(Qct (c.toNat != 10) r).2):=by
     rw[Qct,xO ha,xO rfl]
    rw[e,List.take_succ_cons,Qct,xO ha,xO rfl,ih]
  ·have e:Qct o (c :: r)=(0,o):=by rw[Qct,xN ha]
   rw[e];rfl
theorem Qu8(s:yD)(k:Nat)(hk:k<=s.size):Qan (s.extract k (Qan s k)) 0=(s.extract k (Qan s k)).size/\Qc7 (s.extract k (Qan s k)) 0=Qc7 s k:=by
 have h1:=Qgp s k hk;have h2:=Qhi s k;have hn:Qan s k-k=(Qct false (suf s k)).1:=by unfold Qan;omega
 have hs:suf (s.extract k (Qan s k)) 0=(suf s k).take (Qct false (suf s k)).1:=by rw[Qeg,hn]
 constructor
 ·rw[ByteArray.size_extract,Nat.min_eq_left h1,hn];rw[show ∀ x,Qan x 0=0+(Qct false (suf x 0)).1 from fun _=>rfl,hs,Qol,Nat.zero_add]
 ·rw[show ∀ x,Qc7 x 0=(Qct false (suf x 0)).2 from fun _=>rfl,hs,Qol];rfl
theorem Zfl{s:yD}{k:Nat}(hk:k<=s.size)(hs:Qan s k≠s.size)(he:(Qbl (suf s (Qan s k))).e=0) :
  Qp1 ⟨(Qbl (suf s (Qan s k))).kind,s.extract k (Qan s k),s.extract (Qan s k) (Qan s k+(Qbl (suf s (Qan s k))).n)⟩:=by
 have h1:=Qgp s k hk
 have ho:Qc7 s k=false:=by
  cases h:Qc7 s k
  ·rfl
  ·rw[Qu7 h (by omega)]at he;cases he
 refine⟨?_,?_,?_⟩
 ·show((Qap (suf (s.extract _ _) 0):Nat):Int)=_
  rw[Qeg,Qzw he (by omega)]
 ·have:=Zfj he
  show((Qbl (suf s (Qan s k))).kind:Int)≠0
  omega
 ·show Qge (s.extract k (Qan s k)) false=true
  obtain⟨c1,c2⟩:=Qu8 s k hk;unfold Qge;rw[c1,c2,ho];simp
theorem Qzx{s:yD}{k:Nat}(hk:k<=s.size)(hs:Qan s k=s.size):Qge (s.extract k s.size) true=true:=by
 obtain⟨c1,_⟩:=Qu8 s k hk;rw[hs]at c1;unfold Qge;rw[c1];simp
def Qzy(s:yD)(r:Res):Prop :=
 (r.e=0->(∀ t∈r.toks,Qp1 t)/\Qlg r.toks (bl r.tail)=bl s/\Qge r.tail true=true)/\(r.e≠0->r.toks = []/\r.tail=ByteArray.empty)
theorem Qiq(s:yD)(a b:Nat)(hab:a<=b):(bl s).take a ++ bl (s.extract a b)=(bl s).take b:=by
 unfold bl;rw[Qeg];have:suf s a=(suf s 0).drop a:=by rw[Qe1,Nat.zero_add]
 rw[this,<-List.drop_take]
 conv=>rhs;rw[<-List.take_append_drop a ((suf s 0).take b)]
 rw[List.take_take,Nat.min_eq_left hab]
theorem Qw2(s:yD):∀ f k acc,k<=s.size->s.size<f+k->(∀ t∈acc,Qp1 t)->Qlg acc [] = (bl s).take k->Qzy s (Qra s f k acc):=by
 intro f
 induction f with
 | zero=>intro k acc hk hf _ _;omega
 | succ f ih =>
  intro k acc hk hf hacc hj;have h2:=Qhi s k;have h3:=Qgp s k hk;unfold Qra
  by_cases hs:Qan s k=s.size
  ·rw[xO hs];refine⟨fun _=>⟨hacc,?_,Qzx hk hs⟩,fun h=>absurd rfl h⟩;have:Qlg acc (bl (s.extract k s.size))=Qlg acc [] ++ bl (s.extract k s.size):=by unfold Qlg;simp
   rw[this,hj,Qiq s k s.size hk,List.take_of_length_le (by rw[Qf0];omega)]
  ·rw[xN hs]
   by_cases he:(Qbl (suf s (Qan s k))).e=0
   ·rw[xO he];have h1:=Qlf he;rw[Qb4]at h1
    refine ih _ _ (by omega) (by omega) ?_ ?_
    ·intro t ht
     rcases List.mem_append.1 ht with h | h
     ·exact hacc t h
     ·rw[List.mem_singleton.1 h];exact Zfl hk hs he
    ·rw[Qw1,hj,<-xT,Qiq s k _ h2,Qiq s _ _ (by omega)]
   ·rw[xN he];exact⟨fun h=>absurd h he,fun _=>⟨rfl,rfl⟩⟩
theorem Qi5(s:yD):Qzy s (Qbp s):=by
 unfold Qbp
 split
 ·exact⟨(fun h=>by cases h),fun _=>⟨rfl,rfl⟩⟩
 ·exact Qw2 s _ _ _ (xZ _) (by omega) (by simp) (by simp[Qlg])
end Go.Proofs.YtfjpemdejoejbaaGreat
