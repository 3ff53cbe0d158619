/- Part 25: Texts of stage 3 that this seat needs: TrInts, TreFind, TreNumber, TreSame, TreRSame, TreClone, TreAt, TreAwake, TreOpen. The contracts of divide of package link and of dot of its reference; plain: the first dot of a word. The contract of light of stage 3, and what the laws of it share. -/
import Derived.Test.YtclkilljmdkfaaaTy1
import Derived.Test.YtclkilljmdkfaaaTy24
import Derived.Test.YtclkilljmdkfaaaTy2
import Derived.Test.YtclkilljmdkfaaaRows
import Derived.WalkKit
import Derived.WalkSpells
import Derived.WalkLawsBesides
import Derived.Lib.Hide
import Derived.ChangeSlices
import Derived.ProofKit
import Derived.Below
import Derived.Deep.RegionLaw
import Derived.Deep.DrawnRows
import Derived.Shelf.RegionOpenPlain
import Derived.StillTailTactics
import Derived.Deep.AppendLies
import Derived.Laws.OwnMore
import Derived.Deep.Slices
import Derived.IntWalk
import Derived.WalkSmall
import Derived.Deep.QuietTactic
import Derived.BigQuiet
set_option maxRecDepth 100000
set_option maxHeartbeats 4000000
namespace Go.Proofs.Ytclkilljmdkfaaa
open Go.RowKit Go.ChangeShapes Go.WideShapes
def IntsAt (w:World) (A:Option Addr) (zs:List Int):Prop:=zs ≠ [] → ∃ b off,A = some ⟨b,off,none⟩ ∧ b < w.heap.size ∧ ∀ (i:Nat) (x:Int),zs[i]? = some x → w.cell? ⟨b,off + i,none⟩ = some (.int .i64 x)
end Go.Proofs.Ytclkilljmdkfaaa
namespace Go.Proofs.Ytclkilljmdkfaaa
open Go.RowKit
end Go.Proofs.Ytclkilljmdkfaaa
namespace Go.Proofs.Ytclkilljmdkfaaa
open Go.RowKit Go.Shelf
theorem mixed:Try.prog.follows Departure.mixedOrders = true:=by kernel_rfl
def KidsIn (S:Nat → Prop) (w:World) (A:Option Addr) (l:List Tr):Prop:=l ≠ [] → ∃ b off,A = some ⟨b,off,none⟩ ∧ S b ∧ TrsAt S w b off l
mutual
def fitT:Tr → Bool
 | .mk _ _ ls ks=>decide (ls.length ≤ 8796093022208) && decide (ks.length ≤ 1900000000000) && fitL ks
def fitL:List Tr → Bool
 | []=>true
 | t :: r=>fitT t && fitL r
end
theorem fitL_get:(l:List Tr) → (j:Nat) → (k:Tr) → fitL l = true → l[j]? = some k → fitT k = true
 | [],j,k,_,h=>by simp at h
 | a :: r,j,k,hs,h=>by
  unfold fitL at hs
  rw [Bool.and_eq_true] at hs
  cases j with
  | zero=>simp at h;subst h;exact hs.1
  | succ j=>exact fitL_get r j k hs.2 (by simpa using h)
theorem Qcj {t:Tr} (h:fitT t = true):t.leads.length ≤ 8796093022208 ∧ t.kids.length ≤ 1900000000000 ∧ ∀ (j:Nat) (k:Tr),t.kids[j]? = some k → fitT k = true:=by
 cases t with
 | mk kd tx ls ks =>
  unfold fitT at h
  simp only [Bool.and_eq_true,decide_eq_true_eq] at h
  exact ⟨h.1.1,h.1.2,fun j k hk=>fitL_get ks j k h.2 hk⟩
theorem grown_below {w w':World} (h:w.grownBy w' none):Below w.heap.size w w':=⟨h.os,h.tape,h.output,h.size,fun k hk=>h.block k hk (by simp)⟩
def RowIs (cs:Array Value) (vs:List TV):Prop:=∀ i v,vs[i]? = some v → cs[i * 4]? = some (.int .i64 v.kind) ∧ cs[i * 4 + 1]? = some (.string v.text) ∧ cs[i * 4 + 2]? = some (.slice v.la v.ll v.lc) ∧ cs[i * 4 + 3]? = some (.slice v.ka v.kl v.kc)
theorem TrAt.make {S:Nat → Prop} {w:World} {t:Tr} {v:TV} (h1:v.kind = t.kind) (h2:v.text = t.text) (h3:v.ll = t.leads.length) (h4:v.kl = t.kids.length) (h5:StrsAt S w v.la t.leads) (h6:KidsIn S w v.ka t.kids) (h7:v.ll ≤ v.lc ∧ v.kl ≤ v.kc):TrAt S w t v:=by
 cases t
 unfold TrAt
 exact ⟨h1,h2,h3,h4,h5,h6,h7⟩
theorem Qdl {w:World} {b o k:Nat} {u:Value} (h:k ≠ b):(w.setCell ⟨b,o,none⟩ u).heap[k]? = w.heap[k]?:=Below.heap_setCell _ _ _ _ (fun e:k = b=>h e)
theorem Qdw {w:World} {b k:Nat} (u:TV) (h:k ≠ b):(setT w b u).heap[k]? = w.heap[k]?:=(((Qdl h).trans (Qdl h)).trans (Qdl h)).trans (Qdl h)
theorem Qex (w:World) (b:Nat) (u:TV):(setT w b u).heap.size = w.heap.size:=by simp [setT,World.setCell]
theorem Qel {w:World} {o:Obj} {k:Nat} {x:Obj} (h:w.heap[k]? = some x):(w.alloc o).heap[k]? = some x:=(((xC w.heap.size w).alloc (xA _) o).block k (Qab h)).trans h
end Go.Proofs.Ytclkilljmdkfaaa
namespace Go.Proofs.Ytclkilljmdkfaaa
open Go.RowKit Go.ChangeShapes Go.WideShapes Go.Deep
section
variable {H:Type} {enc:TypeId × Value → H} {w:World} {base:Nat} {spare:Nat → Bool} {held:Bool}
instance:Inhabited Tr:=⟨noTr⟩
instance:Inhabited TV:=⟨⟨0,⟨#[]⟩,none,0,0,none,0,0⟩⟩
theorem plain_add (b off n:Nat):((⟨b,off,none⟩:Addr).add n) = ⟨b,off + n,none⟩:=by unfold Addr.add;split <;> simp_all
end
end Go.Proofs.Ytclkilljmdkfaaa
namespace Go.Proofs.Ytclkilljmdkfaaa
open Go.RowKit
def dotG:List UInt8 → Nat
 | []=>0
 | c :: r=>if c = 46 then 0 else dotG r + 1
theorem dotG_at:(l:List UInt8) → (i:Nat) → (∀ j,j < i → ∀ c,l[j]? = some c → c ≠ 46) → l[i]? = some 46 → dotG l = i
 | [],i,_,h=>by simp at h
 | c :: r,0,_,h=>by simp at h;rw [dotG,if_pos h]
 | c :: r,i + 1,hn,h=>by
  rw [dotG,if_neg (hn 0 (by omega) c rfl),dotG_at r i (fun j hj c hc=>hn (j + 1) (by omega) c (by simpa using hc)) (by simpa using h)]
theorem dotG_none:(l:List UInt8) → (∀ (j:Nat) (c:UInt8),l[j]? = some c → c ≠ 46) → dotG l = l.length
 | [],_=>rfl
 | c :: r,hn=>by rw [dotG,if_neg (hn 0 c rfl),dotG_none r (fun j c hc=>hn (j + 1) c (by simpa using hc)),xD]
def dotP (s:ByteArray):Nat:=dotG s.data.toList
def divP (s:ByteArray):ByteArray × ByteArray × Bool:=if dotP s < s.size then (s.extract 0 (dotP s),s.extract (dotP s + 1) s.size,true) else (⟨#[]⟩,s,false)
def NoDot (s:ByteArray) (k:Nat):Prop:=∀ j,j < k → ∀ c,s.data.toList[j]? = some c → c ≠ 46
theorem nodot_more {s:ByteArray} {k:Nat} (h:NoDot s k) {hk:k < s.size} (hc:s[k] ≠ 46):NoDot s (k + 1):=fun j hj c hcj=>by
 by_cases e:j = k
 ·subst e
  have:s.data.toList[j]? = some s[j]:=by rw [xF (by simpa using hk)];rfl
  rw [this] at hcj
  injection hcj with hcj
  rw [← hcj]
  exact hc
 ·exact h j (by omega) c hcj
theorem dot_here {s:ByteArray} {k:Nat} (h:NoDot s k) {hk:k < s.size} (hc:s[k] = 46):dotP s = k:=dotG_at _ k h (by rw [xF (by simpa using hk)];exact congrArg some hc)
theorem dot_none {s:ByteArray} (h:NoDot s s.size):dotP s = s.size:=by
 have:=dotG_none s.data.toList (fun j c hc=>h j (by have:=(List.getElem?_eq_some_iff.1 hc).1;simpa using this) c hc)
 unfold dotP
 simpa using this
theorem divide_any (s:ByteArray) (w:World) (hs:s.size ≤ maxLen):Calls Try.prog 60 #[.string s] w fun e w'=>e = .returned (.tuple #[.string (divP s).1,.string (divP s).2.1,.bool (divP s).2.2]) ∧ ∃ n,w' = w.drewN n:=by
 unfold maxLen at hs
 go_enter Try.func60,Try.ntmps60
 go_wp2
 go_loop [8] (fun i=>∃ k:Nat,i = .int .i64 k ∧ k ≤ s.size ∧ Hid (NoDot s k)) (fun i=>s.size - (intOf i).toNat)
 case atStart=>exact ⟨0,rfl,Nat.zero_le _,hQ fun j hj=>absurd hj (by omega)⟩
 case round =>
  obtain ⟨k,rfl,hk,hn⟩:=hrel
  by_cases hlt:k < s.size
  ·have hk1:IntKind.i64.wrap ((k:Int) + 1) = (k:Int) + 1:=IntWalk.i64_in _ (by omega)
   by_cases hc:s[k] = 46
   ·have d1:((s[k].toNat:Int) == 46) = true:=by rw [hc];rfl
    have d2:(s[k].toNat:Int) = 46:=by rw [hc];rfl
    have HV:=hQ (show divP s = (s.extract 0 k,s.extract (k + 1) s.size,true) from by unfold divP;rw [dot_here hn.out hc,if_pos hlt])
    clear hn hc
    go_wp2
    go_quiet (fail)
    go_wp2
    go_ret3
    rw [HV.out]
    exact ⟨rfl,_,rfl⟩
   ·have d1:((s[k].toNat:Int) == 46) = false:=by
     rw [beq_eq_false_iff_ne]
     intro e
     exact hc (UInt8.toNat_inj.1 (by show s[k].toNat = 46;omega))
    have HN:=hQ (nodot_more hn.out hc)
    clear hn hc
    go_wp2
    go_round
    case rel=>exact ⟨k + 1,by go_num,by omega,HN⟩
    case measure=>simp [intOf];omega
  ·obtain rfl:k = s.size:=by omega
   have HV:=hQ (show divP s = (⟨#[]⟩,s,false) from by unfold divP;rw [dot_none hn.out,if_neg (Nat.lt_irrefl _)])
   clear hn
   go_wp2
   go_ret3
   rw [HV.out]
   exact ⟨rfl,0,rfl⟩
end Go.Proofs.Ytclkilljmdkfaaa
namespace Go.Proofs.Ytclkilljmdkfaaa
open Go.RowKit Go.Shelf
mutual
theorem fit_small:(t:Tr) → fitT t = true → Qbj t = true
 | .mk _ _ ls ks,h=>by
  rw [fitT] at h
  simp only [Bool.and_eq_true,decide_eq_true_eq] at h
  rw [Qbj,fitL_small ks h.2,decide_eq_true (by omega),decide_eq_true (by omega)]
  rfl
theorem fitL_small:(l:List Tr) → fitL l = true → Qb4 l = true
 | [],_=>by rw [Qb4]
 | t :: r,h=>by
  rw [fitL,Bool.and_eq_true] at h
  rw [Qb4,fit_small t h.1,fitL_small r h.2]
  rfl
end
end Go.Proofs.Ytclkilljmdkfaaa
