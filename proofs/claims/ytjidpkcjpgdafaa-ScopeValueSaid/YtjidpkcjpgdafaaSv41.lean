/- Part 41: Plain: the order of texts, ascending lists, a text put into one. -/
import Derived.Test.YtjidpkcjpgdafaaSv1
import Derived.Shelf.Spec.SearchS
set_option maxRecDepth 100000
set_option maxHeartbeats 4000000
namespace Go.Proofs.Ytjidpkcjpgdafaa
open Go.RowKit
theorem bl_irr:(x:List UInt8) → Op.bytesLess x x = false
 | []=>rfl
 | a :: r=>by
  rw [Op.bytesLess,bl_irr r]
  simp
theorem bl_tri:(x y:List UInt8) → Op.bytesLess x y = false → Op.bytesLess y x = false → x = y
 | [],[],_,_=>rfl
 | [],b :: s,h,_=>by rw [Op.bytesLess] at h;cases h
 | a :: r,[],_,h=>by rw [Op.bytesLess] at h;cases h
 | a :: r,b :: s,h,k=>by
  rw [Op.bytesLess] at h k
  simp only [Bool.or_eq_false_iff,decide_eq_false_iff_not,Bool.and_eq_false_imp,beq_iff_eq] at h k
  have hab:a = b:=by
   have h1:=h.1
   have h2:=k.1
   rw [UInt8.lt_iff_toNat_lt] at h1 h2
   exact UInt8.toNat_inj.1 (by omega)
  subst hab
  rw [bl_tri r s (h.2 rfl) (k.2 rfl)]
theorem bl_trans:(x y z:List UInt8) → Op.bytesLess x y = true → Op.bytesLess y z = true → Op.bytesLess x z = true
 | _,[],_,h,_=>by unfold Op.bytesLess at h;cases h
 | _,_ :: _,[],_,h=>by unfold Op.bytesLess at h;cases h
 | [],_ :: _,_ :: _,_,_=>rfl
 | a :: r,b :: s,c :: t,h,k=>by
  rw [Op.bytesLess] at h k ⊢
  simp only [Bool.or_eq_true,decide_eq_true_eq,Bool.and_eq_true,beq_iff_eq,UInt8.lt_iff_toNat_lt] at h k ⊢
  rcases h with h | ⟨rfl,h⟩
  ·rcases k with k | ⟨rfl,k⟩
   ·exact .inl (by omega)
   ·exact .inl h
  ·rcases k with k | ⟨rfl,k⟩
   ·exact .inl k
   ·exact .inr ⟨rfl,bl_trans r s t h k⟩
def ltS (x y:ByteArray):Bool:=Op.bytesLess x.toList y.toList
theorem bytes_inj {x y:ByteArray} (h:x.toList = y.toList):x = y:=by
 rw [Lib.toList_data,Lib.toList_data] at h
 cases x with
 | mk a=>cases y with
  | mk b=>exact congrArg ByteArray.mk (Array.toList_inj.1 h)
theorem ltS_irr (x:ByteArray):ltS x x = false:=bl_irr _
theorem ltS_tri {x y:ByteArray} (h:ltS x y = false) (k:ltS y x = false):x = y:=bytes_inj (bl_tri _ _ h k)
theorem ltS_trans {x y z:ByteArray} (h:ltS x y = true) (k:ltS y z = true):ltS x z = true:=bl_trans _ _ _ h k
def Qci (l:List ByteArray) (x:ByteArray):Nat:=(l.takeWhile fun y=>ltS y x).length
theorem spotN_le (l:List ByteArray) (x:ByteArray):Qci l x ≤ l.length:=by
 unfold Qci
 exact (List.takeWhile_prefix _).length_le
def addN (l:List ByteArray) (x:ByteArray):List ByteArray:=if l[Qci l x]? = some x then l else l.take (Qci l x) ++ x :: l.drop (Qci l x)
def Asc (l:List ByteArray):Prop:=l.Pairwise fun a b=>ltS a b = true
theorem spotN_cons (a:ByteArray) (r:List ByteArray) (x:ByteArray):Qci (a :: r) x = if ltS a x = true then Qci r x + 1 else 0:=by
 unfold Qci
 rw [List.takeWhile_cons]
 split <;> rfl
theorem spotN_low:(l:List ByteArray) → (x:ByteArray) → (t:Nat) → t < Qci l x → ∃ y,l[t]? = some y ∧ ltS y x = true
 | [],_,t,h=>by exact absurd h (Nat.not_lt_zero t)
 | a :: r,x,t,h=>by
  rw [spotN_cons] at h
  split at h
  ·rename_i ha
   match t,h with
   | 0,_=>exact ⟨a,rfl,ha⟩
   | t + 1,h=>exact spotN_low r x t (by omega)
  ·omega
theorem spotN_high:(l:List ByteArray) → (x:ByteArray) → Asc l → (t:Nat) → Qci l x ≤ t → (y:ByteArray) → l[t]? = some y → ltS y x = false
 | [],_,_,_,_,_,h=>by simp at h
 | a :: r,x,hl,t,ht,y,hy=>by
  rw [spotN_cons] at ht
  unfold Asc at hl
  rw [List.pairwise_cons] at hl
  split at ht
  ·match t,ht,hy with
   | t + 1,ht,hy=>exact spotN_high r x hl.2 t (by omega) y hy
  ·rename_i ha
   have ha:ltS a x = false:=by simpa using ha
   match t,hy with
   | 0,hy =>
    injection hy with hy
    subst hy
    exact ha
   | t + 1,hy =>
    cases hyx:ltS y x
    ·rfl
    ·have:=ltS_trans (hl.1 y (List.mem_of_getElem? hy)) hyx
     rw [ha] at this
     cases this
theorem addN_asc {l:List ByteArray} (x:ByteArray) (h:Asc l):Asc (addN l x):=by
 unfold addN
 split
 ·exact h
 ·rename_i hn
  have h':=h
  unfold Asc at h' ⊢
  rw [List.pairwise_append,List.pairwise_cons]
  have hlow:∀ a ∈ l.take (Qci l x),ltS a x = true:=fun a ha=>by
   obtain ⟨t,ht⟩:=List.mem_iff_getElem?.1 ha
   have hlt:=(List.getElem?_eq_some_iff.1 ht).1
   rw [List.length_take] at hlt
   rw [List.getElem?_take_of_lt (by omega)] at ht
   obtain ⟨y,hy,hyx⟩:=spotN_low l x t (by omega)
   rw [ht] at hy
   injection hy with hy
   subst hy
   exact hyx
  have hhigh:∀ b ∈ l.drop (Qci l x),ltS x b = true:=fun b hb=>by
   obtain ⟨t,ht⟩:=List.mem_iff_getElem?.1 hb
   rw [List.getElem?_drop] at ht
   cases hxb:ltS x b
   ·exfalso
    have e:=ltS_tri hxb (spotN_high l x h _ (Nat.le_add_right _ _) b ht)
    subst e
    match t,ht with
    | 0,ht=>exact hn ht
    | t + 1,ht =>
     have hlt:=(List.getElem?_eq_some_iff.1 ht).1
     obtain ⟨y,hy⟩:∃ y,l[Qci l x]? = some y:=⟨_,xF (by omega)⟩
     have h1:=spotN_high l x h _ (xA _) y hy
     have h2:=List.pairwise_iff_getElem.1 h' (Qci l x) (Qci l x + (t + 1)) (by omega) (by omega) (by omega)
     rw [(List.getElem?_eq_some_iff.1 hy).2,(List.getElem?_eq_some_iff.1 ht).2] at h2
     rw [h1] at h2
     cases h2
   ·rfl
  exact ⟨h'.sublist (List.take_sublist _ _),⟨hhigh,h'.sublist (List.drop_sublist _ _)⟩,fun a ha b hb=>by
   rcases List.mem_cons.1 hb with rfl | hb
   ·exact hlow a ha
   ·exact ltS_trans (hlow a ha) (hhigh b hb)⟩
theorem bs_spot {l:List ByteArray} (x:ByteArray) (h:Asc l) (S:Nat → ByteArray) (hS:∀ j,j < l.length → l[j]? = some (S j)) (hS':∀ j,l.length ≤ j → ltS (S j) x = false):Lib.bsGo (fun t=>Op.bytesLess (S t).toList x.toList) l.length 0 l.length = Qci l x:=by
 refine Lib.bsGo_spec _ _ (fun t ht=>?_) (fun t ht=>?_) _ _ _ (by omega) (Nat.zero_le _) (spotN_le l x)
 ·obtain ⟨y,hy,hyx⟩:=spotN_low l x t ht
  rw [hS t (by have:=spotN_le l x;omega)] at hy
  injection hy with hy
  rw [← hy] at hyx
  exact hyx
 ·by_cases hl:t < l.length
  ·exact spotN_high l x h t ht _ (hS t hl)
  ·exact hS' t (by omega)
def namesN (l:List ByteArray):List ByteArray:=l.foldl addN []
theorem namesN_snoc (l:List ByteArray) (x:ByteArray):namesN (l ++ [x]) = addN (namesN l) x:=by
 unfold namesN
 rw [List.foldl_append]
 rfl
theorem foldN_asc:(l m:List ByteArray) → Asc m → Asc (l.foldl addN m)
 | [],_,h=>h
 | a :: r,_,h=>foldN_asc r _ (addN_asc a h)
theorem namesN_asc (l:List ByteArray):Asc (namesN l):=foldN_asc l [] List.Pairwise.nil
theorem addN_len (l:List ByteArray) (x:ByteArray):(addN l x).length ≤ l.length + 1:=by
 unfold addN
 split
 ·omega
 ·rw [xB,xD,List.length_take,List.length_drop]
  omega
theorem namesN_len (l:List ByteArray):(namesN l).length ≤ l.length:=by
 have h:∀ (l m:List ByteArray),(l.foldl addN m).length ≤ m.length + l.length:=by
  intro l
  induction l with
  | nil=>intro m;simp
  | cons a r ih =>
   intro m
   rw [List.foldl_cons,xD]
   have h1:=ih (addN m a)
   have h2:=addN_len m a
   omega
 have:=h l []
 unfold namesN
 simpa using this
end Go.Proofs.Ytjidpkcjpgdafaa
