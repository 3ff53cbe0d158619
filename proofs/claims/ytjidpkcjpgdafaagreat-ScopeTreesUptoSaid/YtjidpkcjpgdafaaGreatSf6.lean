/- Part 6 -/
import Derived.Test.YtjidpkcjpgdafaaGreatSf1
import Derived.Shelf.Spec.SearchS
set_option maxRecDepth 100000
set_option maxHeartbeats 4000000
namespace Go.Proofs.YtjidpkcjpgdafaaGreat
open Go.RowKit
theorem Qxi:(x:List UInt8)→Op.bytesLess x x=false
 | []=>rfl
 | a :: r=>by
  rw [Op.bytesLess,Qxi r]
  simp
theorem Qxj:(x y:List UInt8)→Op.bytesLess x y=false→Op.bytesLess y x=false→x=y
 | [],[],_,_=>rfl
 | [],b :: s,h,_=>by rw [Op.bytesLess] at h;cases h
 | a :: r,[],_,h=>by rw [Op.bytesLess] at h;cases h
 | a :: r,b :: s,h,k=>by
  rw [Op.bytesLess] at h k
  simp only [Bool.or_eq_false_iff,decide_eq_false_iff_not,Bool.and_eq_false_imp,beq_iff_eq] at h k
  have hab:a=b:=by
   have h1:=h.1
   have h2:=k.1
   rw [UInt8.lt_iff_toNat_lt] at h1 h2
   exact UInt8.toNat_inj.1 (by omega)
  subst hab
  rw [Qxj r s (h.2 rfl) (k.2 rfl)]
theorem Qql:(x y z:List UInt8)→Op.bytesLess x y=true→Op.bytesLess y z=true→Op.bytesLess x z=true
 | _,[],_,h,_=>by unfold Op.bytesLess at h;cases h
 | _,_ :: _,[],_,h=>by unfold Op.bytesLess at h;cases h
 | [],_ :: _,_ :: _,_,_=>rfl
 | a :: r,b :: s,c :: t,h,k=>by
  rw [Op.bytesLess] at h k ⊢
  simp only [Bool.or_eq_true,decide_eq_true_eq,Bool.and_eq_true,beq_iff_eq,UInt8.lt_iff_toNat_lt] at h k ⊢
  rcases h with h|⟨rfl,h⟩
  ·rcases k with k|⟨rfl,k⟩
   ·exact .inl (by omega)
   ·exact .inl h
  ·rcases k with k|⟨rfl,k⟩
   ·exact .inl k
   ·exact .inr ⟨rfl,Qql r s t h k⟩
def ltS (x y:ByteArray):Bool:=Op.bytesLess x.toList y.toList
theorem Qkn {x y:ByteArray} (h:x.toList=y.toList):x=y:=by
 rw [Lib.toList_data,Lib.toList_data] at h
 cases x with
 | mk a=>cases y with
  | mk b=>exact congrArg ByteArray.mk (Array.toList_inj.1 h)
theorem Qmt (x:ByteArray):ltS x x=false:=Qxi _
theorem Qym {x y:ByteArray} (h:ltS x y=false) (k:ltS y x=false):x=y:=Qkn (Qxj _ _ h k)
theorem Qko {x y z:ByteArray} (h:ltS x y=true) (k:ltS y z=true):ltS x z=true:=Qql _ _ _ h k
theorem Qzv {x y:ByteArray} (h:ltS x y=true):ltS y x=false:=by
 cases hy:ltS y x
 ·rfl
 ·have:=Qko h hy
  rw [Qmt] at this
  cases this
def Qdk (l:List ByteArray) (x:ByteArray):Nat:=(l.takeWhile fun y=>ltS y x).length
theorem Qjt (l:List ByteArray) (x:ByteArray):Qdk l x≤l.length:=by
 unfold Qdk
 exact (List.takeWhile_prefix _).length_le
def Qju (l:List ByteArray) (x:ByteArray):List ByteArray:=if l[Qdk l x]? = some x then l else l.take (Qdk l x) ++ x :: l.drop (Qdk l x)
def Asc (l:List ByteArray):Prop:=l.Pairwise fun a b=>ltS a b=true
theorem Qiu (a:ByteArray) (r:List ByteArray) (x:ByteArray):Qdk (a :: r) x=if ltS a x=true then Qdk r x+1 else 0:=by
 unfold Qdk
 rw [List.takeWhile_cons]
 split <;> rfl
theorem Qic:(l:List ByteArray)→(x:ByteArray)→(t:Nat)→t<Qdk l x→∃ y,l[t]? = some y∧ltS y x=true
 | [],_,t,h=>by exact absurd h (Nat.not_lt_zero t)
 | a :: r,x,t,h=>by
  rw [Qiu] at h
  split at h
  ·rename_i ha
   match t,h with
   | 0,_=>exact ⟨a,rfl,ha⟩
   | t+1,h=>exact Qic r x t (by omega)
  ·omega
theorem Qg3:(l:List ByteArray)→(x:ByteArray)→Asc l→(t:Nat)→Qdk l x≤t→(y:ByteArray)→l[t]? = some y→ltS y x=false
 | [],_,_,_,_,_,h=>by simp at h
 | a :: r,x,hl,t,ht,y,hy=>by
  rw [Qiu] at ht
  unfold Asc at hl
  rw [List.pairwise_cons] at hl
  split at ht
  ·match t,ht,hy with
   | t+1,ht,hy=>exact Qg3 r x hl.2 t (by omega) y hy
  ·rename_i ha
   have ha:ltS a x=false:=by simpa using ha
   match t,hy with
   | 0,hy =>
    injection hy with hy
    subst hy
    exact ha
   | t+1,hy =>
    cases hyx:ltS y x
    ·rfl
    ·have:=Qko (hl.1 y (yA hy)) hyx
     rw [ha] at this
     cases this
theorem Qwb (l:List ByteArray) (x y:ByteArray):y∈Qju l x ↔ y∈l∨y=x:=by
 unfold Qju
 split
 ·rename_i h
  exact ⟨.inl,fun k=>k.elim id fun e=>e ▸ yA h⟩
 ·rw [List.mem_append,List.mem_cons]
  constructor
  ·rintro (h | h | h)
   ·exact .inl (List.mem_of_mem_take h)
   ·exact .inr h
   ·exact .inl (List.mem_of_mem_drop h)
  ·rintro (h | h)
   ·rw [←List.take_append_drop (Qdk l x) l,List.mem_append] at h
    exact h.elim .inl fun h=>.inr (.inr h)
   ·exact .inr (.inl h)
theorem Qwc {l:List ByteArray} (x:ByteArray) (h:Asc l):Asc (Qju l x):=by
 unfold Qju
 split
 ·exact h
 ·rename_i hn
  have h':=h
  unfold Asc at h' ⊢
  rw [List.pairwise_append,List.pairwise_cons]
  have hlow:∀ a∈l.take (Qdk l x),ltS a x=true:=fun a ha=>by
   obtain ⟨t,ht⟩:=List.mem_iff_getElem?.1 ha
   have hlt:=(xP.1 ht).1
   rw [List.length_take] at hlt
   rw [List.getElem?_take_of_lt (by omega)] at ht
   obtain ⟨y,hy,hyx⟩:=Qic l x t (by omega)
   rw [ht] at hy
   injection hy with hy
   subst hy
   exact hyx
  have hhigh:∀ b∈l.drop (Qdk l x),ltS x b=true:=fun b hb=>by
   obtain ⟨t,ht⟩:=List.mem_iff_getElem?.1 hb
   rw [List.getElem?_drop] at ht
   cases hxb:ltS x b
   ·exfalso
    have e:=Qym hxb (Qg3 l x h _ (Nat.le_add_right _ _) b ht)
    subst e
    match t,ht with
    | 0,ht=>exact hn ht
    | t+1,ht =>
     have hlt:=(xP.1 ht).1
     obtain ⟨y,hy⟩:∃ y,l[Qdk l x]? = some y:=⟨_,xF (by omega)⟩
     have h1:=Qg3 l x h _ (xA _) y hy
     have h2:=List.pairwise_iff_getElem.1 h' (Qdk l x) (Qdk l x+(t+1)) (by omega) (by omega) (by omega)
     rw [(xP.1 hy).2,(xP.1 ht).2] at h2
     rw [h1] at h2
     cases h2
   ·rfl
  exact ⟨h'.sublist (List.take_sublist _ _),⟨hhigh,h'.sublist (List.drop_sublist _ _)⟩,fun a ha b hb=>by
   rcases List.mem_cons.1 hb with rfl | hb
   ·exact hlow a ha
   ·exact Qko (hlow a ha) (hhigh b hb)⟩
theorem Qyn {l:List ByteArray} (x:ByteArray) (h:Asc l) (S:Nat→ByteArray) (hS:∀ j,j<l.length→l[j]? = some (S j)) (hS':∀ j,l.length≤j→ltS (S j) x=false):Lib.bsGo (fun t=>Op.bytesLess (S t).toList x.toList) l.length 0 l.length=Qdk l x:=by
 refine Lib.bsGo_spec _ _ (fun t ht=>?_) (fun t ht=>?_) _ _ _ (by omega) (xZ _) (Qjt l x)
 ·obtain ⟨y,hy,hyx⟩:=Qic l x t ht
  rw [hS t (by have:=Qjt l x;omega)] at hy
  injection hy with hy
  rw [←hy] at hyx
  exact hyx
 ·by_cases hl:t<l.length
  ·exact Qg3 l x h t ht _ (hS t hl)
  ·exact hS' t (by omega)
theorem Qua:(l m:List ByteArray)→Asc l→Asc m→(∀ x,x∈l ↔ x∈m)→l=m
 | [],[],_,_,_=>rfl
 | [],b :: s,_,_,h=>by have:=(h b).2 (List.mem_cons_self ..);simp at this
 | a :: r,[],_,_,h=>by have:=(h a).1 (List.mem_cons_self ..);simp at this
 | a :: r,b :: s,hl,hm,h=>by
  unfold Asc at hl hm
  rw [List.pairwise_cons] at hl hm
  have hab:a=b:=by
   rcases List.mem_cons.1 ((h a).1 (List.mem_cons_self ..)) with e | e
   ·exact e
   ·rcases List.mem_cons.1 ((h b).2 (List.mem_cons_self ..)) with k | k
    ·exact k.symm
    ·have h1:=hm.1 a e
     have h2:=Qzv (hl.1 b k)
     rw [h1] at h2
     cases h2
  subst hab
  rw [Qua r s hl.2 hm.2 fun x=>⟨fun hx=>?_,fun hx=>?_⟩]
  ·rcases List.mem_cons.1 ((h x).1 (List.mem_cons_of_mem _ hx)) with e | e
   ·subst e
    have:=hl.1 x hx
    rw [Qmt] at this
    cases this
   ·exact e
  ·rcases List.mem_cons.1 ((h x).2 (List.mem_cons_of_mem _ hx)) with e | e
   ·subst e
    have:=hm.1 x hx
    rw [Qmt] at this
    cases this
   ·exact e
def Qeq (l:List ByteArray):List ByteArray:=l.foldl Qju []
theorem Qkp (l:List ByteArray) (x:ByteArray):Qeq (l ++ [x])=Qju (Qeq l) x:=by
 unfold Qeq
 rw [List.foldl_append]
 rfl
theorem Qnt (x:ByteArray):(l m:List ByteArray)→(x∈l.foldl Qju m ↔ x∈m∨x∈l)
 | [],m=>by simp
 | a :: r,m=>by
  rw [List.foldl_cons,Qnt x r,Qwb,List.mem_cons,or_assoc]
theorem Qlu (l:List ByteArray) (x:ByteArray):x∈Qeq l ↔ x∈l:=by
 unfold Qeq
 rw [Qnt]
 simp
theorem Qnu:(l m:List ByteArray)→Asc m→Asc (l.foldl Qju m)
 | [],_,h=>h
 | a :: r,_,h=>Qnu r _ (Qwc a h)
theorem Qiv (l:List ByteArray):Asc (Qeq l):=Qnu l [] List.Pairwise.nil
theorem Qwd (l:List ByteArray) (x:ByteArray):(Qju l x).length≤l.length+1:=by
 unfold Qju
 split
 ·omega
 ·rw [xB,xD,List.length_take,List.length_drop]
  omega
theorem Qiw (l:List ByteArray):(Qeq l).length≤l.length:=by
 have h:∀ (l m:List ByteArray),(l.foldl Qju m).length≤m.length+l.length:=by
  intro l
  induction l with
  | nil=>intro m;simp
  | cons a r ih =>
   intro m
   rw [List.foldl_cons,xD]
   have h1:=ih (Qju m a)
   have h2:=Qwd m a
   omega
 have:=h l []
 unfold Qeq
 simpa using this
end Go.Proofs.YtjidpkcjpgdafaaGreat
