/- Part 36: What a walk of variables hands on in memory: the list, the path and the stack, each behind its own length. What a walk of variables hands on, step by step: a longer path, a longer stack. The contract of variables: the variables of a tree behind a list. The contract of variables, at any tree. -/
import Derived.Test.YtclkilljmdkfaaaTy1
import Derived.Test.YtclkilljmdkfaaaTy30
set_option maxRecDepth 100000
set_option maxHeartbeats 4000000
namespace Go.Proofs.Ytclkilljmdkfaaa
open Go.RowKit Go.Shelf
def names (lv:Value) (a:Nat) (pv:Value) (b:Nat) (sv:Value) (c:Nat):Nat → Option Nat:=fun k=>if lv.ownBlock = some k then some a else if pv.ownBlock = some k then some b else if sv.ownBlock = some k then some c else none
def Apart (v v':Value):Prop:=∀ g,v.ownBlock = some g → v'.ownBlock ≠ some g
theorem rows_apart {w:World} {B B':Nat} {e e':TypeId} {s s':Nat} {v v':Value} {n n':Nat} {xs xs':List Value} (h:w.ownsRow B e s v n xs) (h':w.ownsRow B' e' s' v' n' xs') (hne:e ≠ e'):Apart v v':=fun g hg hg'=>by
 rcases h.2 with ⟨rfl,_⟩ | ⟨a,cap,cur,rfl,_,hh,_⟩
 ·cases hg
 ·rcases h'.2 with ⟨rfl,_⟩ | ⟨a',cap',cur',rfl,_,hh',_⟩
  ·cases hg'
  ·injection hg with hg
   injection hg' with hg'
   have e1:a = g:=hg
   have e2:a' = g:=hg'
   subst e1 e2
   rw [hh] at hh'
   injection hh' with hh'
   injection hh' with _ h2
   exact hne h2
theorem names_l {lv pv sv:Value} {a b c k:Nat} (h:lv.ownBlock = some k):names lv a pv b sv c k = some a:=if_pos h
theorem names_p {lv pv sv:Value} {a b c k:Nat} (h:pv.ownBlock = some k) (hd:Apart lv pv):names lv a pv b sv c k = some b:=by
 unfold names
 rw [if_neg (fun e=>hd k e h),if_pos h]
theorem names_s {lv pv sv:Value} {a b c k:Nat} (h:sv.ownBlock = some k) (hd:Apart lv sv) (hd':Apart pv sv):names lv a pv b sv c k = some c:=by
 unfold names
 rw [if_neg (fun e=>hd k e h),if_neg (fun e=>hd' k e h),if_pos h]
theorem Qee {lv pv sv:Value} {a b c k:Nat} (h1:lv.ownBlock ≠ some k) (h2:pv.ownBlock ≠ some k) (h3:sv.ownBlock ≠ some k):names lv a pv b sv c k = none:=by
 unfold names
 rw [if_neg h1,if_neg h2,if_neg h3]
theorem asks_names {w:World} {lv lv' pv pv' sv sv':Value} {a a' b b' c c':Nat} (hl:Later w lv lv') (hp:Later w pv pv') (hs:Later w sv sv') (ha:a ≤ a') (hb:b ≤ b') (hc:c ≤ c')
  (d1:Apart lv pv) (d2:Apart lv sv) (d3:Apart pv sv):AsksMore w.heap.size (names lv a pv b sv c) (names lv' a' pv' b' sv' c'):=fun k hk=>by
 by_cases h1:lv'.ownBlock = some k
 ·rcases hl k h1 with h | h
  ·exact .inr ⟨a,a',names_l h,names_l h1,ha⟩
  ·omega
 ·by_cases h2:pv'.ownBlock = some k
  ·rcases hp k h2 with h | h
   ·exact .inr ⟨b,b',names_p h d1,by unfold names;rw [if_neg h1,if_pos h2],hb⟩
   ·omega
  ·by_cases h3:sv'.ownBlock = some k
   ·rcases hs k h3 with h | h
    ·exact .inr ⟨c,c',names_s h d2 d3,by unfold names;rw [if_neg h1,if_neg h2,if_pos h3],hc⟩
    ·omega
   ·exact .inl (Qee h1 h2 h3)
theorem Later.refl (w:World) (v:Value):Later w v v:=fun _ h=>.inl h
theorem Later.trans {w w':World} {a b c:Value} (h:Later w a b) (h':Later w' b c) (hs:w.heap.size ≤ w'.heap.size):Later w a c:=fun g hg=>by
 rcases h' g hg with h1 | h1
 ·exact h g h1
 ·exact .inr (Nat.le_trans hs h1)
theorem asks_p {lv pv sv:Value} {a b c N:Nat} (d1:Apart lv pv):AsksMore N (names lv a pv b sv c) (pre pv b):=fun k _=>by
 by_cases h:pv.ownBlock = some k
 ·exact .inr ⟨b,b,names_p h d1,pre_self h,xA _⟩
 ·exact .inl (Qbr h)
theorem asks_l {lv pv sv:Value} {a b c N:Nat}:AsksMore N (names lv a pv b sv c) (pre lv a):=fun k _=>by
 by_cases h:lv.ownBlock = some k
 ·exact .inr ⟨a,a,names_l h,pre_self h,xA _⟩
 ·exact .inl (Qbr h)
section
variable {B:Nat} {w w':World} {lv pv sv:Value} {ws:List (Value × Value × Bool)} {p:List Int} {us:List (ByteArray × Value)}
theorem asks_refl (N:Nat) (P:Nat → Option Nat):AsksMore N P P:=fun k _=>by
 cases h:P k with
 | none=>exact .inl rfl
 | some n=>exact .inr ⟨n,n,rfl,rfl,xA _⟩
end
theorem Qe0 {w:World} {B:Nat} {e:TypeId} {s:Nat} {v:Value} {n:Nat} {xs:List Value} (h:w.ownsRow B e s v n xs):∃ A c,v = .slice A n c:=by
 rcases h.2 with ⟨rfl,rfl⟩ | ⟨g,cap,cur,rfl,_⟩
 ·exact ⟨_,_,rfl⟩
 ·exact ⟨_,_,rfl⟩
theorem Qcy (w:World) (o:Obj):Below w.heap.size w (w.alloc o):=(xC w.heap.size w).alloc (xA _) o
theorem later_some {w:World} {v:Value} {g n c:Nat} (h:v.ownBlock = some g ∨ w.heap.size ≤ g):Later w v (.slice (some ⟨g,0,none⟩) n c):=fun k hk=>by
 injection hk with hk
 have e:g = k:=hk
 subst e
 exact h
theorem IRow.intsAt {w:World} {B n c:Nat} {A:Option Addr} {p:List Int} (h:IRow w B (.slice A n c) p):IntsAt w A p:=h.ints.2
theorem IRow.app {w:World} {B:Nat} {v:Value} {p:List Int} {P:Nat → Option Nat} {w':World} (h:IRow w B v p) (hk:Keeps P w w') (hp:∀ g,B ≤ g → g < w.heap.size → P g = none):IRow w' B v p :=
 hk.row h fun g hg=>.inl (hp g (h.lt g hg).1 (h.lt g hg).2)
theorem size_nth:(l:List Tr) → (j:Nat) → (k:Tr) → l[j]? = some k → Qao k + l.length ≤ Qah l + 1
 | [],_,_,h=>by simp at h
 | a :: r,0,k,h=>by
  injection h with h
  subst h
  have:=Qas r
  rw [Qah,xD]
  omega
 | a :: r,j + 1,k,h=>by
  have ih:=size_nth r j k h
  have:=Qbd a
  rw [Qah,xD]
  omega
theorem kid_size2 {t k:Tr} {j:Nat} (h:t.kids[j]? = some k):Qao k + t.kids.length ≤ Qao t:=by
 have h1:=size_nth _ _ _ h
 have h2:=Qbd t
 omega
theorem irow_snoc {w:World} {B:Nat} {v:Value} {p:List Int} {q:Int} (h:w.ownsRow B 3 1 v (p.length + 1) (p.map (Value.int .i64) ++ [.int .i64 q])):IRow w B v (p ++ [q]):=by
 unfold IRow
 rw [xB,List.length_singleton,List.map_append]
 exact h
theorem Qef {w:World} {B:Nat} {e:TypeId} {s:Nat} {v:Value} {n:Nat} {xs:List Value} (h:w.ownsRow B e s v n xs) {g:Nat} {cur:Array Value} {ty:TypeId} {fr:Nat × Nat} (hg:w.heap[g]? = some (.cells cur ty fr)) (ht:ty ≠ e):v.ownBlock ≠ some g:=fun k=>by
 rcases h.2 with ⟨rfl,_⟩ | ⟨g',cap,cur',rfl,_,hh,_⟩
 ·cases k
 ·injection k with k
  have k':g' = g:=k
  subst k'
  rw [hg] at hh
  injection hh with hh
  injection hh with _ h2
  exact ht h2
theorem irow_block {w:World} {B:Nat} {v:Value} {p:List Int} {g:Nat} (h:IRow w B v p) (hg:v.ownBlock = some g):∃ cur,w.heap[g]? = some (.cells cur 3 (0,0)):=by
 rcases h.2 with ⟨rfl,_⟩ | ⟨g',cap,cur,rfl,_,hh,_⟩
 ·cases hg
 ·injection hg with hg
  have e:g' = g:=hg
  subst e
  exact ⟨cur,hh⟩
end Go.Proofs.Ytclkilljmdkfaaa
