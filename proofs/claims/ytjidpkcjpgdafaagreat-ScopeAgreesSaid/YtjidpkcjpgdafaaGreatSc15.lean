/- Part 15: The contracts of within and plain functions: which trees have the right shape. Plain facts: no list in a tree that the parser makes is too long; its state at the beginning. -/
import Derived.Test.YtjidpkcjpgdafaaGreatSc8
import Derived.Test.YtjidpkcjpgdafaaGreatSc12
import Derived.Test.YtjidpkcjpgdafaaGreatSc13
import Derived.Test.YtjidpkcjpgdafaaGreatSc14
import Derived.Test.YtjidpkcjpgdafaaGreatSc1
import Derived.Deep.LoopGhost
set_option maxRecDepth 100000
set_option maxHeartbeats 4000000
namespace Go.Proofs.YtjidpkcjpgdafaaGreat
open Go.RowKit
theorem TrAt.keep {S:Nat → Prop} {w w':World} {t:Tr} {v:TV} (h:TrAt S w t v) (hb:Below w.heap.size w w'):TrAt S w' t v:=TrAt.move (fun _ h=>h) (fun k _ hlt=>hb.block k hlt) t v h
theorem TrAt.kid {S:Nat → Prop} {w:World} {t:Tr} {v:TV} (h:TrAt S w t v) {j:Nat} {k:Tr} (hk:t.kids[j]? = some k) :
  v.kl = t.kids.length ∧ ∃ b off,v.ka = some ⟨b,off,none⟩ ∧ S b ∧ ∃ u:TV,w.cell? ⟨b,off + j * 4,none⟩ = some (.int .i64 u.kind) ∧ w.cell? ⟨b,off + j * 4 + 1,none⟩ = some (.string u.text) ∧ w.cell? ⟨b,off + j * 4 + 2,none⟩ = some (.slice u.la u.ll u.lc) ∧ w.cell? ⟨b,off + j * 4 + 3,none⟩ = some (.slice u.ka u.kl u.kc) ∧ TrAt S w k u:=by
 cases t with
 | mk kd tx ls ks =>
  unfold TrAt at h
  obtain ⟨_,_,_,h4,_,h6,_⟩:=h
  obtain ⟨b,off,hA,hb,hc⟩:=h6 (by intro e;rw [show (Tr.mk kd tx ls ks).kids = ks from rfl,e] at hk;simp at hk)
  exact ⟨h4,b,off,hA,hb,TrsAt.get ks off hc j k hk⟩
theorem TrAt.addr {S:Nat → Prop} {w:World} {t:Tr} {v:TV} (h:TrAt S w t v):t.kids.length = 0 ∨ ∃ b off,v.ka = some ⟨b,off,none⟩:=by
 cases t with
 | mk kd tx ls ks =>
  unfold TrAt at h
  cases ks with
  | nil=>exact .inl rfl
  | cons a r =>
   obtain ⟨b,off,hA,_⟩:=h.2.2.2.2.2.1 (by simp)
   exact .inr ⟨b,off,hA⟩
theorem TrAt.at {S:Nat → Prop} {w:World} {t:Tr} {v:TV} {b off:Nat} (h:TrAt S w t v) (hA:v.ka = some ⟨b,off,none⟩) {j:Nat} {k:Tr} (hk:t.kids[j]? = some k) :
  ∃ u:TV,w.cell? ⟨b,off + j * 4,none⟩ = some (.int .i64 u.kind) ∧ w.cell? ⟨b,off + j * 4 + 1,none⟩ = some (.string u.text) ∧ w.cell? ⟨b,off + j * 4 + 2,none⟩ = some (.slice u.la u.ll u.lc) ∧ w.cell? ⟨b,off + j * 4 + 3,none⟩ = some (.slice u.ka u.kl u.kc) ∧ TrAt S w k u:=by
 obtain ⟨_,b',off',hA',_,u,hu⟩:=h.kid hk
 rw [hA] at hA'
 injection hA' with e
 injection e with e1 e2 _
 subst e1 e2
 exact ⟨u,hu⟩
theorem TrAt.kl {S:Nat → Prop} {w:World} {t:Tr} {v:TV} (h:TrAt S w t v):v.kl = t.kids.length ∧ v.ll = t.leads.length ∧ v.kind = t.kind ∧ v.text = t.text:=by
 cases t with
 | mk kd tx ls ks =>
  unfold TrAt at h
  exact ⟨h.2.2.2.1,h.2.2.1,h.1,h.2.1⟩
theorem TrAt.caps {S:Nat → Prop} {w:World} {t:Tr} {v:TV} (h:TrAt S w t v):v.ll ≤ v.lc ∧ v.kl ≤ v.kc:=by
 cases t with
 | mk kd tx ls ks =>
  unfold TrAt at h
  exact h.2.2.2.2.2.2
theorem withinT_step (t:Tr) (n:Nat):Qde t (n + 1) = Qe0 t.kids n:=by
 cases t with
 | mk kd tx ls ks=>rw [Qde];rfl
theorem withinT_zero (t:Tr):Qde t 0 = false:=by
 cases t with
 | mk kd tx ls ks=>rw [Qde]
theorem withinL_at (l:List Tr) (n j:Nat) (k:Tr) (hk:l[j]? = some k):Qe0 (l.drop j) n = (Qde k n && Qe0 (l.drop (j + 1)) n):=by
 obtain ⟨hj,he⟩:=List.getElem?_eq_some_iff.1 hk
 rw [List.drop_eq_getElem_cons hj,he,Qe0]
theorem withinL_end (l:List Tr) (n j:Nat) (h:l.length ≤ j):Qe0 (l.drop j) n = true:=by
 rw [List.drop_eq_nil_of_le h,Qe0]
mutual
def Qcm:Tr → Bool
 | .mk _ _ ls ks=>decide (ls.length ≤ 140737488355328) && decide (ks.length ≤ 140737488355328) && Qdp ks
def Qdp:List Tr → Bool
 | []=>true
 | t :: r=>Qcm t && Qdp r
end
theorem smallL_get:(l:List Tr) → (j:Nat) → (k:Tr) → Qdp l = true → l[j]? = some k → Qcm k = true
 | [],j,k,_,h=>by simp at h
 | a :: r,j,k,hs,h=>by
  unfold Qdp at hs
  rw [Bool.and_eq_true] at hs
  cases j with
  | zero=>simp at h;subst h;exact hs.1
  | succ j=>exact smallL_get r j k hs.2 (by simpa using h)
theorem Qfb {t:Tr} (h:Qcm t = true):t.leads.length ≤ 140737488355328 ∧ t.kids.length ≤ 140737488355328 ∧ ∀ (j:Nat) (k:Tr),t.kids[j]? = some k → Qcm k = true:=by
 cases t with
 | mk kd tx ls ks =>
  unfold Qcm at h
  simp only [Bool.and_eq_true,decide_eq_true_eq] at h
  exact ⟨h.1.1,h.1.2,fun j k hk=>smallL_get ks j k h.2 hk⟩
theorem within_syn (n:Nat):∀ (S:Nat → Prop) (t:Tr) (v:TV) (w:World),n ≤ 60 → TrAt S w t v → Qcm t = true →
  Calls Tryz.prog 79 #[.agg #[.int .i64 v.kind,.string v.text,.slice v.la v.ll v.lc,.slice v.ka v.kl v.kc],.int .i64 n] w fun e w'=>e = .returned (.bool (Qde t n)) ∧ Below w.heap.size w w':=by
 induction n with
 | zero =>
  intro S t v w _ _ _
  have HR:=hQ (withinT_zero t)
  go_enter Tryz.func79,Tryz.ntmps79
  go_wp2
  go_ret
  exact ⟨by rw [HR.out];rfl,(xC _ _).alloc (xA _) _⟩
 | succ n ih =>
  intro S t v w hn h hs
  obtain ⟨_,hk1,hk2⟩:=Qfb hs
  have HK2:=hQ hk2
  have HIH:=hQ ih
  have hkl:=h.kl.1
  have hadr:=h.addr
  obtain ⟨vk,vx,vla,vll,vlc,vka,vkl,vkc⟩:=v
  simp only at hkl hadr
  subst hkl
  have HN:=hQ (show n ≤ 60 from by omega)
  have hn0:((n:Int) + 1 == 0) = false:=Qck (by omega)
  have hn60:(n:Int) ≤ 60:=by omega
  have hnw:(n:Int) + 1 - 1 = (n:Int):=by omega
  have HT:=hQ h
  clear h hs hk2 ih hn
  rcases hadr with h0 | ⟨b,off,rfl⟩
  ·have HKL:=hQ h0
   clear h0
   go_enter Tryz.func79,Tryz.ntmps79
   go_wp2
   go_loopg [12] t.kids.length (fun g u12 wr=>∃ j:Nat,u12 = .int .i64 j ∧ j + g = t.kids.length ∧ Below w.heap.size w wr ∧ Qde t (n + 1) = Qe0 (t.kids.drop j) n)
   case atStart=>exact ⟨0,rfl,by omega,(xC _ _).alloc (xA _) _,withinT_step t n⟩
   case round =>
    obtain ⟨j,rfl,hj,hb,hw⟩:=hrel
    have HB:=hQ hb
    have HJ:=hQ hj
    have HW:=hQ hw
    clear hj hb hw
    have hlt:¬ j < t.kids.length:=by have:=HKL.out;omega
    have HR:=hQ (HW.out.trans (withinL_end t.kids n j (by omega)))
    go_wp2
    go_ret
    exact ⟨by rw [HR.out];rfl,HB.out⟩
  ·skip
   go_enter Tryz.func79,Tryz.ntmps79
   go_wp2
   go_loopg [12] t.kids.length (fun g u12 wr=>∃ j:Nat,u12 = .int .i64 j ∧ j + g = t.kids.length ∧ Below w.heap.size w wr ∧ Qde t (n + 1) = Qe0 (t.kids.drop j) n)
   case atStart=>exact ⟨0,rfl,by omega,(xC _ _).alloc (xA _) _,withinT_step t n⟩
   case round =>
    obtain ⟨j,rfl,hj,hb,hw⟩:=hrel
    have HB:=hQ hb
    have HJ:=hQ hj
    have HW:=hQ hw
    clear hj hb hw
    by_cases hlt:j < t.kids.length
    ·obtain ⟨k,hk⟩:∃ k,t.kids[j]? = some k:=⟨_,xF hlt⟩
     obtain ⟨u,c0,c1,c2,c3,hu⟩:=(HT.out.keep HB.out).at rfl hk
     have HU:=hQ hu
     have HSK:=hQ (HK2.out j k hk)
     have HLT:=hQ hlt
     have HAT:=hQ (HW.out.trans (withinL_at t.kids n j k hk))
     have hj0:(0:Int) ≤ (j:Int):=by omega
     have hj1:(j:Int) < (t.kids.length:Int):=by omega
     have hj2:(j:Int) + 1 ≤ 140737488355328:=by omega
     clear hk hu
     cases hwk:Qde k n
     ·have HR:=hQ (show Qde t (n + 1) = false from by rw [HAT.out,hwk];rfl)
      go_wp2_with (go_at_call 79;refine (HIH.out S k u _ HN.out (HU.out.keep ((xC _ _).alloc (xA _) _)) HSK.out).mono ?_;rintro e w2 ⟨rfl,hb2⟩;have HB2:=hQ ((HB.out.alloc HB.out.size (.cells #[.int .i64 u.kind,.string u.text,.slice u.la u.ll u.lc,.slice u.ka u.kl u.kc] 29)).trans (hb2.mono (by have:=HB.out.size;simp;omega)));clear hb2)
      go_ret
      exact ⟨by rw [HR.out];rfl,HB2.out⟩
     ·have HR:=hQ (show Qde t (n + 1) = Qe0 (t.kids.drop (j + 1)) n from by rw [HAT.out,hwk,Bool.true_and])
      go_wp2_with (go_at_call 79;refine (HIH.out S k u _ HN.out (HU.out.keep ((xC _ _).alloc (xA _) _)) HSK.out).mono ?_;rintro e w2 ⟨rfl,hb2⟩;have HB2:=hQ ((HB.out.alloc HB.out.size (.cells #[.int .i64 u.kind,.string u.text,.slice u.la u.ll u.lc,.slice u.ka u.kl u.kc] 29)).trans (hb2.mono (by have:=HB.out.size;simp;omega)));clear hb2)
      go_roundg (gk - 1)
      case measure=>have:=HJ.out;have:=HLT.out;omega
      case rel=>exact ⟨j + 1,by go_num,by have:=HJ.out;have:=HLT.out;omega,HB2.out,HR.out⟩
    ·have HR:=hQ (HW.out.trans (withinL_end t.kids n j (by omega)))
     go_wp2
     go_ret
     exact ⟨by rw [HR.out];rfl,HB.out⟩
end Go.Proofs.YtjidpkcjpgdafaaGreat
namespace Go.Proofs.YtjidpkcjpgdafaaGreat
def Qee:List Part → Int → List Int
 | [],_=>[]
 | x :: r,n=>List.replicate (Qbw x n).toNat x.kids ++ Qee r n
mutual
def Qao:Tr → Bool
 | .mk kd x _ ks=>(Qbz (Qae kd) ks.length).2 && Qbq (Qae kd) x && Qd6 ks (Qee (Qae kd) (Qbz (Qae kd) ks.length).1)
def Qd6:List Tr → List Int → Bool
 | [],_=>true
 | _ :: _,[]=>true
 | k :: r,s :: ss=>Qe8 s k.kind && Qao k && Qd6 r ss
end
theorem shapedT_eq (t:Tr):Qao t = ((Qbz (Qae t.kind) t.kids.length).2 && Qbq (Qae t.kind) t.text && Qd6 t.kids (Qee (Qae t.kind) (Qbz (Qae t.kind) t.kids.length).1)):=by
 cases t with
 | mk kd x ls ks=>rw [Qao];rfl
theorem shapedL_cons (k:Tr) (r:List Tr) (s:Int) (ss:List Int):Qd6 (k :: r) (s :: ss) = (Qe8 s k.kind && Qao k && Qd6 r ss):=by rw [Qd6]
theorem shapedL_nil (ss:List Int):Qd6 [] ss = true:=by rw [Qd6]
def onesP:List Part → Nat
 | []=>0
 | x :: r=>(if x.series then 0 else if x.kids ≠ 0 then 1 else 0) + onesP r
def Qf6:List Part → Nat
 | []=>0
 | x :: r=>(if x.series then 1 else 0) + Qf6 r
def sumP:List Part → Int → Int
 | [],_=>0
 | x :: r,n=>Qbw x n + sumP r n
theorem sumP_eq (l:List Part) (n:Int):sumP l n = onesP l + Qf6 l * n:=by
 induction l with
 | nil=>simp [sumP,onesP,Qf6]
 | cons x r ih =>
  rw [sumP,onesP,Qf6,ih]
  unfold Qbw
  cases hs:x.series
  ·by_cases hk:x.kids ≠ 0
   ·rw [if_neg (by decide),if_pos hk,if_neg (by decide),if_pos hk,if_neg (by decide),Nat.zero_add]
    omega
   ·rw [if_neg (by decide),if_neg hk,if_neg (by decide),if_neg hk,if_neg (by decide),Nat.zero_add,Nat.zero_add]
    omega
  ·rw [if_pos rfl,if_pos rfl,if_pos rfl]
   rw [show ((1 + Qf6 r:Nat):Int) = 1 + (Qf6 r:Int) from by omega,Int.add_mul,Int.one_mul]
   omega
theorem freeL_ones (l:List Part):∀ a b k,(Qdw l a b k).2.2 = k - onesP l:=by
 induction l with
 | nil=>intro a b k;simp [Qdw,onesP]
 | cons x r ih =>
  intro a b k
  rw [Qdw,onesP]
  cases hs:x.series
  ·by_cases hk:x.kids ≠ 0
   ·rw [if_neg (by decide),if_pos hk,ih,if_neg (by decide),if_pos hk]
    omega
   ·rw [if_neg (by decide),if_neg hk,ih,if_neg (by decide),if_neg hk]
    omega
  ·rw [if_pos rfl,ih,if_pos rfl]
   omega
theorem freeL_none (l:List Part) (h:Qf6 l = 0):∀ a b k,(Qdw l a b k).1 = a ∧ (Qdw l a b k).2.1 = b:=by
 induction l with
 | nil=>intro a b k;exact ⟨rfl,rfl⟩
 | cons x r ih =>
  intro a b k
  rw [Qf6] at h
  rw [Qdw]
  cases hs:x.series
  ·rw [hs] at h
   have hr:=ih (by simpa using h)
   by_cases hk:x.kids ≠ 0
   ·rw [if_neg (by decide),if_pos hk]
    exact hr _ _ _
   ·rw [if_neg (by decide),if_neg hk]
    exact hr _ _ _
  ·rw [hs] at h
   simp at h
theorem freeL_low (l:List Part) (hl:∀ x ∈ l,0 ≤ x.least):∀ a b k,0 ≤ a → 0 ≤ (Qdw l a b k).1:=by
 induction l with
 | nil=>intro a b k h;exact h
 | cons x r ih =>
  intro a b k h
  have hr:=ih (fun y hy=>hl y (List.mem_cons_of_mem _ hy))
  have hx:=hl x (List.mem_cons_self ..)
  rw [Qdw]
  split
  ·exact hr _ _ _ hx
  ·split
   ·exact hr _ _ _ h
   ·exact hr _ _ _ h
theorem partsP_fin2:∀ n:Fin 23,Qf6 (Qae ((n.val:Nat):Int)) ≤ 1 ∧ ∀ x ∈ Qae ((n.val:Nat):Int),0 ≤ x.least:=by decide
theorem partsP_ok2 (k:Int):Qf6 (Qae k) ≤ 1 ∧ ∀ x ∈ Qae k,0 ≤ x.least:=by
 by_cases h:k ≤ 0 ∨ 23 ≤ k
 ·rw [Qdn h]
  exact ⟨by decide,fun x hx=>by simp at hx⟩
 ·have:=partsP_fin2 ⟨k.toNat,by omega⟩
  rw [show (((⟨k.toNat,by omega⟩:Fin 23).val:Nat):Int) = k from by show ((k.toNat:Nat):Int) = k;omega] at this
  exact this
theorem free_sum {kd k:Int} (h:(Qbz (Qae kd) k).2 = true):0 ≤ (Qbz (Qae kd) k).1 ∧ sumP (Qae kd) (Qbz (Qae kd) k).1 = k:=by
 obtain ⟨_,hk0,hne⟩:=freeP_le _ _ h
 obtain ⟨hs,hl⟩:=partsP_ok2 kd
 have h0:=freeL_low _ hl 0 0 k (Int.le_refl _)
 have h1:=freeL_ones (Qae kd) 0 0 k
 have hf:Qbz (Qae kd) k = ((Qdw (Qae kd) 0 0 k).2.2,decide ((Qdw (Qae kd) 0 0 k).1 ≤ (Qdw (Qae kd) 0 0 k).2.2) && decide ((Qdw (Qae kd) 0 0 k).2.2 ≤ (Qdw (Qae kd) 0 0 k).2.1)):=by
  unfold Qbz
  rw [if_neg (by intro e;rcases e with e | e;exact hne e;omega)]
 rw [hf] at h ⊢
 simp only [Bool.and_eq_true,decide_eq_true_eq] at h
 rw [sumP_eq]
 show 0 ≤ (Qdw (Qae kd) 0 0 k).2.2 ∧ _ + _ * (Qdw (Qae kd) 0 0 k).2.2 = k
 refine ⟨by omega,?_⟩
 rcases Nat.le_one_iff_eq_zero_or_eq_one.1 hs with hz | hz
 ·obtain ⟨e1,e2⟩:=freeL_none _ hz 0 0 k
  rw [hz]
  rw [e1,e2] at h
  omega
 ·rw [hz,h1]
  omega
theorem sumP_nonneg (l:List Part) (n:Int) (hn:0 ≤ n):0 ≤ sumP l n:=by
 rw [sumP_eq]
 have:0 ≤ (Qf6 l:Int) * n:=Int.mul_nonneg (by omega) hn
 omega
theorem countP_nonneg (x:Part) (n:Int) (hn:0 ≤ n):0 ≤ Qbw x n:=by
 unfold Qbw
 split
 ·exact hn
 ·split <;> decide
theorem kid_size {t k:Tr} {j:Nat} (h:t.kids[j]? = some k):SizeOf.sizeOf k < SizeOf.sizeOf t:=by
 cases t with
 | mk kd x ls ks =>
  have:=List.sizeOf_lt_of_mem (List.mem_of_getElem? (show ks[j]? = some k from h))
  rw [Tr.mk.sizeOf_spec]
  omega
theorem Qfy:(a b:List Tr) → Qdp (a ++ b) = (Qdp a && Qdp b)
 | [],b=>by rw [List.nil_append,Qdp,Bool.true_and]
 | t :: r,b=>by rw [List.cons_append,Qdp,Qdp,Qfy r b,Bool.and_assoc]
theorem smallL_one (t:Tr) (h:Qcm t = true):Qdp [t] = true:=by rw [Qdp,h,Qdp];rfl
def SmallC (T:Int → PS → Option (Tr × PS)):Prop:=∀ s p t q,T s p = some (t,q) → Qcm t = true
theorem small_series {T:Int → PS → Option (Tr × PS)} (hT:SmallC T) {x:Part}:∀ (n:Nat) (more:Bool) (ks:List Tr) (cs:List ByteArray) (p:PS) (r:List Tr × List ByteArray × PS),Qc5 T x n more ks cs p = some r → Qdp ks = true → Qdp r.1 = true:=by
 intro n
 induction n with
 | zero =>
  intro more ks cs p r h hs
  cases more
  ·have:=Qfa h
   subst this
   exact hs
  ·unfold Qc5 at h
   cases h
 | succ n ih =>
  intro more ks cs p r h hs
  cases more
  ·have:=Qfa h
   subst this
   exact hs
  ·obtain ⟨t,q,ht,hw⟩:=Qg8 h
   have h1:Qdp (ks ++ [t]) = true:=by rw [Qfy,hs,smallL_one t (hT _ _ _ _ ht)];rfl
   rcases hw with ⟨_,_,hs'⟩ | ⟨_,_,hs'⟩ | ⟨_,hs'⟩
   ·exact ih _ _ _ _ _ hs' h1
   ·exact ih _ _ _ _ _ hs' h1
   ·exact ih _ _ _ _ _ hs' h1
theorem small_node {T:Int → PS → Option (Tr × PS)} (hT:SmallC T) {n:Nat} (hn:n ≤ 65536) {kind:Int}:∀ (l:List Part) (text:ByteArray) (leads:List ByteArray) (kids:List Tr) (commas:List ByteArray) (p:PS) (r:Tr × PS),Qf3 T n kind l text leads kids commas p = some r →
  leads.length + l.length ≤ 100 → kids.length + l.length * 65536 ≤ 1000000 → commas.length ≤ 65536 → Qdp kids = true → Qcm r.1 = true:=by
 intro l
 induction l with
 | nil =>
  intro text leads kids commas p r h h1 h2 h3 h4
  have:=nodeG_end h
  subst this
  rw [xG] at h1 h2
  unfold Qcm
  simp only [Bool.and_eq_true,decide_eq_true_eq,xB]
  exact ⟨⟨by omega,by omega⟩,h4⟩
 | cons x l ih =>
  intro text leads kids commas p r h h1 h2 h3 h4
  rw [xD] at h1 h2
  rcases nodeG_step h with ⟨_,s,hs,hg⟩ | ⟨_,_,t,q,ht,hg⟩ | ⟨_,_,hg⟩
  ·have hl:=seriesG_len _ _ _ _ _ _ hs
   simp only [xG] at hl
   refine ih _ _ _ _ _ _ hg (by omega) (by rw [xB];omega) (by omega) ?_
   rw [Qfy,h4,small_series hT _ _ _ _ _ _ hs (by rw [Qdp])]
   rfl
  ·refine ih _ _ _ _ _ _ hg (by omega) (by rw [xB,List.length_singleton];omega) h3 ?_
   rw [Qfy,h4,smallL_one t (hT _ _ _ _ ht)]
   rfl
  ·have key:∀ s:ByteArray × List ByteArray × PS,s.2.1.length ≤ leads.length + 1 → Qf3 T n kind l s.1 s.2.1 kids commas s.2.2 = some r → Qcm r.1 = true:=fun s h5 h6=>ih s.1 s.2.1 kids commas s.2.2 r h6 (Nat.le_trans (Nat.add_le_add_right h5 _) (by omega)) (Nat.le_trans (Nat.add_le_add_left (Nat.mul_le_mul_right 65536 (Nat.le_succ l.length)) kids.length) h2) h3 h4
   exact key _ (tokenP_len x text leads p) hg
theorem small_parts {T:Int → PS → Option (Tr × PS)} (hT:SmallC T) {n:Nat} (hn:n ≤ 65536) {kind:Int} {p:PS} {r:Tr × PS} (h:Qf3 T n kind (Qae kind) ⟨#[]⟩ [] [] [] p = some r):Qcm r.1 = true:=by
 have:=partsP_len kind
 have h1:([]:List ByteArray).length + (Qae kind).length ≤ 100:=by rw [xG];omega
 have h2:([]:List Tr).length + (Qae kind).length * 65536 ≤ 1000000:=by rw [xG];omega
 exact small_node hT hn (Qae kind) ⟨#[]⟩ [] [] [] p r h h1 h2 (Nat.zero_le _) (by rw [Qdp])
theorem small_ops {T:Int → PS → Option (Tr × PS)} (hT:SmallC T) {s:Int}:∀ (n:Nat) (t:Tr) (p:PS) (r:Tr × PS),opsG T s n t p = some r → Qcm t = true → Qcm r.1 = true:=by
 intro n
 induction n with
 | zero=>intro t p r h _;unfold opsG at h;cases h
 | succ n ih =>
  intro t p r h ht
  rcases opsG_step h with (⟨_,_,u,q,hu,hn⟩ | ⟨_,_,he⟩) | ⟨_,he⟩
  ·refine ih _ _ _ hn ?_
   have h1:=hT _ _ _ _ hu
   unfold Qcm
   simp only [xD,xG]
   rw [Qdp,ht,Qdp,h1,Qdp]
   rfl
  ·subst he
   exact ht
  ·subst he
   exact ht
theorem small_tree:∀ n,n ≤ 65536 → SmallC (Qg5 n):=by
 intro n
 induction n with
 | zero=>intro _ s p t q h;unfold Qg5 at h;cases h
 | succ n ih =>
  intro hn s p t q h
  have hT:=ih (by omega)
  rcases treeM_step h with ⟨_,he⟩ | ⟨_,t0,q0,hN,ho⟩
  ·injection he with h1 _
   subst h1
   rfl
  ·exact small_ops hT _ _ _ _ ho (small_parts hT (by omega) hN)
theorem tree_ok:∀ n,n ≤ 65536 → TreeC (Qg5 n):=by
 intro n
 induction n with
 | zero=>intro _ b s p t q w h;unfold Qg5 at h;cases h
 | succ n ih =>
  intro hn
  have hT:=ih (by omega)
  exact tree_of hT (node_of hT (by omega))
theorem node_ok {n:Nat} (hn:n ≤ 65536):NodeC (fun k p=>Qf3 (Qg5 n) n k (Qae k) ⟨#[]⟩ [] [] [] p):=node_of (tree_ok n hn) hn
theorem classN_nil:Qa3 [] = 0:=by decide
theorem joinL_sum (ts:List Tok) (tail:List UInt8):(joinL ts tail).length = (ts.map fun t=>t.lead.size + t.text.size).sum + tail.length:=by
 induction ts with
 | nil=>simp [joinL]
 | cons t r ih =>
  unfold joinL at ih ⊢
  rw [List.flatMap_cons,List.append_assoc,xB,ih,xB,Qf1,Qf1,List.map_cons,List.sum_cons]
  omega
theorem toks_le (ts:List Tok) (h:∀ t ∈ ts,GoodTok t):ts.length ≤ (ts.map fun t=>t.lead.size + t.text.size).sum:=by
 induction ts with
 | nil=>simp
 | cons t r ih =>
  have h1:=ih (fun u hu=>h u (List.mem_cons_of_mem _ hu))
  obtain ⟨h2,h3,_⟩:=h t (List.mem_cons_self ..)
  have h4:0 < t.text.size:=by
   rcases Nat.eq_zero_or_pos t.text.size with h0 | h0
   ·exfalso
    have:bl t.text = []:=List.eq_nil_of_length_eq_zero (by rw [Qf1];exact h0)
    rw [this,classN_nil] at h2
    exact h3 h2.symm
   ·exact h0
  rw [xD,List.map_cons,List.sum_cons]
  omega
theorem scan_short {s:ByteArray} (h:(Qbf s).e = 0):s.size ≤ 4096:=by
 rcases Nat.lt_or_ge 4096 s.size with h' | h'
 ·unfold Qbf at h
  rw [if_pos h'] at h
  cases h
 ·exact h'
def initP (s:ByteArray):PS:=⟨(Qbf s).toks ++ [⟨0,(Qbf s).tail,⟨#[]⟩⟩],0,0,0⟩
theorem scan_sizes {s:ByteArray} (h:(Qbf s).e = 0):(Qbf s).toks.length ≤ 4096 ∧ ((Qbf s).toks.map fun t=>t.lead.size + t.text.size).sum + (Qbf s).tail.size = s.size:=by
 obtain ⟨h1,h2,_⟩:=(scanR_good s).1 h
 have h3:=joinL_sum (Qbf s).toks (bl (Qbf s).tail)
 rw [h2,Qf1,Qf1] at h3
 have h4:=toks_le _ h1
 have h5:=scan_short h
 exact ⟨by omega,h3.symm⟩
theorem init_ok {s:ByteArray} (h:(Qbf s).e = 0):PSok (initP s):=by
 obtain ⟨h1,h2⟩:=scan_sizes h
 have h5:=scan_short h
 refine ⟨⟨(Qbf s).toks,_,rfl,rfl⟩,?_,?_,Nat.zero_le _⟩
 ·show ((Qbf s).toks ++ [_]).length ≤ _
  rw [xB,List.length_singleton]
  omega
 ·show 0 + (((Qbf s).toks ++ [_]).map _).sum ≤ _
  rw [List.map_append,List.sum_append]
  simp only [List.map_cons,List.map_nil,List.sum_cons,List.sum_nil]
  show 0 + (_ + ((Qbf s).tail.size + 0 + 0)) ≤ _
  omega
end Go.Proofs.YtjidpkcjpgdafaaGreat
