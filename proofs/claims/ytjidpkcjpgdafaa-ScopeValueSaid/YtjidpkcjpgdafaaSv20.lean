/- Part 20: The contracts of within and plain functions: which trees have the right shape. -/
import Derived.Test.YtjidpkcjpgdafaaSv1
import Derived.Test.YtjidpkcjpgdafaaSv10
import Derived.Test.YtjidpkcjpgdafaaSv19
import Derived.Test.YtjidpkcjpgdafaaSv18
import Derived.Deep.LoopGhost
set_option maxRecDepth 100000
set_option maxHeartbeats 4000000
namespace Go.Proofs.Ytjidpkcjpgdafaa
open Go.RowKit
theorem TrAt.keep {S:Nat → Prop} {w w':World} {t:Tr} {v:TV} (h:TrAt S w t v) (hb:Below w.heap.size w w'):TrAt S w' t v:=TrAt.move (fun _ h=>h) (fun k _ hlt=>hb.block k hlt) t v h
theorem TrAt.kid {S:Nat → Prop} {w:World} {t:Tr} {v:TV} (h:TrAt S w t v) {j:Nat} {k:Tr} (hk:t.kids[j]? = some k) :
  v.kl = t.kids.length ∧ ∃ b off,v.ka = some ⟨b,off,none⟩ ∧ S b ∧ ∃ u:TV,w.cell? ⟨b,off + j * 4,none⟩ = some (.int .i64 u.kind) ∧ w.cell? ⟨b,off + j * 4 + 1,none⟩ = some (.string u.text) ∧ w.cell? ⟨b,off + j * 4 + 2,none⟩ = some (.slice u.la u.ll u.lc) ∧ w.cell? ⟨b,off + j * 4 + 3,none⟩ = some (.slice u.ka u.kl u.kc) ∧ TrAt S w k u:=by
 cases t with
 | mk kd tx ls ks =>
  unfold TrAt at h
  obtain ⟨_,_,_,h4,_,h6,_⟩:=h
  obtain ⟨b,off,hA,hb,hc⟩:=h6 (by intro e;rw [show (Tr.mk kd tx ls ks).kids = ks from rfl,e] at hk;simp at hk)
  exact ⟨h4,b,off,hA,hb,TrsAt.get ks off hc j k hk⟩
theorem TrAt.addr {S:Nat → Prop} {w:World} {t:Tr} {v:TV} (h:TrAt S w t v):t.kids.length = 0 ∨ ∃ b off,v.ka = some ⟨b,off,none⟩:=by
 cases t with
 | mk kd tx ls ks =>
  unfold TrAt at h
  cases ks with
  | nil=>exact .inl rfl
  | cons a r =>
   obtain ⟨b,off,hA,_⟩:=h.2.2.2.2.2.1 (by simp)
   exact .inr ⟨b,off,hA⟩
theorem TrAt.at {S:Nat → Prop} {w:World} {t:Tr} {v:TV} {b off:Nat} (h:TrAt S w t v) (hA:v.ka = some ⟨b,off,none⟩) {j:Nat} {k:Tr} (hk:t.kids[j]? = some k) :
  ∃ u:TV,w.cell? ⟨b,off + j * 4,none⟩ = some (.int .i64 u.kind) ∧ w.cell? ⟨b,off + j * 4 + 1,none⟩ = some (.string u.text) ∧ w.cell? ⟨b,off + j * 4 + 2,none⟩ = some (.slice u.la u.ll u.lc) ∧ w.cell? ⟨b,off + j * 4 + 3,none⟩ = some (.slice u.ka u.kl u.kc) ∧ TrAt S w k u:=by
 obtain ⟨_,b',off',hA',_,u,hu⟩:=h.kid hk
 rw [hA] at hA'
 injection hA' with e
 injection e with e1 e2 _
 subst e1 e2
 exact ⟨u,hu⟩
theorem TrAt.kl {S:Nat → Prop} {w:World} {t:Tr} {v:TV} (h:TrAt S w t v):v.kl = t.kids.length ∧ v.ll = t.leads.length ∧ v.kind = t.kind ∧ v.text = t.text:=by
 cases t with
 | mk kd tx ls ks =>
  unfold TrAt at h
  exact ⟨h.2.2.2.1,h.2.2.1,h.1,h.2.1⟩
theorem TrAt.caps {S:Nat → Prop} {w:World} {t:Tr} {v:TV} (h:TrAt S w t v):v.ll ≤ v.lc ∧ v.kl ≤ v.kc:=by
 cases t with
 | mk kd tx ls ks =>
  unfold TrAt at h
  exact h.2.2.2.2.2.2
theorem withinT_step (t:Tr) (n:Nat):Qb1 t (n + 1) = Qcz t.kids n:=by
 cases t with
 | mk kd tx ls ks=>rw [Qb1];rfl
theorem withinT_zero (t:Tr):Qb1 t 0 = false:=by
 cases t with
 | mk kd tx ls ks=>rw [Qb1]
theorem withinL_at (l:List Tr) (n j:Nat) (k:Tr) (hk:l[j]? = some k):Qcz (l.drop j) n = (Qb1 k n && Qcz (l.drop (j + 1)) n):=by
 obtain ⟨hj,he⟩:=List.getElem?_eq_some_iff.1 hk
 rw [List.drop_eq_getElem_cons hj,he,Qcz]
theorem withinL_end (l:List Tr) (n j:Nat) (h:l.length ≤ j):Qcz (l.drop j) n = true:=by
 rw [List.drop_eq_nil_of_le h,Qcz]
mutual
def Qa4:Tr → Bool
 | .mk _ _ ls ks=>decide (ls.length ≤ 140737488355328) && decide (ks.length ≤ 140737488355328) && Qbw ks
def Qbw:List Tr → Bool
 | []=>true
 | t :: r=>Qa4 t && Qbw r
end
theorem smallL_get:(l:List Tr) → (j:Nat) → (k:Tr) → Qbw l = true → l[j]? = some k → Qa4 k = true
 | [],j,k,_,h=>by simp at h
 | a :: r,j,k,hs,h=>by
  unfold Qbw at hs
  rw [Bool.and_eq_true] at hs
  cases j with
  | zero=>simp at h;subst h;exact hs.1
  | succ j=>exact smallL_get r j k hs.2 (by simpa using h)
theorem smallT_kids {t:Tr} (h:Qa4 t = true):t.leads.length ≤ 140737488355328 ∧ t.kids.length ≤ 140737488355328 ∧ ∀ (j:Nat) (k:Tr),t.kids[j]? = some k → Qa4 k = true:=by
 cases t with
 | mk kd tx ls ks =>
  unfold Qa4 at h
  simp only [Bool.and_eq_true,decide_eq_true_eq] at h
  exact ⟨h.1.1,h.1.2,fun j k hk=>smallL_get ks j k h.2 hk⟩
theorem within_syn (n:Nat):∀ (S:Nat → Prop) (t:Tr) (v:TV) (w:World),n ≤ 60 → TrAt S w t v → Qa4 t = true →
  Calls Try.prog 19 #[.agg #[.int .i64 v.kind,.string v.text,.slice v.la v.ll v.lc,.slice v.ka v.kl v.kc],.int .i64 n] w fun e w'=>e = .returned (.bool (Qb1 t n)) ∧ Below w.heap.size w w':=by
 induction n with
 | zero =>
  intro S t v w _ _ _
  have HR:=hQ (withinT_zero t)
  go_enter Try.func19,Try.ntmps19
  go_wp2
  go_ret
  exact ⟨by rw [HR.out];rfl,(xC _ _).alloc (xA _) _⟩
 | succ n ih =>
  intro S t v w hn h hs
  obtain ⟨_,hk1,hk2⟩:=smallT_kids hs
  have HK2:=hQ hk2
  have HIH:=hQ ih
  have hkl:=h.kl.1
  have hadr:=h.addr
  obtain ⟨vk,vx,vla,vll,vlc,vka,vkl,vkc⟩:=v
  simp only at hkl hadr
  subst hkl
  have HN:=hQ (show n ≤ 60 from by omega)
  have hn0:((n:Int) + 1 == 0) = false:=beqF (by omega)
  have hn60:(n:Int) ≤ 60:=by omega
  have hnw:(n:Int) + 1 - 1 = (n:Int):=by omega
  have HT:=hQ h
  clear h hs hk2 ih hn
  rcases hadr with h0 | ⟨b,off,rfl⟩
  ·have HKL:=hQ h0
   clear h0
   go_enter Try.func19,Try.ntmps19
   go_wp2
   go_loopg [12] t.kids.length (fun g u12 wr=>∃ j:Nat,u12 = .int .i64 j ∧ j + g = t.kids.length ∧ Below w.heap.size w wr ∧ Qb1 t (n + 1) = Qcz (t.kids.drop j) n)
   case atStart=>exact ⟨0,rfl,by omega,(xC _ _).alloc (xA _) _,withinT_step t n⟩
   case round =>
    obtain ⟨j,rfl,hj,hb,hw⟩:=hrel
    have HB:=hQ hb
    have HJ:=hQ hj
    have HW:=hQ hw
    clear hj hb hw
    have hlt:¬ j < t.kids.length:=by have:=HKL.out;omega
    have HR:=hQ (HW.out.trans (withinL_end t.kids n j (by omega)))
    go_wp2
    go_ret
    exact ⟨by rw [HR.out];rfl,HB.out⟩
  ·skip
   go_enter Try.func19,Try.ntmps19
   go_wp2
   go_loopg [12] t.kids.length (fun g u12 wr=>∃ j:Nat,u12 = .int .i64 j ∧ j + g = t.kids.length ∧ Below w.heap.size w wr ∧ Qb1 t (n + 1) = Qcz (t.kids.drop j) n)
   case atStart=>exact ⟨0,rfl,by omega,(xC _ _).alloc (xA _) _,withinT_step t n⟩
   case round =>
    obtain ⟨j,rfl,hj,hb,hw⟩:=hrel
    have HB:=hQ hb
    have HJ:=hQ hj
    have HW:=hQ hw
    clear hj hb hw
    by_cases hlt:j < t.kids.length
    ·obtain ⟨k,hk⟩:∃ k,t.kids[j]? = some k:=⟨_,xF hlt⟩
     obtain ⟨u,c0,c1,c2,c3,hu⟩:=(HT.out.keep HB.out).at rfl hk
     have HU:=hQ hu
     have HSK:=hQ (HK2.out j k hk)
     have HLT:=hQ hlt
     have HAT:=hQ (HW.out.trans (withinL_at t.kids n j k hk))
     have hj0:(0:Int) ≤ (j:Int):=by omega
     have hj1:(j:Int) < (t.kids.length:Int):=by omega
     have hj2:(j:Int) + 1 ≤ 140737488355328:=by omega
     clear hk hu
     cases hwk:Qb1 k n
     ·have HR:=hQ (show Qb1 t (n + 1) = false from by rw [HAT.out,hwk];rfl)
      go_wp2_with (go_at_call 19;refine (HIH.out S k u _ HN.out (HU.out.keep ((xC _ _).alloc (xA _) _)) HSK.out).mono ?_;rintro e w2 ⟨rfl,hb2⟩;have HB2:=hQ ((HB.out.alloc HB.out.size (.cells #[.int .i64 u.kind,.string u.text,.slice u.la u.ll u.lc,.slice u.ka u.kl u.kc] 26)).trans (hb2.mono (by have:=HB.out.size;simp;omega)));clear hb2)
      go_ret
      exact ⟨by rw [HR.out];rfl,HB2.out⟩
     ·have HR:=hQ (show Qb1 t (n + 1) = Qcz (t.kids.drop (j + 1)) n from by rw [HAT.out,hwk,Bool.true_and])
      go_wp2_with (go_at_call 19;refine (HIH.out S k u _ HN.out (HU.out.keep ((xC _ _).alloc (xA _) _)) HSK.out).mono ?_;rintro e w2 ⟨rfl,hb2⟩;have HB2:=hQ ((HB.out.alloc HB.out.size (.cells #[.int .i64 u.kind,.string u.text,.slice u.la u.ll u.lc,.slice u.ka u.kl u.kc] 26)).trans (hb2.mono (by have:=HB.out.size;simp;omega)));clear hb2)
      go_roundg (gk - 1)
      case measure=>have:=HJ.out;have:=HLT.out;omega
      case rel=>exact ⟨j + 1,by go_num,by have:=HJ.out;have:=HLT.out;omega,HB2.out,HR.out⟩
    ·have HR:=hQ (HW.out.trans (withinL_end t.kids n j (by omega)))
     go_wp2
     go_ret
     exact ⟨by rw [HR.out];rfl,HB.out⟩
end Go.Proofs.Ytjidpkcjpgdafaa
namespace Go.Proofs.Ytjidpkcjpgdafaa
def Qdn:List Part → Int → List Int
 | [],_=>[]
 | x :: r,n=>List.replicate (Qc9 x n).toNat x.kids ++ Qdn r n
mutual
def Qax:Tr → Bool
 | .mk kd x _ ks=>(Qcl (Qae kd) ks.length).2 && Qb6 (Qae kd) x && Qbx ks (Qdn (Qae kd) (Qcl (Qae kd) ks.length).1)
def Qbx:List Tr → List Int → Bool
 | [],_=>true
 | _ :: _,[]=>true
 | k :: r,s :: ss=>hasB s k.kind && Qax k && Qbx r ss
end
theorem shapedT_eq (t:Tr):Qax t = ((Qcl (Qae t.kind) t.kids.length).2 && Qb6 (Qae t.kind) t.text && Qbx t.kids (Qdn (Qae t.kind) (Qcl (Qae t.kind) t.kids.length).1)):=by
 cases t with
 | mk kd x ls ks=>rw [Qax];rfl
theorem shapedL_cons (k:Tr) (r:List Tr) (s:Int) (ss:List Int):Qbx (k :: r) (s :: ss) = (hasB s k.kind && Qax k && Qbx r ss):=by rw [Qbx]
theorem shapedL_nil (ss:List Int):Qbx [] ss = true:=by rw [Qbx]
def onesP:List Part → Nat
 | []=>0
 | x :: r=>(if x.series then 0 else if x.kids ≠ 0 then 1 else 0) + onesP r
def Qc2:List Part → Nat
 | []=>0
 | x :: r=>(if x.series then 1 else 0) + Qc2 r
def sumP:List Part → Int → Int
 | [],_=>0
 | x :: r,n=>Qc9 x n + sumP r n
theorem sumP_eq (l:List Part) (n:Int):sumP l n = onesP l + Qc2 l * n:=by
 induction l with
 | nil=>simp [sumP,onesP,Qc2]
 | cons x r ih =>
  rw [sumP,onesP,Qc2,ih]
  unfold Qc9
  cases hs:x.series
  ·by_cases hk:x.kids ≠ 0
   ·rw [if_neg (by decide),if_pos hk,if_neg (by decide),if_pos hk,if_neg (by decide),Nat.zero_add]
    omega
   ·rw [if_neg (by decide),if_neg hk,if_neg (by decide),if_neg hk,if_neg (by decide),Nat.zero_add,Nat.zero_add]
    omega
  ·rw [if_pos rfl,if_pos rfl,if_pos rfl]
   rw [show ((1 + Qc2 r:Nat):Int) = 1 + (Qc2 r:Int) from by omega,Int.add_mul,Int.one_mul]
   omega
theorem freeL_ones (l:List Part):∀ a b k,(Qbq l a b k).2.2 = k - onesP l:=by
 induction l with
 | nil=>intro a b k;simp [Qbq,onesP]
 | cons x r ih =>
  intro a b k
  rw [Qbq,onesP]
  cases hs:x.series
  ·by_cases hk:x.kids ≠ 0
   ·rw [if_neg (by decide),if_pos hk,ih,if_neg (by decide),if_pos hk]
    omega
   ·rw [if_neg (by decide),if_neg hk,ih,if_neg (by decide),if_neg hk]
    omega
  ·rw [if_pos rfl,ih,if_pos rfl]
   omega
theorem freeL_none (l:List Part) (h:Qc2 l = 0):∀ a b k,(Qbq l a b k).1 = a ∧ (Qbq l a b k).2.1 = b:=by
 induction l with
 | nil=>intro a b k;exact ⟨rfl,rfl⟩
 | cons x r ih =>
  intro a b k
  rw [Qc2] at h
  rw [Qbq]
  cases hs:x.series
  ·rw [hs] at h
   have hr:=ih (by simpa using h)
   by_cases hk:x.kids ≠ 0
   ·rw [if_neg (by decide),if_pos hk]
    exact hr _ _ _
   ·rw [if_neg (by decide),if_neg hk]
    exact hr _ _ _
  ·rw [hs] at h
   simp at h
theorem freeL_low (l:List Part) (hl:∀ x ∈ l,0 ≤ x.least):∀ a b k,0 ≤ a → 0 ≤ (Qbq l a b k).1:=by
 induction l with
 | nil=>intro a b k h;exact h
 | cons x r ih =>
  intro a b k h
  have hr:=ih (fun y hy=>hl y (List.mem_cons_of_mem _ hy))
  have hx:=hl x (List.mem_cons_self ..)
  rw [Qbq]
  split
  ·exact hr _ _ _ hx
  ·split
   ·exact hr _ _ _ h
   ·exact hr _ _ _ h
theorem partsP_fin2:∀ n:Fin 23,Qc2 (Qae ((n.val:Nat):Int)) ≤ 1 ∧ ∀ x ∈ Qae ((n.val:Nat):Int),0 ≤ x.least:=by decide
theorem partsP_ok2 (k:Int):Qc2 (Qae k) ≤ 1 ∧ ∀ x ∈ Qae k,0 ≤ x.least:=by
 by_cases h:k ≤ 0 ∨ 23 ≤ k
 ·rw [partsP_none h]
  exact ⟨by decide,fun x hx=>by simp at hx⟩
 ·have:=partsP_fin2 ⟨k.toNat,by omega⟩
  rw [show (((⟨k.toNat,by omega⟩:Fin 23).val:Nat):Int) = k from by show ((k.toNat:Nat):Int) = k;omega] at this
  exact this
theorem free_sum {kd k:Int} (h:(Qcl (Qae kd) k).2 = true):0 ≤ (Qcl (Qae kd) k).1 ∧ sumP (Qae kd) (Qcl (Qae kd) k).1 = k:=by
 obtain ⟨_,hk0,hne⟩:=freeP_le _ _ h
 obtain ⟨hs,hl⟩:=partsP_ok2 kd
 have h0:=freeL_low _ hl 0 0 k (Int.le_refl _)
 have h1:=freeL_ones (Qae kd) 0 0 k
 have hf:Qcl (Qae kd) k = ((Qbq (Qae kd) 0 0 k).2.2,decide ((Qbq (Qae kd) 0 0 k).1 ≤ (Qbq (Qae kd) 0 0 k).2.2) && decide ((Qbq (Qae kd) 0 0 k).2.2 ≤ (Qbq (Qae kd) 0 0 k).2.1)):=by
  unfold Qcl
  rw [if_neg (by intro e;rcases e with e | e;exact hne e;omega)]
 rw [hf] at h ⊢
 simp only [Bool.and_eq_true,decide_eq_true_eq] at h
 rw [sumP_eq]
 show 0 ≤ (Qbq (Qae kd) 0 0 k).2.2 ∧ _ + _ * (Qbq (Qae kd) 0 0 k).2.2 = k
 refine ⟨by omega,?_⟩
 rcases Nat.le_one_iff_eq_zero_or_eq_one.1 hs with hz | hz
 ·obtain ⟨e1,e2⟩:=freeL_none _ hz 0 0 k
  rw [hz]
  rw [e1,e2] at h
  omega
 ·rw [hz,h1]
  omega
theorem sumP_nonneg (l:List Part) (n:Int) (hn:0 ≤ n):0 ≤ sumP l n:=by
 rw [sumP_eq]
 have:0 ≤ (Qc2 l:Int) * n:=Int.mul_nonneg (by omega) hn
 omega
theorem countP_nonneg (x:Part) (n:Int) (hn:0 ≤ n):0 ≤ Qc9 x n:=by
 unfold Qc9
 split
 ·exact hn
 ·split <;> decide
theorem kid_size {t k:Tr} {j:Nat} (h:t.kids[j]? = some k):SizeOf.sizeOf k < SizeOf.sizeOf t:=by
 cases t with
 | mk kd x ls ks =>
  have:=List.sizeOf_lt_of_mem (List.mem_of_getElem? (show ks[j]? = some k from h))
  rw [Tr.mk.sizeOf_spec]
  omega
end Go.Proofs.Ytjidpkcjpgdafaa
