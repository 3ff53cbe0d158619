/- Plain: what a target that is not free refers to. No condition but few nodes in each module. -/
import Derived.Test.YtnnfdbmanamfdaaGreatLw1
import Derived.Test.YtnnfdbmanamfdaaGreatLw52
import Derived.Deep.DeepCutAuto
set_option maxRecDepth 100000
set_option maxHeartbeats 4000000
namespace Go.Proofs.YtnnfdbmanamfdaaGreat
open Go.RowKit Go.Shelf
theorem dot_is:(l:List UInt8) → dotG l < l.length → l = l.take (dotG l) ++ 46 :: l.drop (dotG l + 1)
 | [],h=>by simp at h
 | c :: r,h=>by
  by_cases hc:c = 46
  ·rw [dotG,if_pos hc,hc]
   simp
  ·rw [dotG,if_neg hc] at h ⊢
   have:=dot_is r (by simpa using h)
   rw [List.take_succ_cons,List.drop_succ_cons,List.cons_append,← this]
theorem div_join {s:ByteArray} (h:(Qfx s).2.2 = true):s = (Qfx s).1 ++ ⟨#[46]⟩ ++ (Qfx s).2.1 ∧ s ≠ (Qfx s).2.1:=by
 unfold Qfx at h ⊢
 split at h
 ·rename_i hd
  rw [if_pos hd]
  have hl:dotG (bl s) < (bl s).length:=by rw [Qfi];exact hd
  refine ⟨bl_inj ?_,fun e=>?_⟩
  ·show bl s = bl (s.extract 0 (dotP s) ++ ⟨#[46]⟩ ++ s.extract (dotP s + 1) s.size)
   rw [Qgu,Qgu,bl_name]
   have h1:bl (s.extract 0 (dotP s)) = (bl s).take (dotP s):=by
    unfold bl
    rw [Qd9]
    simp
   have h2:bl ⟨#[46]⟩ = [46]:=rfl
   rw [h1,h2]
   conv=>lhs;rw [dot_is (bl s) hl]
   simp
   rfl
  ·have h3:=congrArg (fun x=>(bl x).length) e
   simp only at h3
   rw [bl_name,List.length_drop,Qfi] at h3
   omega
 ·cases h
theorem tgt_first {ps:List Tr} {z:Tgm} (h:z ∈ Qgp ps) (hf:z.2.2.2.2 = false) (hz:∀ t ∈ ps,Qan t ≤ 1000):∃ (i m d:Nat) (t u T k:Tr),ps[i]? = some t ∧ z.1 = (i:Int) ∧ Qc8 t z.2.1 = some u ∧ ps[m]? = some T ∧ T.kids[d]? = some k ∧ z.2.2.1 = (m:Int) ∧ z.2.2.2.1 = (d:Int) ∧ NoKid T.kids k.text d ∧ (u.kind = 16 ↔ k.kind = 2) ∧
  (u.text = T.text ++ ⟨#[46]⟩ ++ k.text ∧ u.text ≠ k.text ∨ u.text = k.text ∧ m = i):=by
 obtain ⟨hp,i,t,u,ht,hi,hpa,hfu,hku,hlk⟩:=tgts_mem h
 have hft:(Qb6 ps i u.text).2.2 = true:=by
  have:z.2.2.2.2 = !(Qb6 ps i u.text).2.2:=congrArg (fun x=>x.2.2) hlk
  rw [hf] at this
  cases e:(Qb6 ps i u.text).2.2 with
  | true=>rfl
  | false=>rw [e] at this;cases this
 obtain ⟨m,d,T,k,hm,hk,hx,hn,hl,hcase⟩:=look_found hft
 have hz1:z.2.2.1 = (m:Int):=by rw [hlk,hl]
 have hz2:z.2.2.2.1 = (d:Int):=by rw [hlk,hl]
 have hT:=prog_kind hp hm
 have ht1:=prog_kind hp ht
 have hsu:=shaped_find z.2.1 t u ht1.2 (hz t (List.mem_of_getElem? ht)) hfu
 have hag:=kinds_agree (ps:=ps) (m:=m) (t:=T) hsu.1 hku hm hT.2 hT.1 (hz T (List.mem_of_getElem? hm)) hk hx
 refine ⟨i,m,d,t,u,T,k,ht,hi,hfu,hm,hk,hz1,hz2,by rw [hx];exact hn,hag,?_⟩
 rcases hcase with ⟨c1,c2⟩ | ⟨c1,c2⟩
 ·have:=div_join c1
  rw [← c2,← hx] at this
  exact .inl this
 ·refine .inr ⟨?_,c2⟩
  rw [hx]
  unfold Qfx at c1 ⊢
  split at c1
  ·cases c1
  ·rename_i hd
   rw [if_neg hd]
end Go.Proofs.YtnnfdbmanamfdaaGreat
