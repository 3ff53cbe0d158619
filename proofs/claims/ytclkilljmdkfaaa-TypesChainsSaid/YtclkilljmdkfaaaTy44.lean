/- Part 44: Plain: an outline is a program that a machine can hold; the contract of outline in these words. -/
import Derived.Test.YtclkilljmdkfaaaTy1
import Derived.Test.YtclkilljmdkfaaaTy43
import Derived.Test.YtclkilljmdkfaaaTy39
import Derived.Test.YtclkilljmdkfaaaTy25
set_option maxRecDepth 100000
set_option maxHeartbeats 4000000
namespace Go.Proofs.Ytclkilljmdkfaaa
open Go.RowKit Go.Shelf
theorem core_keeps (P:Tr → Prop) (hP:∀ (t k:Tr) (j:Nat),P t → t.kids[j]? = some k → P k) (N:Nat):∀ t:Tr,SizeOf.sizeOf t ≤ N → Qa1 t = true → 5 ≤ t.kind ∧ t.kind ≤ 9 → P t → P (Qa2 t):=by
 induction N with
 | zero=>intro t h;have:=tr_pos t;omega
 | succ N ih =>
  intro t hN h hk hp
  rcases type_cases h hk with ⟨h8,k,hkk,h1,h2⟩ | ⟨h8,_,_⟩
  ·have hj:t.kids[0]? = some k:=by rw [hkk];rfl
   rw [(core_list h8 hkk).1]
   exact ih k (by have:=Qdv hj;omega) h2 h1 (hP t k 0 hp hj)
  ·rw [(Qdm h8).1]
   exact hp
theorem leaf_keeps (P:Tr → Prop) (hP:∀ (t k:Tr) (j:Nat),P t → t.kids[j]? = some k → P k) {k:Tr} (h:DefOk k) (h3:k.kind = 3) (hp:P k):P (Qcq k):=by
 obtain ⟨a,h1,h2,_,_,_,_,h4,h5⟩:=leaf_ok h h3
 rw [h2]
 exact core_keeps P hP _ a (xA _) h4 h5 (hP k a 0 hp (by rw [h1];rfl))
theorem outD_kids (k:Tr):(Qfh k).kids = if k.kind = 3 then [Qcq k] else [Qcs 5,Qcs 15]:=rfl
theorem size_outD {k:Tr} (h:DefOk k):Qao (Qfh k) ≤ Qao k:=by
 rw [Qbd,Qbd k,outD_kids]
 by_cases h3:k.kind = 3
 ·obtain ⟨a,h1,h2,_,c2,_⟩:=leaf_ok h h3
  rw [if_pos h3,h1,Qah,Qah,Qah,Qah,Qbd,h2,c2,Qah,Qbd a]
  omega
 ·have h2:k.kind = 2:=by have:=h.1;omega
  have h4:=func_kids2 h.2.1 h2
  have h5:=Qas k.kids
  rw [if_neg h3]
  have e:Qah [Qcs 5,Qcs 15] = 2:=by kernel_rfl
  omega
theorem size_map {f:Tr → Tr}:(l:List Tr) → (∀ k ∈ l,Qao (f k) ≤ Qao k) → Qah (l.map f) ≤ Qah l
 | [],_=>by rw [List.map_nil];exact xA _
 | a :: r,h=>by
  rw [List.map_cons,Qah,Qah]
  have h1:=h a (by simp)
  have h2:=size_map r fun k hk=>h k (by simp [hk])
  omega
theorem shR_outD {k:Tr} (h:DefOk k):Qa1 (Qfh k) = true:=by
 have e0:(Qfh k).kind = k.kind:=rfl
 have e1:(Qfh k).text = k.text:=rfl
 have hn:=(Qd7 h.2.1).2.1
 rw [Qb7,e0,e1,outD_kids,hn]
 by_cases h3:k.kind = 3
 ·obtain ⟨a,h1,h2,c1,c2,_,c4,_⟩:=leaf_ok h h3
  rw [if_pos h3,h3,Qa0,Qa0,h2,c4]
  have e2:kidR 3 [Qcq k].length 0 (Qa2 a).kind = (decide (5 ≤ (Qa2 a).kind) && decide ((Qa2 a).kind ≤ 9)):=rfl
  have e3:kidR 3 [Qa2 a].length 0 (Qa2 a).kind = (decide (5 ≤ (Qa2 a).kind) && decide ((Qa2 a).kind ≤ 9)):=rfl
  first | rw [e2] | rw [e3]
  rw [decide_eq_true (show 5 ≤ (Qa2 a).kind from by omega),decide_eq_true (show (Qa2 a).kind ≤ 9 from by omega)]
  rfl
 ·have h2:k.kind = 2:=by have:=h.1;omega
  rw [if_neg h3,h2]
  have e2:Qa0 2 [Qcs 5,Qcs 15].length 0 [Qcs 5,Qcs 15] = true:=by kernel_rfl
  rw [e2]
  rfl
theorem shRL_map (n:Nat):(l:List Tr) → (i:Nat) → (∀ k ∈ l,DefOk k) → Qa0 1 n i (l.map Qfh) = true
 | [],i,_=>by rw [List.map_nil,Qa0]
 | a :: r,i,h=>by
  have ha:=h a (by simp)
  rw [List.map_cons,Qa0,shR_outD ha,shRL_map n r (i + 1) fun k hk=>h k (by simp [hk])]
  have e:kidR 1 n i (Qfh a).kind = (a.kind == 2 || a.kind == 3):=rfl
  rw [e]
  rcases ha.1 with e | e <;> rw [e] <;> rfl
theorem mod_defs {ps:List Tr} (hz:∀ t ∈ ps,Qao t ≤ 1000) (hg:Qbv ps = true) {m:Nat} {t:Tr} (ht:ps[m]? = some t):∀ k ∈ t.kids,DefOk k:=fun k hk=>by
 obtain ⟨d,hd,he⟩:=List.getElem_of_mem hk
 exact def_ok hz hg ht (d:=d) (by rw [xF hd,he])
theorem size_outM {ps:List Tr} (hz:∀ t ∈ ps,Qao t ≤ 1000) (hg:Qbv ps = true) {m:Nat} {t:Tr} (ht:ps[m]? = some t):Qao (outM t) ≤ Qao t:=by
 rw [Qbd,Qbd t,outM_kids]
 have:=size_map (f:=Qfh) t.kids fun k hk=>size_outD (mod_defs hz hg ht k hk)
 omega
theorem out_sizes {ps:List Tr} (hz:∀ t ∈ ps,Qao t ≤ 1000) (hg:Qbv ps = true):(∀ t ∈ Qfi ps,Qao t ≤ 1000) ∧ Qah (Qfi ps) ≤ Qah ps:=by
 have h1:∀ t ∈ ps,Qao (outM t) ≤ Qao t:=fun t ht=>by
  obtain ⟨m,hm,he⟩:=List.getElem_of_mem ht
  exact size_outM hz hg (m:=m) (by rw [xF hm,he])
 refine ⟨fun t ht=>?_,size_map ps h1⟩
 obtain ⟨u,hu,rfl⟩:=List.mem_map.1 ht
 exact Nat.le_trans (h1 u hu) (hz u hu)
theorem out_prog {ps:List Tr} (hz:∀ t ∈ ps,Qao t ≤ 1000) (hg:Qbv ps = true):Qbv (Qfi ps) = true:=by
 unfold Qbv
 rw [List.all_eq_true]
 intro t ht
 have hzt:=(out_sizes hz hg).1 t ht
 obtain ⟨u,hu,rfl⟩:=List.mem_map.1 ht
 obtain ⟨m,hm,he⟩:=List.getElem_of_mem hu
 have hum:ps[m]? = some u:=by rw [xF hm,he]
 obtain ⟨q1,q2⟩:=Qdy hg hum
 rw [← Qbq _ _ (xA _) hzt]
 rw [← Qbq _ u (xA _) (hz u hu)] at q2
 have e0:(outM u).kind = u.kind:=rfl
 have e1:(outM u).text = u.text:=rfl
 have hn:=(Qd7 q2).2.1
 rw [Qb7,e0,e1,outM_kids,hn,q1,shRL_map _ _ _ (mod_defs hz hg hum)]
 have e2:Qey 1 (u.kids.map Qfh).length = 3:=by
  have:Qey 1 (u.kids.map Qfh).length = if (0:Int) ≤ ((u.kids.map Qfh).length:Int) then 3 else -1:=rfl
  rw [this,if_pos (by omega)]
 rw [e2]
 rfl
theorem fitL_all:(l:List Tr) → (∀ t ∈ l,fitT t = true) → fitL l = true
 | [],_=>by rw [fitL]
 | t :: r,h=>by rw [fitL,h t (by simp),fitL_all r fun u hu=>h u (by simp [hu])];rfl
theorem Qeo {k:Int} {x:ByteArray} {ls:List ByteArray} {ks:List Tr} (h1:ls.length ≤ 8796093022208) (h2:ks.length ≤ 1900000000000) (h3:∀ t ∈ ks,fitT t = true):fitT (.mk k x ls ks) = true:=by
 rw [fitT,decide_eq_true h1,decide_eq_true h2,fitL_all ks h3]
 rfl
theorem fit_kid (t k:Tr) (j:Nat) (h:fitT t = true) (hk:t.kids[j]? = some k):fitT k = true:=(Qcj h).2.2 j k hk
theorem fit_out {ps:List Tr} (hz:∀ t ∈ ps,Qao t ≤ 1000) (hg:Qbv ps = true) (hf:fitT (Qa3 ps) = true):fitT (Qa3 (Qfi ps)) = true:=by
 refine Qeo (by simp) (by unfold Qfi;rw [List.length_map];exact (Qcj hf).2.1) fun t' ht'=>?_
 obtain ⟨t,ht,rfl⟩:=List.mem_map.1 ht'
 obtain ⟨m,hm,he⟩:=List.getElem_of_mem ht
 have htm:ps[m]? = some t:=by rw [xF hm,he]
 have hft:=(Qcj hf).2.2 m t htm
 refine Qeo (by simp) (by rw [List.length_map];exact (Qcj hft).2.1) fun k' hk'=>?_
 obtain ⟨k,hk,rfl⟩:=List.mem_map.1 hk'
 obtain ⟨d,hd,he'⟩:=List.getElem_of_mem hk
 have hkd:t.kids[d]? = some k:=by rw [xF hd,he']
 have hok:=mod_defs hz hg htm k hk
 unfold Qfh
 by_cases h3:k.kind = 3
 ·rw [if_pos h3]
  refine Qeo (by simp) (by simp) fun a ha=>?_
  rw [List.mem_singleton] at ha
  rw [ha]
  exact leaf_keeps (fun t=>fitT t = true) fit_kid hok h3 (fit_kid _ _ _ hft hkd)
 ·rw [if_neg h3]
  refine Qeo (by simp) (by simp) fun a ha=>?_
  simp at ha
  rcases ha with rfl | rfl <;> kernel_rfl
theorem wordsL_all:(l:List Tr) → (∀ t ∈ l,Qa9 t = true) → wordsL l = true
 | [],_=>by rw [wordsL]
 | t :: r,h=>by rw [wordsL,h t (by simp),wordsL_all r fun u hu=>h u (by simp [hu])];rfl
theorem Qcm {k:Int} {x:ByteArray} {ks:List Tr} (h1:x.size < maxLen) (h3:∀ t ∈ ks,Qa9 t = true):Qa9 (.mk k x [] ks) = true:=by
 rw [Qa9,decide_eq_true h1,wordsL_all ks h3]
 rfl
theorem words_kid (t k:Tr) (j:Nat) (h:Qa9 t = true) (hk:t.kids[j]? = some k):Qa9 k = true:=(Qbp h).2.2 j k hk
theorem words_out {ps:List Tr} (hz:∀ t ∈ ps,Qao t ≤ 1000) (hg:Qbv ps = true) (hf:Qa9 (Qa3 ps) = true):Qa9 (Qa3 (Qfi ps)) = true:=by
 refine Qcm (by decide) fun t' ht'=>?_
 obtain ⟨t,ht,rfl⟩:=List.mem_map.1 ht'
 obtain ⟨m,hm,he⟩:=List.getElem_of_mem ht
 have htm:ps[m]? = some t:=by rw [xF hm,he]
 have hft:=words_kid _ t m hf htm
 refine Qcm (Qbp hft).1 fun k' hk'=>?_
 obtain ⟨k,hk,rfl⟩:=List.mem_map.1 hk'
 obtain ⟨d,hd,he'⟩:=List.getElem_of_mem hk
 have hkd:t.kids[d]? = some k:=by rw [xF hd,he']
 have hok:=mod_defs hz hg htm k hk
 have hfk:=words_kid _ _ _ hft hkd
 unfold Qfh
 refine Qcm (Qbp hfk).1 fun a ha=>?_
 by_cases h3:k.kind = 3
 ·rw [if_pos h3,List.mem_singleton] at ha
  rw [ha]
  exact leaf_keeps (fun t=>Qa9 t = true) words_kid hok h3 hfk
 ·rw [if_neg h3] at ha
  simp at ha
  rcases ha with rfl | rfl <;> kernel_rfl
structure OutOk (ps:List Tr) (w':World) (A:Option Addr) (c:Nat):Prop where
 at':TrAt (fun b=>b < w'.heap.size) w' (Qa3 (Qfi ps)) ⟨0,⟨#[]⟩,none,0,0,A,(Qfi ps).length,c⟩
 fit:fitT (Qa3 (Qfi ps)) = true
 small:Qbj (Qa3 (Qfi ps)) = true
 words:Qa9 (Qa3 (Qfi ps)) = true
 size:Qah (Qfi ps) ≤ 90000
 prog:Qbv (Qfi ps) = true
theorem outline_ok (S:Nat → Prop) (A:Option Addr) (c:Nat) (ps:List Tr) (w:World) (hp:TrAt S w (Qa3 ps) ⟨0,⟨#[]⟩,none,0,0,A,ps.length,c⟩) (hg:Qbv ps = true) (hz:∀ t ∈ ps,Qao t ≤ 1000) (hl:Qah ps ≤ 90000) (hf:fitT (Qa3 ps) = true) (hw:Qa9 (Qa3 ps) = true) :
  Calls Try.prog 18 #[.slice A ps.length c] w fun e w'=>∃ A' c',e = .returned (.slice A' (Qfi ps).length c') ∧ OutOk ps w' A' c' ∧ Below w.heap.size w w':=by
 refine (outline_any S A c ps w hp hg hz (Nat.le_trans (Qas ps) hl)).mono ?_
 rintro e w' ⟨A',c',rfl,ho,hb⟩
 have hlen:(Qfi ps).length = ps.length:=by unfold Qfi;rw [List.length_map]
 have hfo:=fit_out hz hg hf
 rw [← hlen] at ho ⊢
 exact ⟨A',c',rfl,⟨ho.node 0 ⟨#[]⟩ fun b _ hb'=>hb',hfo,fit_small _ hfo,words_out hz hg hw,Nat.le_trans (out_sizes hz hg).2 hl,out_prog hz hg⟩,hb⟩
end Go.Proofs.Ytclkilljmdkfaaa
