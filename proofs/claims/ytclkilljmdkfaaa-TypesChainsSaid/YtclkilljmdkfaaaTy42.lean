/- Part 42: The contract of Uses of package link. The contracts of samePlace and sameTargets of the law of link, at equal places and lists. Plain: what a target of a program is; what the definition is to which it refers. Plain: what a name of a type means is an alias; the steps of the walk along aliases. The contract of awake of the law of link. -/
import Derived.Test.YtclkilljmdkfaaaTy1
import Derived.Test.YtclkilljmdkfaaaTy41
import Derived.Test.YtclkilljmdkfaaaTy25
import Derived.Test.YtclkilljmdkfaaaTy37
import Derived.Test.YtclkilljmdkfaaaTy38
import Derived.Test.YtclkilljmdkfaaaTy31
import Derived.Test.YtclkilljmdkfaaaTy39
import Derived.Lib.AppendZerosOnto
import Derived.Lib.Walk
import Derived.Lib.SliceRun
import Derived.Deep.RegionHeld3
import Derived.Laws.EntriesVeiled
import Derived.Deep.QuietTactic
import Derived.Deep.RegionLaw
import Derived.Deep.DeepCutAuto
set_option maxRecDepth 100000
set_option maxHeartbeats 4000000
namespace Go.Proofs.Ytclkilljmdkfaaa
open Go.RowKit Go.Shelf
theorem tCells_get:{ws:List TgV} → {j:Nat} → {y:TgV} → ws[j]? = some y → (Qda ws)[j * 5]? = some (.int .i64 y.1) ∧ (Qda ws)[j * 5 + 1]? = some y.2.1 ∧ (Qda ws)[j * 5 + 2]? = some (.int .i64 y.2.2.1) ∧ (Qda ws)[j * 5 + 3]? = some (.int .i64 y.2.2.2.1) ∧ (Qda ws)[j * 5 + 4]? = some (.bool y.2.2.2.2)
 | [],_,_,h=>by simp at h
 | u :: r,0,y,h=>by
  injection h with h
  subst h
  exact ⟨rfl,rfl,rfl,rfl,rfl⟩
 | u :: r,j + 1,y,h=>by
  have ih:=tCells_get (ws:=r) (j:=j) (y:=y) h
  have hs:∀ k,(Qda (u :: r))[(j + 1) * 5 + k]? = (Qda r)[j * 5 + k]?:=fun k=>by
   unfold Qda
   rw [List.flatMap_cons,show (j + 1) * 5 + k = j * 5 + k + 5 from by omega,List.getElem?_append_right (by simp [tgC])]
   simp [tgC]
  exact ⟨(hs 0).trans ih.1,(hs 1).trans ih.2.1,(hs 2).trans ih.2.2.1,(hs 3).trans ih.2.2.2.1,(hs 4).trans ih.2.2.2.2⟩
theorem TgsAt.at {w:World} {B:Nat} {A:Option Addr} {n c:Nat} {zs:List Tgm} (h:TgsAt w B (.slice A n c) zs) {j:Nat} {z:Tgm} (hz:zs[j]? = some z):n = zs.length ∧ ∃ g pv,A = some ⟨g,0,none⟩ ∧ B ≤ g ∧ g < w.heap.size ∧
  w.cell? ⟨g,j * 5,none⟩ = some (.int .i64 z.1) ∧ w.cell? ⟨g,j * 5 + 1,none⟩ = some pv ∧ w.cell? ⟨g,j * 5 + 2,none⟩ = some (.int .i64 z.2.2.1) ∧ w.cell? ⟨g,j * 5 + 3,none⟩ = some (.int .i64 z.2.2.2.1) ∧ w.cell? ⟨g,j * 5 + 4,none⟩ = some (.bool z.2.2.2.2) ∧ IRow w B pv z.2.1:=by
 obtain ⟨ws,h1,h2⟩:=h
 have hj:j < ws.length:=by rw [h2.1];exact (List.getElem?_eq_some_iff.1 hz).1
 obtain ⟨y,hy⟩:∃ y,ws[j]? = some y:=⟨_,xF hj⟩
 obtain ⟨a1,a2,a3⟩:=h2.2 j y z hy hz
 have hn:n = ws.length:=by
  rcases h1.2 with ⟨e,h0⟩ | ⟨g,cap,cur,e,_⟩
  ·injection e with _ e _
   omega
  ·injection e with _ e _
 refine ⟨by rw [hn,h2.1],?_⟩
 obtain ⟨g,cap,e,hg,hlt⟩:=h1.form (by omega)
 injection e with e _ _
 subst e
 have hc:=h1.cells (g:=g) rfl
 obtain ⟨q0,q1,q2,q3,q4⟩:=tCells_get hy
 have e0:=hc _ _ q0
 have e1:=hc _ _ q1
 have e2:=hc _ _ q2
 have e3:=hc _ _ q3
 have e4:=hc _ _ q4
 rw [Addr.add_lit] at e0 e1 e2 e3 e4
 simp only [Nat.zero_add] at e0 e1 e2 e3 e4
 rw [a3] at e2 e3 e4
 rw [a1] at e0
 exact ⟨g,y.2.1,rfl,hg,hlt,e0,e1,e2,e3,e4,a2⟩
theorem Qbe {w w':World} {g o:Nat} {x:Value} (hb:Below w.heap.size w w') (hg:g < w.heap.size) (h:w.cell? ⟨g,o,none⟩ = some x):w'.cell? ⟨g,o,none⟩ = some x:=(xJ (w:=w) (a:=⟨g,o,none⟩) (hb.block g hg)).trans h
end Go.Proofs.Ytclkilljmdkfaaa
namespace Go.Proofs.Ytclkilljmdkfaaa
open Go.RowKit
theorem shaped_named {t:Tr} (h:Qai t = true):Qa6 (Qae t.kind) t.text = true:=by
 rw [shapedT_eq] at h
 simp at h
 exact h.1.2
theorem module_kid {t k:Tr} {d:Nat} (hz:Qao t ≤ 1000) (h:Qai t = true) (hk:t.kind = 1) (ht:t.kids[d]? = some k):k.kind = 2 ∨ k.kind = 3:=by
 rw [← Qbq _ t (xA _) hz,Qb7] at h
 simp only [Bool.and_eq_true] at h
 have h2:=h.2
 have key:∀ (l:List Tr) (n i j:Nat),Qa0 1 n i l = true → ∀ a,l[j]? = some a → a.kind = 2 ∨ a.kind = 3:=by
  intro l
  induction l with
  | nil=>intro n i j _ a ha;simp at ha
  | cons b r ih =>
   intro n i j hr a ha
   rw [Qa0] at hr
   simp only [Bool.and_eq_true] at hr
   match j,ha with
   | 0,ha =>
    injection ha with ha
    subst ha
    have:=hr.1.1
    unfold kidR at this
    rw [if_pos rfl] at this
    simpa using this
   | j + 1,ha=>exact ih n (i + 1) j hr.2 a (by simpa using ha)
 rw [hk] at h2
 exact key _ _ _ d h2 k ht
theorem kinds_agree {ps:List Tr} {m d:Nat} {t u k:Tr} (hs:Qai u = true) (hu:u.kind = 16 ∨ u.kind = 9) (_ht:ps[m]? = some t) (hT:Qai t = true) (hk1:t.kind = 1) (hz:Qao t ≤ 1000) (hk:t.kids[d]? = some k) (hx:k.text = (divP u.text).2.1):(u.kind = 16 ↔ k.kind = 2):=by
 have hks:Qai k = true:=(shaped_kids hz hT).2 _ (List.mem_of_getElem? hk)
 have hkk:=module_kid hz hT hk1 hk
 have hun:=shaped_named hs
 have hkn:=shaped_named hks
 have ck:Qaj (bl k.text) = 1 ∧ k.kind = 2 ∨ Qaj (bl k.text) = 2 ∧ k.kind = 3:=by
  rcases hkk with e | e
  ·rw [e] at hkn
   exact .inl ⟨name_func hkn,e⟩
  ·rw [e] at hkn
   exact .inr ⟨name_alias hkn,e⟩
 have cu:(Qaj (bl u.text) = 1 ∨ Qaj (bl u.text) = 3) ∧ u.kind = 16 ∨ (Qaj (bl u.text) = 2 ∨ Qaj (bl u.text) = 4) ∧ u.kind = 9:=by
  rcases hu with e | e
  ·rw [e] at hun
   exact .inl ⟨name_call hun,e⟩
  ·rw [e] at hun
   exact .inr ⟨name_named hun,e⟩
 by_cases hd:dotP u.text < u.text.size
 ·have hdv:(divP u.text).2.1 = u.text.extract (dotP u.text + 1) u.text.size:=by unfold divP;rw [if_pos hd]
  rw [hdv] at hx
  have hb:bl k.text = (bl u.text).drop (dotG (bl u.text) + 1):=by
   rw [hx,bl_name]
   rfl
  have hdl:dotG (bl u.text) < (bl u.text).length:=by rw [Qdz];exact hd
  have c1:1 ≤ Qaj (bl u.text) ∧ Qaj (bl u.text) ≤ 4:=by omega
  have hcd:=class_dot c1.1 c1.2 hdl
  have hcf:=class_first (l:=bl k.text) (by omega)
  rw [hb,lnk_at_drop,← hb] at hcf
  rcases hcd with ⟨a1,a2⟩ | ⟨a1,a2⟩
  ·rw [a2] at hcf
   have:=of_decide_eq_true hcf.symm
   omega
  ·rw [a2] at hcf
   have:=of_decide_eq_false hcf.symm
   omega
 ·have hdv:(divP u.text).2.1 = u.text:=by unfold divP;rw [if_neg hd]
  rw [hdv] at hx
  rw [hx] at ck
  omega
theorem core_size (N:Nat):∀ t:Tr,SizeOf.sizeOf t ≤ N → Qa1 t = true → 5 ≤ t.kind ∧ t.kind ≤ 9 → Qao (Qa2 t) ≤ Qao t:=by
 induction N with
 | zero=>intro t h;have:=tr_pos t;omega
 | succ N ih =>
  intro t hN h hk
  rcases type_cases h hk with ⟨h8,k,hkk,h1,h2⟩ | ⟨h8,_,_⟩
  ·have hj:t.kids[0]? = some k:=by rw [hkk];rfl
   rw [(core_list h8 hkk).1]
   exact Nat.le_trans (ih k (by have:=Qdv hj;omega) h2 h1) (Qdu hj)
  ·rw [(Qdm h8).1]
   exact xA _
def RefOk (ps:List Tr) (r:Int × Int × Bool):Prop:=(r.2.2 = false ∧ r = (0,0,false)) ∨ ∃ (M D:Nat) (t k:Tr),r = ((M:Int),(D:Int),true) ∧ ps[M]? = some t ∧ t.kids[D]? = some k ∧ k.kind = 3
theorem look_alias {ps:List Tr} (hz:∀ t ∈ ps,Qao t ≤ 1000) (hg:Qbv ps = true) {i:Nat} {u:Tr} (hu:Qa1 u = true) (h9:u.kind = 9) (hs:Qao u ≤ 1000):RefOk ps (Qaw ps i u.text):=by
 cases hf:(Qaw ps i u.text).2.2 with
 | false=>exact .inl ⟨hf,look_no hf⟩
 | true =>
  obtain ⟨M,D,t,k,h1,h2,h3,h4⟩:=look_def hf
  refine .inr ⟨M,D,t,k,h4,h1,h2,?_⟩
  obtain ⟨q1,q2⟩:=Qdy hg h1
  have hzt:=hz t (List.mem_of_getElem? h1)
  have hk:=module_kid hzt q2 q1 h2
  have hus:Qai u = true:=by rw [← Qbq _ u (xA _) hs];exact hu
  have:=kinds_agree hus (.inr h9) h1 q2 q1 hzt h2 h3
  omega
theorem goL_no {ps:List Tr} {f n:Nat} {r:Int × Int × Bool} {met:List (Int × Int)} {R:Int × Nat × Int} (h:goL ps f r met n = some R) (hr:r.2.2 = false):R = (7,0,0):=by
 cases f with
 | zero=>rw [goL] at h;cases h
 | succ f =>
  rw [goL,if_neg (by rw [hr];decide)] at h
  injection h with h
  exact h.symm
theorem goL_met {ps:List Tr} {f n:Nat} {r:Int × Int × Bool} {met:List (Int × Int)} {R:Int × Nat × Int} (h:goL ps f r met n = some R) (hr:r.2.2 = true) (hm:(r.1,r.2.1) ∈ met):R = (19,0,0):=by
 cases f with
 | zero=>rw [goL] at h;cases h
 | succ f =>
  rw [goL,if_pos hr,if_pos hm] at h
  injection h with h
  exact h.symm
theorem goL_leaf {ps:List Tr} {f n M D:Nat} {met:List (Int × Int)} {R:Int × Nat × Int} (h:goL ps f ((M:Int),(D:Int),true) met n = some R) (hm:((M:Int),(D:Int)) ∉ met) (h9:(Qcq (defT ps M D)).kind ≠ 9):R = (0,n + Qa7 (typeD ps M D),(Qcq (defT ps M D)).kind):=by
 cases f with
 | zero=>rw [goL] at h;cases h
 | succ f =>
  rw [goL,if_pos rfl,if_neg hm,if_neg (by simp only [Int.toNat_natCast];exact h9)] at h
  injection h with h
  simp only [Int.toNat_natCast] at h
  exact h.symm
theorem goL_next {ps:List Tr} {f n M D:Nat} {met:List (Int × Int)} {R:Int × Nat × Int} (h:goL ps f ((M:Int),(D:Int),true) met n = some R) (hm:((M:Int),(D:Int)) ∉ met) (h9:(Qcq (defT ps M D)).kind = 9) :
  ∃ f',f = f' + 1 ∧ goL ps f' (Qaw ps M (Qcq (defT ps M D)).text) (met ++ [((M:Int),(D:Int))]) (n + Qa7 (typeD ps M D)) = some R:=by
 cases f with
 | zero=>rw [goL] at h;cases h
 | succ f =>
  refine ⟨f,rfl,?_⟩
  rw [goL,if_pos rfl,if_neg hm,if_pos (by simp only [Int.toNat_natCast];exact h9)] at h
  simp only [Int.toNat_natCast] at h
  exact h
theorem ref_def {ps:List Tr} (hz:∀ t ∈ ps,Qao t ≤ 1000) (hg:Qbv ps = true) {M D:Nat} {t k:Tr} (ht:ps[M]? = some t) (hk:t.kids[D]? = some k) (h3:k.kind = 3) :
  ∃ a,k.kids = [a] ∧ typeD ps M D = a ∧ Qcq (defT ps M D) = Qa2 a ∧ Qa1 a = true ∧ (5 ≤ a.kind ∧ a.kind ≤ 9) ∧ Qao a ≤ 1000:=by
 have hok:=def_ok hz hg ht hk
 obtain ⟨a,h1,h2,h4⟩:=alias_kid hok.2.1 h3
 have hd:=defT_get ht hk
 have haj:k.kids[0]? = some a:=by rw [h1];rfl
 refine ⟨a,h1,by unfold typeD;rw [hd,haj,Option.getD_some],by unfold Qcq;rw [hd,haj,Option.getD_some],h4,h2,?_⟩
 have:=Qdu haj
 have:=hok.2.2
 omega
end Go.Proofs.Ytclkilljmdkfaaa
namespace Go.Proofs.Ytclkilljmdkfaaa
open Go.RowKit Go.Shelf
theorem root_two {w:World} {a b:Tr} {va vb:TV} {S S':Nat → Prop} {g:Nat} (ha:TrAt S w a va) (hb:TrAt S' w b vb) (hS:∀ k,S k → k < w.heap.size) (hS':∀ k,S' k → k < w.heap.size)
  (hh:w.heap[g]? = some (.cells #[.int .i64 va.kind,.string va.text,.slice va.la va.ll va.lc,.slice va.ka va.kl va.kc,.int .i64 vb.kind,.string vb.text,.slice vb.la vb.ll vb.lc,.slice vb.ka vb.kl vb.kc] 27 (0,0))) :
  TrAt (fun b=>0 ≤ b ∧ b < w.heap.size) w (Qa3 [a,b]) ⟨0,⟨#[]⟩,none,0,0,some ⟨g,0,none⟩,2,2⟩:=by
 refine root_at (ps:=[a,b]) (us:=[va,vb]) (xA _) rfl (fun _=>⟨g,_,rfl,Nat.zero_le _,hh,fun i v hv=>?_⟩) (fun i k u hk hu=>?_)
 ·match i,hv with
  | 0,hv =>
   injection hv with hv
   subst hv
   exact ⟨rfl,rfl,rfl,rfl⟩
  | 1,hv =>
   injection hv with hv
   subst hv
   exact ⟨rfl,rfl,rfl,rfl⟩
  | i + 2,hv=>simp at hv
 ·match i,hk,hu with
  | 0,hk,hu =>
   injection hk with hk
   injection hu with hu
   subst hk hu
   exact TrAt.move (fun k h=>⟨Nat.zero_le _,hS k h⟩) (fun _ _ _=>rfl) _ _ ha
  | 1,hk,hu =>
   injection hk with hk
   injection hu with hu
   subst hk hu
   exact TrAt.move (fun k h=>⟨Nat.zero_le _,hS' k h⟩) (fun _ _ _=>rfl) _ _ hb
  | i + 2,hk,_=>simp at hk
end Go.Proofs.Ytclkilljmdkfaaa
