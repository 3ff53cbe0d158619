/- Part 37: The contract of the reference's pieces at every tree of the right shape. Plain: the pieces of a tree of the right shape whose leads may stand there are tokens; a module's end with a tail. Plain: a tree all of whose leads are empty; its tokens are those of the tree. -/
import Derived.Test.YtnnfdbmanamfdaaGreatSt1
import Derived.Test.YtnnfdbmanamfdaaGreatSt33
import Derived.Test.YtnnfdbmanamfdaaGreatSt34
import Derived.Test.YtnnfdbmanamfdaaGreatSt35
import Derived.Test.YtnnfdbmanamfdaaGreatSt36
import Derived.Test.YtnnfdbmanamfdaaGreatSt28
set_option maxRecDepth 100000
set_option linter.unusedVariables false
set_option linter.unusedSimpArgs false
set_option maxHeartbeats 4000000
namespace Go.Proofs.YtnnfdbmanamfdaaGreat
open Go.RowKit
theorem shapedRL_all (k:Int) (n:Nat):∀ (ks:List Tr) (i:Nat),Qcm k n i ks = true → ∀ a ∈ ks,Qct a = true
 | [],_,_,a,h=>by simp at h
 | b :: r,i,h,a,ha=>by
  rw [Qcm,Bool.and_eq_true,Bool.and_eq_true] at h
  rcases List.mem_cons.1 ha with rfl | ha
  ·exact h.1.2
  ·exact shapedRL_all k n r (i + 1) h.2 a ha
theorem shaped_kids {t:Tr} (hz:Qan t ≤ 1000) (h:Qao t = true):0 ≤ Qau t.kind t.kids.length ∧ ∀ a ∈ t.kids,Qao a = true:=by
 rw [← Qfb _ t (xA _) hz,Qg4,Bool.and_eq_true,Bool.and_eq_true] at h
 refine ⟨by have h1:=h.1.1;rw [Bool.not_eq_true'] at h1;have h2:=of_decide_eq_false h1;omega,fun a ha=>?_⟩
 have h1:=shapedRL_all _ _ _ _ h.2 a ha
 rw [← Qfb _ a (xA _) (by have h2:=mem_size ha;have h3:=Qbv t;omega)]
 exact h1
theorem two_last {α:Type} (l:List α) (h:2 ≤ l.length):∃ qs a b,l = qs ++ [a,b]:=by
 have hd:(l.drop (l.length - 2)).length = 2:=by rw [List.length_drop];omega
 match hm:l.drop (l.length - 2),hd with
 | [a,b],_=>exact ⟨l.take (l.length - 2),a,b,by rw [← hm,List.take_append_drop]⟩
theorem Qd5 {n:Nat} {must m:Int} (h:0 ≤ Qba n must m):(n:Int) = must:=by
 unfold Qba at h
 by_cases e:(n:Int) = must
 ·exact e
 ·rw [if_neg e] at h
  omega
theorem len_two {α:Type} (l:List α) (h:l.length = 2):∃ a b,l = [a,b]:=by
 match l,h with
 | [a,b],_=>exact ⟨a,b,rfl⟩
theorem len_three {α:Type} (l:List α) (h:l.length = 3):∃ a b c,l = [a,b,c]:=by
 match l,h with
 | [a,b,c],_=>exact ⟨a,b,c,rfl⟩
theorem rpieces_all:∀ N:Nat,PcC N
 | 0=>fun B l ps t v w h=>by have:=tr_pos t;omega
 | N + 1=>by
  have ih:=rpieces_all N
  intro B l ps t v w hN ht hs hz hl hB hb
  obtain ⟨h1,h2⟩:=shaped_kids hz hs
  have hkl:=ht.kl
  obtain ⟨k,x,ls,ks⟩:=t
  obtain ⟨vk,vx,vla,vll,vlc,vka,vkl,vkc⟩:=v
  simp only [Tr.kind,Tr.text,Tr.leads,Tr.kids] at hkl h1 h2
  obtain ⟨rfl,rfl,rfl,rfl⟩:=hkl
  by_cases h0:vk ≤ 0 ∨ 23 ≤ vk
  ·have hm:Qau vk ks.length = -1:=by unfold Qau;simp only [show vk ≠ 1 from by omega,show vk ≠ 2 from by omega,show vk ≠ 3 from by omega,show vk ≠ 4 from by omega,show vk ≠ 5 from by omega,show vk ≠ 6 from by omega,show vk ≠ 7 from by omega,show vk ≠ 8 from by omega,show vk ≠ 9 from by omega,show vk ≠ 10 from by omega,show vk ≠ 11 from by omega,show vk ≠ 12 from by omega,show vk ≠ 13 from by omega,show vk ≠ 14 from by omega,show vk ≠ 15 from by omega,show vk ≠ 16 from by omega,show vk ≠ 17 from by omega,show vk ≠ 18 from by omega,show vk ≠ 19 from by omega,show vk ≠ 20 from by omega,show vk ≠ 21 from by omega,show vk ≠ 22 from by omega,if_false]
   omega
  ·rcases kid_cases h0 with rfl | rfl | rfl | rfl | rfl | rfl | rfl | rfl | rfl | rfl | rfl | rfl | rfl | rfl | rfl | rfl | rfl | rfl | rfl | rfl | rfl | rfl
   ·exact rpieces_1 ih B l ps vx ls ks vla vka vlc vkc w hN ht (fun j k hk=>h2 k (List.mem_of_getElem? hk)) hz hl hB hb
   ·have hn:2 ≤ ks.length:=by
     rcases Nat.lt_or_ge ks.length 2 with h' | h'
     ·have hm:Qau 2 ks.length = -1:=by show (if 2 ≤ (ks.length:Int) then 6 + max 0 ((ks.length:Int) - 3) else -1) = _;rw [if_neg (by omega)]
      omega
     ·exact h'
    obtain ⟨qs,a,b,rfl⟩:=two_last ks hn
    have hlen:(qs ++ [a,b]).length = qs.length + 2:=by simp
    rw [hlen] at ht ⊢
    exact rpieces_2 ih B l ps vx ls qs a b vla vka vlc vkc w hN ht (h2 a (by simp)) (h2 b (by simp)) (fun k hk=>h2 k (by simp [hk])) hz hl hB hb
   ·have hn:=Qd5 (n:=ks.length) (must:=1) (m:=3) h1
    obtain ⟨a,rfl⟩:=List.length_eq_one_iff.1 (show ks.length = 1 from by omega)
    exact rpieces_3 ih B l ps vx ls a vla vka vlc vkc w hN ht (h2 a (by simp)) hz hl hB hb
   ·have hn:=Qd5 (n:=ks.length) (must:=1) (m:=2) h1
    obtain ⟨a,rfl⟩:=List.length_eq_one_iff.1 (show ks.length = 1 from by omega)
    exact rpieces_4 ih B l ps vx ls a vla vka vlc vkc w hN ht (h2 a (by simp)) hz hl hB hb
   ·obtain rfl:ks = []:=List.eq_nil_of_length_eq_zero (by have hn:=Qd5 (n:=ks.length) (must:=0) (m:=1) h1;omega)
    exact rpieces_5 ih B l ps vx ls vla vka vlc vkc w hN ht hz hl hB hb
   ·obtain rfl:ks = []:=List.eq_nil_of_length_eq_zero (by have hn:=Qd5 (n:=ks.length) (must:=0) (m:=1) h1;omega)
    exact rpieces_6 ih B l ps vx ls vla vka vlc vkc w hN ht hz hl hB hb
   ·obtain rfl:ks = []:=List.eq_nil_of_length_eq_zero (by have hn:=Qd5 (n:=ks.length) (must:=0) (m:=1) h1;omega)
    exact rpieces_7 ih B l ps vx ls vla vka vlc vkc w hN ht hz hl hB hb
   ·have hn:=Qd5 (n:=ks.length) (must:=1) (m:=2) h1
    obtain ⟨a,rfl⟩:=List.length_eq_one_iff.1 (show ks.length = 1 from by omega)
    exact rpieces_8 ih B l ps vx ls a vla vka vlc vkc w hN ht (h2 a (by simp)) hz hl hB hb
   ·obtain rfl:ks = []:=List.eq_nil_of_length_eq_zero (by have hn:=Qd5 (n:=ks.length) (must:=0) (m:=1) h1;omega)
    exact rpieces_9 ih B l ps vx ls vla vka vlc vkc w hN ht hz hl hB hb
   ·obtain rfl:ks = []:=List.eq_nil_of_length_eq_zero (by have hn:=Qd5 (n:=ks.length) (must:=0) (m:=1) h1;omega)
    exact rpieces_10 ih B l ps vx ls vla vka vlc vkc w hN ht hz hl hB hb
   ·obtain rfl:ks = []:=List.eq_nil_of_length_eq_zero (by have hn:=Qd5 (n:=ks.length) (must:=0) (m:=1) h1;omega)
    exact rpieces_11 ih B l ps vx ls vla vka vlc vkc w hN ht hz hl hB hb
   ·obtain rfl:ks = []:=List.eq_nil_of_length_eq_zero (by have hn:=Qd5 (n:=ks.length) (must:=0) (m:=1) h1;omega)
    exact rpieces_12 ih B l ps vx ls vla vka vlc vkc w hN ht hz hl hB hb
   ·obtain rfl:ks = []:=List.eq_nil_of_length_eq_zero (by have hn:=Qd5 (n:=ks.length) (must:=0) (m:=1) h1;omega)
    exact rpieces_13 ih B l ps vx ls vla vka vlc vkc w hN ht hz hl hB hb
   ·obtain rfl:ks = []:=List.eq_nil_of_length_eq_zero (by have hn:=Qd5 (n:=ks.length) (must:=0) (m:=1) h1;omega)
    exact rpieces_14 ih B l ps vx ls vla vka vlc vkc w hN ht hz hl hB hb
   ·obtain rfl:ks = []:=List.eq_nil_of_length_eq_zero (by have hn:=Qd5 (n:=ks.length) (must:=0) (m:=1) h1;omega)
    exact rpieces_15 ih B l ps vx ls vla vka vlc vkc w hN ht hz hl hB hb
   ·exact rpieces_16 ih B l ps vx ls ks vla vka vlc vkc w hN ht (fun j k hk=>h2 k (List.mem_of_getElem? hk)) hz hl hB hb
   ·have hn:=Qd5 (n:=ks.length) (must:=1) (m:=0) h1
    obtain ⟨a,rfl⟩:=List.length_eq_one_iff.1 (show ks.length = 1 from by omega)
    exact rpieces_17 ih B l ps vx ls a vla vka vlc vkc w hN ht (h2 a (by simp)) hz hl hB hb
   ·exact rpieces_18 ih B l ps vx ls ks vla vka vlc vkc w hN ht (fun j k hk=>h2 k (List.mem_of_getElem? hk)) hz hl hB hb
   ·have hn:=Qd5 (n:=ks.length) (must:=3) (m:=3) h1
    obtain ⟨a,b,c,rfl⟩:=len_three ks (show ks.length = 3 from by omega)
    exact rpieces_19 ih B l ps vx ls a b c vla vka vlc vkc w hN ht (h2 a (by simp)) (h2 b (by simp)) (h2 c (by simp)) hz hl hB hb
   ·have hn:=Qd5 (n:=ks.length) (must:=2) (m:=4) h1
    obtain ⟨a,b,rfl⟩:=len_two ks (show ks.length = 2 from by omega)
    exact rpieces_20 ih B l ps vx ls a b vla vka vlc vkc w hN ht (h2 a (by simp)) (h2 b (by simp)) hz hl hB hb
   ·have hn:=Qd5 (n:=ks.length) (must:=2) (m:=1) h1
    obtain ⟨a,b,rfl⟩:=len_two ks (show ks.length = 2 from by omega)
    exact rpieces_21 ih B l ps vx ls a b vla vka vlc vkc w hN ht (h2 a (by simp)) (h2 b (by simp)) hz hl hB hb
   ·have hn:=Qd5 (n:=ks.length) (must:=1) (m:=2) h1
    obtain ⟨a,rfl⟩:=List.length_eq_one_iff.1 (show ks.length = 1 from by omega)
    exact rpieces_22 ih B l ps vx ls a vla vka vlc vkc w hN ht (h2 a (by simp)) hz hl hB hb
theorem op_class {x:ByteArray} (h:opB x = true):Qam (bl x) ≠ 0:=by
 unfold opB is at h
 simp only [Bool.or_eq_true,beq_iff_eq] at h
 rw [← bl_data]
 rcases h with (((h | h) | h) | h) | h
 all_goals
  rw [h]
  decide
theorem name_class {n:Nat} {x:ByteArray} (hn:n ≠ 0) (h:Qbi n (Qam (bl x)) x = true):Qam (bl x) ≠ 0:=by
 intro h0
 rw [h0] at h
 unfold Qbi at h
 repeat' split at h
 all_goals first
  | (simp at h;done)
  | exact op_class h h0
theorem named_class:(l:List Part) → (x:ByteArray) → Qa9 l x = true → (∀ p ∈ l,∀ q ∈ l,p.nm ≠ 0 → q.nm ≠ 0 → p.nm = q.nm) → ∀ p ∈ l,p.nm ≠ 0 → Qam (bl x) ≠ 0
 | [],_,_,_,p,hp,_=>by simp at hp
 | a :: r,x,h,hu,p,hp,hn=>by
  rw [Qa9] at h
  by_cases ha:a.nm = 0
  ·rw [if_pos ha] at h
   rcases List.mem_cons.1 hp with rfl | hp
   ·exact absurd ha hn
   ·exact named_class r x h (fun p hp q hq=>hu p (List.mem_cons_of_mem _ hp) q (List.mem_cons_of_mem _ hq)) p hp hn
  ·rw [if_neg ha] at h
   exact name_class ha h
def partsOk (l:List Part):Bool:=l.all (fun x=>x.kids != 0 || x.nm != 0 || Qam (bl x.word) != 0) && l.all fun p=>l.all fun q=>p.nm == 0 || q.nm == 0 || p.nm == q.nm
theorem parts_all:(List.range 21).all (fun i=>partsOk (Qae ((i:Int) + 2))) = true:=by kernel_rfl
theorem parts_ok {k:Int} (h:k ≠ 1):partsOk (Qae k) = true:=by
 by_cases hk:2 ≤ k ∧ k ≤ 22
 ·have h1:=List.all_eq_true.1 parts_all (k - 2).toNat (List.mem_range.2 (by omega))
  rwa [show (((k - 2).toNat:Nat):Int) + 2 = k from by omega] at h1
 ·have:Qae k = []:=by
   unfold Qae
   repeat' rw [if_neg (by omega)]
  rw [this]
  rfl
theorem getD_trivia {ls:List ByteArray} (h:∀ y ∈ ls,Qfp y false = true) (i:Nat):Qfp ((ls[i]?).getD ⟨#[]⟩) false = true:=by
 cases e:ls[i]? with
 | none=>exact none_trivia
 | some y=>exact h y (List.mem_of_getElem? e)
theorem piecesAt_good {co:Bool} {cs:List ByteArray} (hc:∀ y ∈ cs,Qfp y false = true):(l:List (List Qbg)) → (i:Nat) → (∀ q ∈ l,∀ p ∈ q,GoodP p) → ∀ p ∈ Qa6 co cs i l,GoodP p
 | [],_,_,p,hp=>by rw [Qa6] at hp;simp at hp
 | q :: r,i,h,p,hp=>by
  rw [Qa6] at hp
  rcases List.mem_append.1 hp with hp | hp
  ·rcases List.mem_append.1 hp with hp | hp
   ·split at hp
    ·rw [List.mem_singleton] at hp
     subst hp
     exact ⟨show Qam (bl ⟨#[44]⟩) ≠ 0 by decide,getD_trivia hc _⟩
    ·simp at hp
   ·exact h q (by simp) p hp
  ·exact piecesAt_good hc r (i + 1) (fun q hq=>h q (by simp [hq])) p hp
theorem piecesN_good {n:Int} {tx:ByteArray} {cs:List ByteArray} (hc:∀ y ∈ cs,Qfp y false = true):(l:List Part) → (ls:List ByteArray) → (ks:List (List Qbg)) → (∀ x ∈ l,x.kids = 0 → (x.nm = 0 → Qam (bl x.word) ≠ 0) ∧ (x.nm ≠ 0 → Qam (bl tx) ≠ 0)) →
  (∀ y ∈ ls,Qfp y false = true) → (∀ q ∈ ks,∀ p ∈ q,GoodP p) → ∀ p ∈ Qbo n tx cs l ls ks,GoodP p
 | [],_,_,_,_,_,p,hp=>by rw [Qbo] at hp;simp at hp
 | x :: r,ls,ks,h,hl,hk,p,hp=>by
  rw [Qbo] at hp
  split at hp
  ·rcases List.mem_append.1 hp with hp | hp
   ·exact piecesAt_good hc _ 0 (fun q hq=>hk q (List.mem_of_mem_take hq)) p hp
   ·exact piecesN_good hc r ls _ (fun y hy=>h y (List.mem_cons_of_mem _ hy)) hl (fun q hq=>hk q (List.mem_of_mem_drop hq)) p hp
  ·rename_i hx
   have hx0:x.kids = 0:=by simpa using hx
   rcases List.mem_cons.1 hp with rfl | hp
   ·refine ⟨?_,getD_trivia hl 0⟩
    show Qam (bl (if x.nm ≠ 0 then tx else x.word)) ≠ 0
    obtain ⟨h1,h2⟩:=h x (by simp) hx0
    split
    ·rename_i hn;exact h2 hn
    ·rename_i hn;exact h1 (by simpa using hn)
   ·exact piecesN_good hc r (ls.drop 1) ks (fun y hy=>h y (List.mem_cons_of_mem _ hy)) (fun y hy=>hl y (List.mem_of_mem_drop hy)) hk p hp
theorem trivL_all (kd:Int) (hk:kd ≠ 1):(l:List ByteArray) → (i:Nat) → trivL kd i l = true → ∀ y ∈ l,Qfp y false = true
 | [],_,_,y,hy=>by simp at hy
 | a :: r,i,h,y,hy=>by
  rw [trivL] at h
  simp only [Bool.and_eq_true] at h
  rcases List.mem_cons.1 hy with rfl | hy
  ·have h1:=h.1
   rw [show (kd == 1) = false from beq_eq_false_iff_ne.2 hk] at h1
   simpa using h1
  ·exact trivL_all kd hk r (i + 1) h.2 y hy
theorem ledL_all:(l:List Tr) → ledL l = true → ∀ k ∈ l,ledT k = true
 | [],_,k,hk=>by simp at hk
 | a :: r,h,k,hk=>by
  rw [ledL] at h
  simp only [Bool.and_eq_true] at h
  rcases List.mem_cons.1 hk with rfl | hk
  ·exact h.1
  ·exact ledL_all r h.2 k hk
theorem kid_kind {t k:Tr} {j:Nat} (hz:Qan t ≤ 1000) (h:Qao t = true) (ht:t.kids[j]? = some k):k.kind ≠ 1:=by
 rw [← Qfb _ t (xA _) hz,Qg4] at h
 simp only [Bool.and_eq_true] at h
 have h2:=h.2
 have key:∀ (l:List Tr) (tk:Int) (n i j:Nat),Qcm tk n i l = true → ∀ a,l[j]? = some a → a.kind ≠ 1:=by
  intro l
  induction l with
  | nil=>intro tk n i j _ a ha;simp at ha
  | cons b r ih =>
   intro tk n i j hr a ha
   rw [Qcm] at hr
   simp only [Bool.and_eq_true] at hr
   match j,ha with
   | 0,ha =>
    injection ha with ha
    subst ha
    intro h1
    have h3:=hr.1.1
    rw [h1] at h3
    unfold Qhh at h3
    repeat' split at h3
    all_goals first
     | exact absurd h3 (by decide)
     | (rw [show unitB 1 = false from by decide] at h3;simp at h3)
   | j + 1,ha=>exact ih tk n (i + 1) j hr.2 a (by simpa using ha)
 exact key _ _ _ _ j h2 k ht
theorem shaped_name {t:Tr} (h:Qao t = true):Qa9 (Qae t.kind) t.text = true:=by
 rw [shapedT_eq] at h
 simp only [Bool.and_eq_true] at h
 exact h.1.2
theorem pieces_good (N:Nat):∀ t:Tr,SizeOf.sizeOf t ≤ N → Qan t ≤ 1000 → t.kind ≠ 1 → Qao t = true → ledT t = true → ∀ p ∈ Qaf t,GoodP p:=by
 induction N with
 | zero=>intro t h;have:=tr_pos t;omega
 | succ N ih =>
  intro t hN hz hk hs hl p hp
  rw [Qdc] at hp
  have hP:=parts_ok hk
  unfold partsOk at hP
  simp only [Bool.and_eq_true,List.all_eq_true] at hP
  have hnm:=shaped_name hs
  rw [ledT_eq] at hl
  simp only [Bool.and_eq_true] at hl
  have htr:=trivL_all t.kind hk t.leads 0 hl.1.2
  refine piecesN_good (fun y hy=>htr y (List.mem_of_mem_drop hy)) _ _ _ (fun x hx hx0=>⟨fun h0=>?_,fun h0=>?_⟩) htr (fun q hq p hp=>?_) p hp
  ·have:=hP.1 x hx
   rw [hx0,h0] at this
   simpa using this
  ·refine named_class _ _ hnm (fun a ha b hb h1 h2=>?_) x hx h0
   have:=hP.2 a ha b hb
   simp only [Bool.or_eq_true,beq_iff_eq] at this
   rcases this with (h | h) | h
   ·exact absurd h h1
   ·exact absurd h h2
   ·exact h
  ·obtain ⟨k,hk',rfl⟩:=List.mem_map.1 hq
   obtain ⟨j,hj,he⟩:=List.getElem_of_mem hk'
   have hj':t.kids[j]? = some k:=by rw [xF hj,he]
   have h1:=Qbw hj'
   have h2:=Qa1 hj'
   exact ih k (by omega) (by omega) (kid_kind hz hs hj') ((shaped_kids hz hs).2 k hk') (ledL_all _ hl.2 k hk') p hp
theorem module_parts:Qae 1 = [Qck ⟨#[109,111,100,117,108,101]⟩,Qe0 1,Qf1 1 0 40,Qck ⟨#[]⟩]:=rfl
theorem trivL_module {l:List ByteArray} (h:trivL 1 0 l = true) (hl:l.length = 3):∃ a b c,l = [a,b,c] ∧ Qfp a false = true ∧ Qfp b false = true ∧ Qfp c true = true:=by
 match l,hl with
 | [a,b,c],_ =>
  rw [trivL,trivL,trivL] at h
  simp at h
  exact ⟨a,b,c,rfl,h.1,h.2.1,h.2.2.1⟩
theorem module_pieces {t:Tr} (hz:Qan t ≤ 1000) (hk:t.kind = 1) (hs:Qao t = true) (hl:ledT t = true):∃ ps tail,Qaf t = ps ++ [(tail,⟨#[]⟩)] ∧ (∀ p ∈ ps,GoodP p) ∧ Qfp tail true = true:=by
 have hnm:=shaped_name hs
 rw [ledT_eq] at hl
 simp only [Bool.and_eq_true] at hl
 obtain ⟨⟨hl1,hl2⟩,hl3⟩:=hl
 rw [hk] at hnm hl1 hl2
 have hw:Qam (bl t.text) ≠ 0:=by
  have h2:Qbi 1 (Qam (bl t.text)) t.text = true:=hnm
  exact name_class (by decide) h2
 have h3:t.leads.length = 3:=by
  have hlen:(t.leads.length:Int) = leadsP 1 t.kids.length:=by simpa using hl1
  unfold leadsP at hlen
  split at hlen
  ·have e1:Qb9 (Qae 1) = 3:=rfl
   have e2:∀ m,commasP (Qae 1) m = 0:=fun m=>by rw [module_parts];simp [commasP,Qck,Qe0,Qf1]
   rw [e1,e2] at hlen
   omega
  ·omega
 obtain ⟨a,b,c,hls,ha,hb,hc⟩:=trivL_module hl2 h3
 refine ⟨(a,⟨#[109,111,100,117,108,101]⟩) :: (b,t.text) :: Qa6 false [] 0 ((t.kids.map Qaf).take (Qbz (Qf1 1 0 40) (Qb0 (Qae 1) t.kids.length).1).toNat),c,?_,?_,hc⟩
 ·rw [Qdc,hk,hls,module_parts]
  simp [Qbo,Qck,Qe0,Qf1,Qb9]
 ·intro p hp
  rcases List.mem_cons.1 hp with rfl | hp
  ·exact ⟨show Qam (bl ⟨#[109,111,100,117,108,101]⟩) ≠ 0 by decide,ha⟩
  ·rcases List.mem_cons.1 hp with rfl | hp
   ·exact ⟨hw,hb⟩
   ·refine piecesAt_good (fun y hy=>by simp at hy) _ 0 (fun q hq=>?_) p hp
    obtain ⟨k,hk',rfl⟩:=List.mem_map.1 (List.mem_of_mem_take hq)
    obtain ⟨j,hj,he⟩:=List.getElem_of_mem hk'
    have hj':t.kids[j]? = some k:=by rw [xF hj,he]
    have h1:=Qbw hj'
    exact pieces_good _ k (xA _) (by omega) (kid_kind hz hs hj') ((shaped_kids hz hs).2 k hk') (ledL_all _ hl3 k hk')
def noLead:ByteArray → ByteArray:=fun _=>⟨#[]⟩
mutual
def bareL:Tr → Tr
 | .mk k x ls ks=>.mk k x (ls.map noLead) (bareLs ks)
def bareLs:List Tr → List Tr
 | []=>[]
 | t :: r=>bareL t :: bareLs r
end
theorem bareLs_map:(l:List Tr) → bareLs l = l.map bareL
 | []=>rfl
 | t :: r=>by rw [bareLs,bareLs_map r];rfl
theorem bareL_parts (t:Tr):(bareL t).kind = t.kind ∧ (bareL t).text = t.text ∧ (bareL t).leads = t.leads.map noLead ∧ (bareL t).kids = t.kids.map bareL:=by
 cases t with
 | mk k x ls ks=>rw [bareL,bareLs_map];exact ⟨rfl,rfl,rfl,rfl⟩
mutual
theorem bareL_size:(t:Tr) → Qan (bareL t) = Qan t
 | .mk k x ls ks=>by rw [bareL,Qan,Qan,bareLs_size ks]
theorem bareLs_size:(l:List Tr) → Qap (bareLs l) = Qap l
 | []=>by rw [bareLs]
 | t :: r=>by rw [bareLs,Qap,Qap,bareL_size t,bareLs_size r]
end
mutual
theorem bareL_shaped:(t:Tr) → Qao (bareL t) = Qao t
 | .mk k x ls ks=>by
  have hn:(bareLs ks).length = ks.length:=by rw [bareLs_map,List.length_map]
  rw [bareL,Qao,Qao,hn,bareLs_shaped ks]
theorem bareLs_shaped:(l:List Tr) → (ss:List Int) → Qed (bareLs l) ss = Qed l ss
 | [],ss=>by rw [bareLs]
 | t :: r,[]=>by rw [bareLs,Qed,Qed]
 | t :: r,s :: ss=>by rw [bareLs,Qed,Qed,bareL_shaped t,bareLs_shaped r ss,(bareL_parts t).1]
end
theorem trivL_none (kd:Int):(l:List ByteArray) → (i:Nat) → trivL kd i (l.map noLead) = true
 | [],i=>by rw [List.map_nil,trivL]
 | a :: r,i=>by
  rw [List.map_cons,trivL,trivL_none kd r (i + 1),Bool.and_true]
  show Qfp ⟨#[]⟩ _ = true
  cases (kd == 1 && (i:Int) == 2) with
  | true=>kernel_rfl
  | false=>exact none_trivia
mutual
theorem bareL_led:(t:Tr) → ledT t = true → ledT (bareL t) = true
 | .mk k x ls ks,h=>by
  have hn:(bareLs ks).length = ks.length:=by rw [bareLs_map,List.length_map]
  rw [ledT] at h
  simp only [Bool.and_eq_true] at h
  rw [bareL,ledT,hn,List.length_map,h.1.1,trivL_none,bareLs_led ks h.2]
  rfl
theorem bareLs_led:(l:List Tr) → ledL l = true → ledL (bareLs l) = true
 | [],_=>by rw [bareLs,ledL]
 | t :: r,h=>by
  rw [ledL] at h
  simp only [Bool.and_eq_true] at h
  rw [bareLs,ledL,bareL_led t h.1,bareLs_led r h.2]
  rfl
end
def bareW (p:Qbg):Qbg:=(⟨#[]⟩,p.2)
theorem getD_none (ls:List ByteArray) (i:Nat):(((ls.map noLead)[i]?).getD ⟨#[]⟩:ByteArray) = ⟨#[]⟩:=by
 rw [List.getElem?_map]
 cases ls[i]? <;> rfl
theorem piecesAt_bare (co:Bool) (cs:List ByteArray):(l:List (List Qbg)) → (i:Nat) → Qa6 co (cs.map noLead) i (l.map (List.map bareW)) = (Qa6 co cs i l).map bareW
 | [],i=>by rw [List.map_nil,Qa6,Qa6];rfl
 | q :: r,i=>by
  rw [List.map_cons,Qa6,Qa6,piecesAt_bare co cs r (i + 1),List.map_append,List.map_append,getD_none]
  split
  ·rfl
  ·rfl
theorem piecesN_bare (n:Int) (tx:ByteArray) (cs:List ByteArray):(l:List Part) → (ls:List ByteArray) → (ks:List (List Qbg)) → Qbo n tx (cs.map noLead) l (ls.map noLead) (ks.map (List.map bareW)) = (Qbo n tx cs l ls ks).map bareW
 | [],_,_=>by rw [Qbo,Qbo];rfl
 | x :: r,ls,ks=>by
  rw [Qbo,Qbo]
  split
  ·rw [List.map_append,← List.map_take,← List.map_drop,piecesAt_bare,piecesN_bare n tx cs r ls _]
  ·rw [List.map_cons,← List.map_drop,piecesN_bare n tx cs r _ ks,getD_none]
   rfl
theorem pieces_bare (N:Nat):∀ t:Tr,SizeOf.sizeOf t ≤ N → Qaf (bareL t) = (Qaf t).map bareW:=by
 induction N with
 | zero=>intro t h;have:=tr_pos t;omega
 | succ N ih =>
  intro t hN
  obtain ⟨h1,h2,h3,h4⟩:=bareL_parts t
  rw [Qdc,Qdc t,h1,h2,h3,h4,List.length_map,List.map_map]
  have hk:t.kids.map (Qaf ∘ bareL) = (t.kids.map Qaf).map (List.map bareW):=by
   rw [List.map_map]
   refine List.map_congr_left fun k hk=>?_
   obtain ⟨j,hj,he⟩:=List.getElem_of_mem hk
   have:=Qa1 (show t.kids[j]? = some k from by rw [xF hj,he])
   exact ih k (by omega)
  rw [hk,← List.map_drop,piecesN_bare]
theorem sep_less (last lead text:ByteArray):(sepW last ⟨#[]⟩ text).size ≤ (sepW last lead text).size:=by
 unfold sepW
 by_cases h:lead.size = 0
 ·by_cases hf:Qfs last text = true
  ·rw [if_pos ⟨rfl,hf⟩,if_pos ⟨h,hf⟩]
   exact xA _
  ·rw [if_neg (fun e=>hf e.2)]
   exact Nat.zero_le _
 ·rw [if_neg (fun e:lead.size = 0 ∧ _=>h e.1)]
  split
  ·show 1 ≤ lead.size
   omega
  ·exact Nat.zero_le _
theorem fold_less:(ps:List Qbg) → (s s':List UInt8 × ByteArray) → s.1.length ≤ s'.1.length → s.2 = s'.2 → (Qhf s (ps.map bareW)).1.length ≤ (Qhf s' ps).1.length
 | [],s,s',h,_=>h
 | p :: r,s,s',h,he=>by
  have h1:Qhf s ((p :: r).map bareW) = Qhf (tokW s ⟨#[]⟩ p.2) (r.map bareW):=rfl
  have h2:Qhf s' (p :: r) = Qhf (tokW s' p.1 p.2) r:=rfl
  rw [h1,h2]
  refine fold_less r _ _ ?_ rfl
  unfold tokW
  have h3:=sep_less s'.2 p.1 p.2
  simp only [xB,he]
  have e:∀ x:ByteArray,x.data.toList.length = x.size:=fun x=>by simp
  rw [e,e,e]
  omega
theorem tokP_bare:(ps:List Qbg) → (l l':ByteArray) → (tokP l (ps.map bareW)).map (fun t=>(t.kind,t.text)) = (tokP l' ps).map fun t=>(t.kind,t.text)
 | [],_,_=>rfl
 | p :: r,l,l'=>by
  rw [List.map_cons,tokP,tokP,List.map_cons,List.map_cons,tokP_bare r _ p.2]
  rfl
theorem scan_module {t:Tr} (hz:Qan t ≤ 1000) (hk:t.kind = 1) (hs:Qao t = true) (hl:ledT t = true) (ht:(textL t).length ≤ 4096):∃ ts us tl ul,Qbd (printT t) = ⟨ts,tl,0,0⟩ ∧ Qbd (printT (bareL t)) = ⟨us,ul,0,0⟩ ∧ ts.map (fun t=>(t.kind,t.text)) = us.map (fun t=>(t.kind,t.text)) ∧ (printT t).size ≤ 4096 ∧ (printT (bareL t)).size ≤ 4096:=by
 obtain ⟨ps,tail,hp,hg,htl⟩:=module_pieces hz hk hs hl
 have hpb:=pieces_bare _ t (xA _)
 rw [hp,List.map_append] at hpb
 have e1:printT t = ⟨(textL t).toArray⟩:=by unfold printT;rw [hs,hl];rfl
 have e2:printT (bareL t) = ⟨(textL (bareL t)).toArray⟩:=by unfold printT;rw [bareL_shaped,hs,bareL_led t hl];rfl
 have hb:∀ l:List UInt8,bl ⟨l.toArray⟩ = l:=fun l=>by rw [← bl_data]
 have hsz:(textL (bareL t)).length ≤ (textL t).length:=by
  unfold textL
  rw [pieces_bare _ t (xA _)]
  exact fold_less _ _ _ (xA _) rfl
 refine ⟨_,_,_,_,scan_pieces hg htl (s:=printT t) ?_ ?_,scan_pieces (ps:=ps.map bareW) (tail:=⟨#[]⟩) (s:=printT (bareL t)) ?_ ?_ ?_ ?_,(tokP_bare ps _ _).symm,?_,?_⟩
 ·rw [e1,hb,← hp];rfl
 ·rw [e1]
  show (textL t).toArray.size ≤ 4096
  simpa using ht
 ·intro q hq
  obtain ⟨p,hp',rfl⟩:=List.mem_map.1 hq
  exact ⟨(hg p hp').1,none_trivia⟩
 ·kernel_rfl
 ·rw [e2,hb]
  unfold textL
  rw [hpb]
  rfl
 ·rw [e2]
  show (textL (bareL t)).toArray.size ≤ 4096
  simp
  omega
 ·rw [e1]
  show (textL t).toArray.size ≤ 4096
  simpa using ht
 ·rw [e2]
  show (textL (bareL t)).toArray.size ≤ 4096
  simp
  omega
end Go.Proofs.YtnnfdbmanamfdaaGreat
