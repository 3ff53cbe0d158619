/- Part 49: Plain: what the bulk of a tree says of its texts and of its tokens. The contract of Arrange of the reference of layout, for small trees. -/
import Derived.Test.YtjidpkcjpgdafaaGreatSc1
import Derived.Test.YtjidpkcjpgdafaaGreatSc48
import Derived.Test.YtjidpkcjpgdafaaGreatSc19
import Derived.Test.YtjidpkcjpgdafaaGreatSc46
import Derived.Test.YtjidpkcjpgdafaaGreatSc47
set_option maxRecDepth 100000
set_option maxHeartbeats 4000000
namespace Go.Proofs.YtjidpkcjpgdafaaGreat
open Go.RowKit
theorem szB_mem {l:List ByteArray} {y:ByteArray} (h:y ∈ l):y.size ≤ szB l:=by
 induction l with
 | nil=>simp at h
 | cons a r ih =>
  rw [szB]
  rcases List.mem_cons.1 h with rfl | h
  ·omega
  ·have:=ih h;omega
mutual
theorem words_cnt:(t:Tr) → cntT t ≤ 1048576 → Qdq t = true
 | .mk _ x ls ks,h=>by
  rw [cntT] at h
  rw [Qdq,wordsL_cnt ks (by omega),decide_eq_true (by unfold maxLen;omega),Bool.true_and,Bool.and_true,List.all_eq_true]
  intro y hy
  have:=szB_mem hy
  exact decide_eq_true (by unfold maxLen;omega)
theorem wordsL_cnt:(l:List Tr) → cntL l ≤ 1048576 → wordsL l = true
 | [],_=>by rw [wordsL]
 | t :: r,h=>by
  rw [cntL] at h
  rw [wordsL,words_cnt t (by omega),wordsL_cnt r (by omega)]
  rfl
end
def lenS:List (List Qbi) → Nat
 | []=>0
 | p :: r=>p.length + 1 + lenS r
theorem lenS_split:(l:List (List Qbi)) → (m:Nat) → lenS (l.take m) + lenS (l.drop m) = lenS l
 | [],m=>by simp [lenS]
 | p :: r,0=>by simp [lenS]
 | p :: r,m + 1=>by
  have:=lenS_split r m
  rw [List.take_succ_cons,List.drop_succ_cons,lenS,lenS]
  omega
theorem piecesAt_len (co:Bool) (cs:List ByteArray):(l:List (List Qbi)) → (i:Nat) → (Qa8 co cs i l).length ≤ lenS l
 | [],i=>by rw [Qa8,lenS];exact xA _
 | p :: r,i=>by
  have:=piecesAt_len co cs r (i + 1)
  rw [Qa8,lenS,xB,xB]
  have:(if 0 < i ∧ co = true then [((cs[i - 1]?).getD ⟨#[]⟩,(⟨#[44]⟩:ByteArray))] else []).length ≤ 1:=by split <;> simp
  omega
theorem piecesN_len (n:Int) (tx:ByteArray) (cs:List ByteArray):(l:List Part) → (ls:List ByteArray) → (ks:List (List Qbi)) → (Qbo n tx cs l ls ks).length ≤ Qb7 l + lenS ks
 | [],ls,ks=>by rw [Qbo];simp
 | x :: r,ls,ks=>by
  rw [Qbo]
  by_cases h:x.kids ≠ 0
  ·have h1:=piecesAt_len x.commas cs (ks.take (Qbw x n).toNat) 0
   have h2:=piecesN_len n tx cs r ls (ks.drop (Qbw x n).toNat)
   have h3:=lenS_split ks (Qbw x n).toNat
   have h4:Qb7 r ≤ Qb7 (x :: r):=by rw [Qb7];omega
   rw [if_pos h,xB]
   omega
  ·have h2:=piecesN_len n tx cs r (ls.drop 1) ks
   have h4:Qb7 (x :: r) = 1 + Qb7 r:=by rw [Qb7];simp only [ne_eq,Decidable.not_not] at h;simp [h] <;> omega
   rw [if_neg h,xD]
   omega
theorem tokens_six (k:Int):Qb7 (Qae k) ≤ 6:=by
 by_cases h0:k ≤ 0 ∨ 23 ≤ k
 ·rw [Qdn h0];exact Nat.zero_le _
 ·rcases kid_cases h0 with rfl | rfl | rfl | rfl | rfl | rfl | rfl | rfl | rfl | rfl | rfl | rfl | rfl | rfl | rfl | rfl | rfl | rfl | rfl | rfl | rfl | rfl <;> decide
mutual
theorem pieces_len:(t:Tr) → (Qaf t).length + 1 ≤ 7 * Qak t
 | .mk k x ls ks=>by
  have h1:=piecesN_len (Qbz (Qae k) ks.length).1 x (ls.drop (Qb7 (Qae k))) (Qae k) ls (Qf8 ks)
  have h2:=tokens_six k
  have h3:=piecesL_len ks
  rw [Qaf,Qak]
  omega
theorem piecesL_len:(l:List Tr) → lenS (Qf8 l) ≤ 7 * Qar l
 | []=>by rw [Qf8,lenS];exact Nat.zero_le _
 | t :: r=>by
  have:=pieces_len t
  have:=piecesL_len r
  rw [Qf8,lenS,Qar]
  omega
end
def okP (M:Nat) (p:Qbi):Prop:=p.1.size ≤ M ∧ p.2.size ≤ M
theorem getD_ok {M:Nat} {l:List ByteArray} (h:∀ y ∈ l,y.size ≤ M) (i:Nat):((l[i]?).getD ⟨#[]⟩).size ≤ M:=by
 cases hi:l[i]? with
 | none=>exact Nat.zero_le _
 | some y=>exact h y (List.mem_of_getElem? hi)
theorem piecesAt_ok {M:Nat} (hM:1 ≤ M) (co:Bool) {cs:List ByteArray} (hc:∀ y ∈ cs,y.size ≤ M):(l:List (List Qbi)) → (i:Nat) → (∀ q ∈ l,∀ p ∈ q,okP M p) → ∀ p ∈ Qa8 co cs i l,okP M p
 | [],i,_,p,hp=>by rw [Qa8] at hp;simp at hp
 | a :: r,i,h,p,hp=>by
  rw [Qa8] at hp
  rcases List.mem_append.1 hp with hp | hp
  ·rcases List.mem_append.1 hp with hp | hp
   ·split at hp
    ·simp at hp
     subst hp
     exact ⟨getD_ok hc _,hM⟩
    ·simp at hp
   ·exact h a (by simp) p hp
  ·exact piecesAt_ok hM co hc r (i + 1) (fun q hq=>h q (by simp [hq])) p hp
theorem piecesN_ok {M:Nat} (hM:1 ≤ M) (n:Int) {tx:ByteArray} (ht:tx.size ≤ M) {cs:List ByteArray} (hc:∀ y ∈ cs,y.size ≤ M):(l:List Part) → (ls:List ByteArray) → (ks:List (List Qbi)) → (∀ x ∈ l,x.word.size ≤ M) → (∀ y ∈ ls,y.size ≤ M) → (∀ q ∈ ks,∀ p ∈ q,okP M p) → ∀ p ∈ Qbo n tx cs l ls ks,okP M p
 | [],ls,ks,_,_,_,p,hp=>by rw [Qbo] at hp;simp at hp
 | x :: r,ls,ks,hl,hs,hk,p,hp=>by
  rw [Qbo] at hp
  by_cases h:x.kids ≠ 0
  ·rw [if_pos h] at hp
   rcases List.mem_append.1 hp with hp | hp
   ·exact piecesAt_ok hM x.commas hc _ 0 (fun q hq=>hk q (List.mem_of_mem_take hq)) p hp
   ·exact piecesN_ok hM n ht hc r ls _ (fun y hy=>hl y (by simp [hy])) hs (fun q hq=>hk q (List.mem_of_mem_drop hq)) p hp
  ·rw [if_neg h] at hp
   rcases List.mem_cons.1 hp with rfl | hp
   ·refine ⟨getD_ok hs _,?_⟩
    show (if x.nm ≠ 0 then tx else x.word).size ≤ M
    split
    ·exact ht
    ·exact hl x (by simp)
   ·exact piecesN_ok hM n ht hc r _ ks (fun y hy=>hl y (by simp [hy])) (fun y hy=>hs y (List.mem_of_mem_drop hy)) hk p hp
theorem words_six (k:Int):∀ x ∈ Qae k,x.word.size ≤ 6:=by
 by_cases h0:k ≤ 0 ∨ 23 ≤ k
 ·rw [Qdn h0];intro x hx;simp at hx
 ·rcases kid_cases h0 with rfl | rfl | rfl | rfl | rfl | rfl | rfl | rfl | rfl | rfl | rfl | rfl | rfl | rfl | rfl | rfl | rfl | rfl | rfl | rfl | rfl | rfl <;> decide
mutual
theorem pieces_ok {M:Nat} (hM:6 ≤ M):(t:Tr) → cntT t ≤ M → ∀ p ∈ Qaf t,okP M p
 | .mk k x ls ks,h,p,hp=>by
  rw [cntT] at h
  rw [Qaf] at hp
  have hls:∀ y ∈ ls,y.size ≤ M:=fun y hy=>by have:=szB_mem hy;omega
  exact piecesN_ok (by omega) _ (by omega) (fun y hy=>hls y (List.mem_of_mem_drop hy)) _ _ _ (fun y hy=>Nat.le_trans (words_six k y hy) hM) hls (piecesL_ok hM ks (by omega)) p hp
theorem piecesL_ok {M:Nat} (hM:6 ≤ M):(l:List Tr) → cntL l ≤ M → ∀ q ∈ Qf8 l,∀ p ∈ q,okP M p
 | [],_,q,hq=>by rw [Qf8] at hq;simp at hq
 | t :: r,h,q,hq=>by
  rw [cntL] at h
  rw [Qf8] at hq
  rcases List.mem_cons.1 hq with rfl | hq
  ·exact pieces_ok hM t (by omega)
  ·exact piecesL_ok hM r (by omega) q hq
end
theorem sizeP_ok {M:Nat}:(ps:List Qbi) → (∀ p ∈ ps,okP M p) → Qf7 ps ≤ ps.length * (2 * M + 1)
 | [],_=>by rw [Qf7];exact Nat.zero_le _
 | p :: r,h=>by
  have h1:=sizeP_ok r (fun q hq=>h q (by simp [hq]))
  have h2:=h p (by simp)
  unfold okP at h2
  rw [Qf7,xD,Nat.add_mul,Nat.one_mul]
  omega
theorem pieces_few {t:Tr} (hz:Qak t ≤ 1000):(Qaf t).length ≤ 7000:=by have:=pieces_len t;omega
theorem pieces_bulk {t:Tr} (hz:Qak t ≤ 1000) (hc:cntT t ≤ 1048576):Qf7 (Qaf t) ≤ 10000000000000:=by
 have h1:=sizeP_ok (M:=1048576) (Qaf t) (pieces_ok (by decide) t hc)
 have h2:=pieces_few hz
 have h3:(Qaf t).length * (2 * 1048576 + 1) ≤ 7000 * (2 * 1048576 + 1):=Nat.mul_le_mul_right _ h2
 omega
end Go.Proofs.YtjidpkcjpgdafaaGreat
namespace Go.Proofs.YtjidpkcjpgdafaaGreat
open Go.RowKit Go.Shelf
def ArrQ (n:Nat) (k:Int) (w:World) (e:Ending) (w':World):Prop:=∃ (t':Tr) (u:TV),e = .returned (.agg #[.int .i64 u.kind,.string u.text,.slice u.la u.ll u.lc,.slice u.ka u.kl u.kc]) ∧ TrAt (fun b=>w.heap.size ≤ b ∧ b < w'.heap.size) w' t' u ∧ Qak t' ≤ n ∧ Qfn t' = true ∧ Below w.heap.size w w' ∧ (t'.kind = k ∨ t'.kind = 0)
theorem arr_any (S:Nat → Prop) (t:Tr) (v:TV) (w:World) (h:TrAt S w t v) (hti:Qfn t = true) (hsz:Qak t ≤ 1000) :
  Calls Tryz.prog 106 #[.agg #[.int .i64 v.kind,.string v.text,.slice v.la v.ll v.lc,.slice v.ka v.kl v.kc]] w (ArrQ (Qak t) t.kind w):=by
 have HTI:=hQ hti
 have HSZ:=hQ hsz
 have HW:=hQ (words_cnt t (by have:=tiny_cnt t hti;omega))
 have HW0:=hQ (((xC w.heap.size w).alloc (xA _) (trO v)).alloc (by rw [xI];omega) (.cells #[.int .i64 0,.string ⟨#[]⟩,.slice none 0 0,.slice none 0 0] 29))
 have HT:=hQ (TrAt.keep (TrAt.low t v h) HW0.out)
 have HX:=hQ (show ((w.alloc (trO v)).alloc (.cells #[.int .i64 0,.string ⟨#[]⟩,.slice none 0 0,.slice none 0 0] 29)).heap[w.heap.size]? = some (trO v) from (((xC (w.alloc (trO v)).heap.size _).alloc (xA _) _).block w.heap.size (by simp)).trans (xH w _))
 have HR:=hQ (show ((w.alloc (trO v)).alloc (.cells #[.int .i64 0,.string ⟨#[]⟩,.slice none 0 0,.slice none 0 0] 29)).heap[w.heap.size + 1]? = some (.cells #[.int .i64 0,.string ⟨#[]⟩,.slice none 0 0,.slice none 0 0] 29 (0,0)) from by rw [← xI w (trO v)];exact xH _ _)
 have HS1:=hQ (show 1 ≤ Qak t from by rw [Qa6];omega)
 clear h hti hsz
 cases hs:Qcq t with
 | false =>
  go_enter Tryz.func106,Tryz.ntmps106
  go_wp2_with fail
  go_at_call 98
  refine (Qhh _ (fun k=>k < w.heap.size) t v _ (xA _) HT.out HSZ.out HW.out).mono ?_
  rw [hs]
  rintro e w2 ⟨rfl,hb2⟩
  have HB2:=hQ (HW0.out.trans (hb2.mono HW0.out.size))
  obtain ⟨x0,x1,x2,x3,xl,xf⟩:=Qai ((hb2.block (w.heap.size + 1) (Qaa HR.out)).trans HR.out)
  clear hb2
  go_wp2
  refine bodyPost_ret (v:=.agg #[.int .i64 0,.string ⟨#[]⟩,.slice none 0 0,.slice none 0 0]) (by simp [results,Tryz.results106,go_sem, *]) rfl ?_
  exact ⟨.mk 0 ⟨#[]⟩ [] [],⟨0,⟨#[]⟩,none,0,0,none,0,0⟩,rfl,leaf_at _ _ _ _,by rw [Qak,Qar];exact HS1.out,Qb9.2 ⟨by decide,by simp,by simp,by rw [Qbj]⟩,HB2.out.trans ((Qcs w2 (w.heap.size + 1) ⟨0,⟨#[]⟩,none,0,0,none,0,0⟩).mono (Nat.le_succ _)),.inr rfl⟩
 | true =>
  have HSH:=hQ hs
  go_enter Tryz.func106,Tryz.ntmps106
  go_wp2_with fail
  go_at_call 98
  refine (Qhh _ (fun k=>k < w.heap.size) t v _ (xA _) HT.out HSZ.out HW.out).mono ?_
  rw [hs]
  rintro e w2 ⟨rfl,hb2⟩
  have HB2:=hQ (HW0.out.trans (hb2.mono HW0.out.size))
  have HT2:=hQ (HT.out.keep hb2)
  have HR2:=hQ ((hb2.block (w.heap.size + 1) (Qaa HR.out)).trans HR.out)
  have hx2:=(hb2.block w.heap.size (Qaa HX.out)).trans HX.out
  have k0:w2.cell? ⟨w.heap.size,0,none⟩ = some (.int .i64 v.kind):=Qab hx2 0 _ rfl
  have k1:w2.cell? ⟨w.heap.size,1,none⟩ = some (.string v.text):=Qab hx2 1 _ rfl
  have k2:w2.cell? ⟨w.heap.size,2,none⟩ = some (.slice v.la v.ll v.lc):=Qab hx2 2 _ rfl
  have k3:w2.cell? ⟨w.heap.size,3,none⟩ = some (.slice v.ka v.kl v.kc):=Qab hx2 3 _ rfl
  have kl:w.heap.size < w2.heap.size:=Qaa hx2
  clear hb2 hs hx2
  go_wp2_with fail
  go_at_call 154
  refine (arrange_any _ (fun k=>k < w.heap.size) t v ⟨#[]⟩ w2 (xA _) HT2.out HSH.out HTI.out HSZ.out (by decide)).mono ?_
  rintro e w3 ⟨t',u,rfl,hu,hz,hy,hb3,hk3⟩
  have HK3:=hQ (show t'.kind = t.kind from hk3)
  have HU:=hQ hu
  have HZ:=hQ hz
  have HY:=hQ hy
  have HB3:=hQ (HB2.out.trans (hb3.mono HB2.out.size))
  have HS2:=hQ (show w.heap.size + 1 < w2.heap.size from Qaa HR2.out)
  obtain ⟨x0,x1,x2,x3,xl,xf⟩:=Qai ((hb3.block (w.heap.size + 1) (Qaa HR2.out)).trans HR2.out)
  clear hu hz hy hb3 hk3 k0 k1 k2 k3 kl
  go_wp2
  refine bodyPost_ret (v:=.agg #[.int .i64 u.kind,.string u.text,.slice u.la u.ll u.lc,.slice u.ka u.kl u.kc]) (by simp [results,Tryz.results106,go_sem, *]) rfl ?_
  exact ⟨t',u,rfl,TrAt.move (fun b hb=>⟨by have:=HS2.out;omega,Nat.lt_of_lt_of_eq hb.2 (Qdg w3 (w.heap.size + 1) u).symm⟩) (fun b hb _=>Qbv u (by have:=HS2.out;omega)) _ _ HU.out,Nat.le_of_eq HZ.out,HY.out,HB3.out.trans ((Qcs w3 (w.heap.size + 1) u).mono (Nat.le_succ _)),.inl HK3.out⟩
end Go.Proofs.YtjidpkcjpgdafaaGreat
