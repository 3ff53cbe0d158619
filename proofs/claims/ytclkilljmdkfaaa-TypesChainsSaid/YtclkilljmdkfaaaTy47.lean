/- Part 47: The contracts of tree, Expand and Equal of package types. -/
import Derived.Test.YtclkilljmdkfaaaTy1
import Derived.Test.YtclkilljmdkfaaaTy46
set_option maxRecDepth 100000
set_option maxHeartbeats 4000000
namespace Go.Proofs.Ytclkilljmdkfaaa
open Go.RowKit Go.Shelf
theorem goL_bound {ps:List Tr} (hz:∀ t ∈ ps,Qao t ≤ 1000):(f:Nat) → (r:Int × Int × Bool) → (met:List (Int × Int)) → (n:Nat) → (R:Int × Nat × Int) → goL ps f r met n = some R → R.2.1 ≤ n + 1000 * f
 | 0,_,_,_,_,h=>by rw [goL] at h;cases h
 | f + 1,r,met,n,R,h=>by
  have hb:∀ m d:Nat,Qa7 (typeD ps m d) ≤ 1000:=fun m d=>by
   have h1:=Qdx (typeD ps m d)
   have h0:Qa7 noTr ≤ 1000:=by unfold noTr;rw [Qa7,if_neg (by decide)];omega
   unfold typeD defT at h1 ⊢
   cases ht:ps[m]? with
   | none=>exact h0
   | some t =>
    rw [ht] at h1
    simp only [Option.getD_some] at h1 ⊢
    cases hk:t.kids[d]? with
    | none=>exact h0
    | some k =>
     rw [hk] at h1
     simp only [Option.getD_some] at h1 ⊢
     cases ha:k.kids[0]? with
     | none=>exact h0
     | some a =>
      rw [ha] at h1
      simp only [Option.getD_some] at h1 ⊢
      have h2:=Qdu ha
      have h3:=Qdu hk
      have h4:=hz t (List.mem_of_getElem? ht)
      omega
  have h3:=hb r.1.toNat r.2.1.toNat
  rw [goL] at h
  split at h
  ·split at h
   ·injection h with h
    rw [← h]
    exact Nat.zero_le _
   ·split at h
    ·have h2:=goL_bound hz f _ _ _ R h
     omega
    ·injection h with h
     rw [← h]
     show n + Qa7 (typeD ps r.1.toNat r.2.1.toNat) ≤ _
     omega
  ·injection h with h
   rw [← h]
   exact Nat.zero_le _
theorem resP_bound {ps:List Tr} (hz:∀ t ∈ ps,Qao t ≤ 1000) {m:Nat} {t:Tr} (ht:Qao t ≤ 1000):(resP ps m t).2.1 ≤ 1000 + 1000 * (Qah ps + 1):=by
 have h1:=Qdx t
 by_cases h9:(Qa2 t).kind = 9
 ·have h2:=goL_bound hz _ _ _ _ _ (resP_go (ps:=ps) (m:=m) h9)
  exact Nat.le_trans h2 (Nat.add_le_add_right (Nat.le_trans h1 ht) _)
 ·have e:resP ps m t = (0,Qa7 t,(Qa2 t).kind):=by unfold resP;rw [if_neg h9]
  rw [e]
  exact Nat.le_trans (Nat.le_trans h1 ht) (Nat.le_add_right _ _)
theorem flatG_bound {ps:List Tr} (hz:∀ t ∈ ps,Qao t ≤ 1000) (hl:Qah ps ≤ 90000) {m:Int} {t:Tr} (ht:Qao t ≤ 1000):(Qck ps m t).2.1 ≤ 90002000:=by
 have h:=resP_bound (m:=m.toNat) hz ht
 have h2:1000 + 1000 * (Qah ps + 1) ≤ 90002000:=by omega
 unfold Qck
 split
 ·exact Nat.zero_le _
 ·exact Nat.le_trans h h2
def TreL (n:Nat) (k:Int) (w:World) (i:Value) (wr:World):Prop:=∃ (j:Nat) (u:TV),i = .int .i64 (j:Int) ∧ j ≤ n ∧ wr.heap[w.heap.size]? = some (flO n k) ∧ wr.heap[w.heap.size + 1]? = some (trO ⟨0,⟨#[]⟩,none,0,0,none,0,0⟩) ∧ wr.heap[w.heap.size + 2]? = some (trO u) ∧
 TrAt (fun b=>w.heap.size + 3 ≤ b ∧ b < wr.heap.size) wr (wrapT j (Qcs k)) u ∧ Below w.heap.size w wr
theorem tree_next {n j:Nat} {k:Int} {w wr WS:World} {u:TV} (hj:j < n) (h0:wr.heap[w.heap.size]? = some (flO n k)) (h1:wr.heap[w.heap.size + 1]? = some (trO ⟨0,⟨#[]⟩,none,0,0,none,0,0⟩)) (l2:w.heap.size + 2 < wr.heap.size)
  (ht:TrAt (fun b=>w.heap.size + 3 ≤ b ∧ b < wr.heap.size) wr (wrapT j (Qcs k)) u) (hs:WS.heap.size = wr.heap.size) (hk:∀ b,b ≠ w.heap.size + 2 → WS.heap[b]? = wr.heap[b]?) (hx:WS.heap[w.heap.size + 2]? = some (trO ⟨8,⟨#[]⟩,none,0,0,some ⟨wr.heap.size,0,none⟩,1,1⟩)) (hb:Below w.heap.size w WS) :
  TreL n k w (.int .i64 ((j + 1:Nat):Int)) (WS.alloc (trO u)):=by
 have ha:=Qbk WS (trO u)
 have hkb:∀ b,b < wr.heap.size → b ≠ w.heap.size + 2 → (WS.alloc (trO u)).heap[b]? = wr.heap[b]?:=fun b hl hn=>(ha.block b (by omega)).trans (hk b hn)
 have hnew:(WS.alloc (trO u)).heap[wr.heap.size]? = some (trO u):=by rw [← hs];exact xH _ _
 have hsz:(WS.alloc (trO u)).heap.size = wr.heap.size + 1:=by rw [xI,hs]
 refine ⟨j + 1,⟨8,⟨#[]⟩,none,0,0,some ⟨wr.heap.size,0,none⟩,1,1⟩,rfl,hj,(hkb _ (Qab h0) (by omega)).trans h0,(hkb _ (Qab h1) (by omega)).trans h1,(ha.block _ (by omega)).trans hx,?_,hb.alloc hb.size _⟩
 show TrAt (fun b=>w.heap.size + 3 ≤ b ∧ b < (WS.alloc (trO u)).heap.size) (WS.alloc (trO u)) (.mk 8 ⟨#[]⟩ [] [wrapT j (Qcs k)]) ⟨8,⟨#[]⟩,none,0,0,some ⟨wr.heap.size,0,none⟩,1,1⟩
 refine node_in (us:=[u]) 8 ⟨#[]⟩ rfl (fun i a v ha hv=>?_) hnew ⟨by omega,by omega⟩ 1 rfl
 match i,ha,hv with
 | 0,ha,hv =>
  injection ha with ha
  injection hv with hv
  subst ha hv
  exact TrAt.move (fun b hb=>⟨hb.1,by omega⟩) (fun b hb hl=>hkb b hl (by omega)) _ _ ht
 | i + 1,ha,_=>simp at ha
theorem flattree_any (n:Nat) (k:Int) (w:World) (hn:n ≤ 100000000) :
  Calls Try.prog 14 #[.agg #[.int .i64 n,.int .i64 k]] w fun e w'=>∃ u:TV,e = .returned (.agg #[.int .i64 u.kind,.string u.text,.slice u.la u.ll u.lc,.slice u.ka u.kl u.kc]) ∧ TrAt (fun b=>w.heap.size ≤ b ∧ b < w'.heap.size) w' (wrapT n (Qcs k)) u ∧ Below w.heap.size w w':=by
 have h3:=Qd8 (xC w.heap.size w) (flO n k) (trO ⟨0,⟨#[]⟩,none,0,0,none,0,0⟩) (trO ⟨k,⟨#[]⟩,none,0,0,none,0,0⟩)
 have H3:=hQ h3
 have K0:=hQ (xH w (flO n k))
 have k0:(w.alloc (flO n k)).cell? ⟨w.heap.size,0,none⟩ = some (.int .i64 n):=Qaa K0.out 0 _ rfl
 have k1:(w.alloc (flO n k)).cell? ⟨w.heap.size,1,none⟩ = some (.int .i64 k):=Qaa K0.out 1 _ rfl
 clear h3
 go_enter Try.func14,Try.ntmps14
 go_wp2
 clear k0 k1
 go_loopw [9] (fun i wr=>TreL n k w i wr) (fun i _=>n - (intOf i).toNat)
 case atStart =>
  refine ⟨0,⟨k,⟨#[]⟩,none,0,0,none,0,0⟩,rfl,Nat.zero_le _,?_,three_mid w _ _ _,?_,Qen _ _ _ _,H3.out⟩
  ·exact ((Qbk _ _).block _ (by rw [xI,xI];omega)).trans (Qb6 w _ _).1
  ·have h:=xH ((w.alloc (flO n k)).alloc (trO ⟨0,⟨#[]⟩,none,0,0,none,0,0⟩)) (trO ⟨k,⟨#[]⟩,none,0,0,none,0,0⟩)
   rw [xI,xI] at h
   exact h
 case round =>
  obtain ⟨j,u,rfl,hj,h0,h1,h2,ht,hb⟩:=hrel
  have H0:=hQ h0
  have H1:=hQ h1
  have H2:=hQ h2
  have HT:=hQ ht
  have HB:=hQ hb
  obtain ⟨uk,ux,ula,ull,ulc,uka,ukl,ukc⟩:=u
  have u0:wr.cell? ⟨w.heap.size + 1 + 1,0,none⟩ = some (.int .i64 uk):=Qaa h2 0 _ rfl
  have u1:wr.cell? ⟨w.heap.size + 1 + 1,1,none⟩ = some (.string ux):=Qaa h2 1 _ rfl
  have u2:wr.cell? ⟨w.heap.size + 1 + 1,2,none⟩ = some (.slice ula ull ulc):=Qaa h2 2 _ rfl
  have u3:wr.cell? ⟨w.heap.size + 1 + 1,3,none⟩ = some (.slice uka ukl ukc):=Qaa h2 3 _ rfl
  have ul:w.heap.size + 1 + 1 < wr.heap.size:=Qab h2
  have uf:∀ o,wr.frozen? ⟨w.heap.size + 1 + 1,o,none⟩ = false:=Lib.frozen_of_heap h2
  have r0:wr.cell? ⟨w.heap.size + 1,0,none⟩ = some (.int .i64 0):=Qaa h1 0 _ rfl
  have r1:wr.cell? ⟨w.heap.size + 1,1,none⟩ = some (.string ⟨#[]⟩):=Qaa h1 1 _ rfl
  have r2:wr.cell? ⟨w.heap.size + 1,2,none⟩ = some (.slice none 0 0):=Qaa h1 2 _ rfl
  have r3:wr.cell? ⟨w.heap.size + 1,3,none⟩ = some (.slice none 0 0):=Qaa h1 3 _ rfl
  have rl:=Qab h1
  have rf:=Lib.frozen_of_heap h1
  clear h0 h1 h2 ht hb
  by_cases hlt:j < n
  ·have i1:(j:Int) < (n:Int):=by omega
   have i2:(j:Int) + 1 ≤ 100000001:=by omega
   have HLT:=hQ hlt
   go_wp2
   go_roundw
   case measure=>first | (simp [intOf];done) | (simp [intOf];omega)
   case rel =>
    obtain ⟨x8,hx8⟩:∃ x:TV,x = ⟨8,⟨#[]⟩,none,0,0,some ⟨wr.heap.size,0,none⟩,1,1⟩:=⟨_,rfl⟩
    have e1:=Qex wr (w.heap.size + 2) x8
    have e2:∀ b,b ≠ w.heap.size + 2 → (setT wr (w.heap.size + 2) x8).heap[b]? = wr.heap[b]?:=fun b hn=>Qdw x8 hn
    have e3:=setT_heap (w:=wr) x8 H2.out
    have e4:=HB.out.trans ((Qcp wr (w.heap.size + 2) x8).mono (Nat.le_add_right _ _))
    obtain ⟨WS,hWS⟩:∃ W,W = setT wr (w.heap.size + 2) x8:=⟨_,rfl⟩
    rw [← hWS] at e1 e2 e3 e4
    rw [hx8] at e3 hWS
    have e5:=tree_next HLT.out H0.out H1.out (Qab H2.out) HT.out e1 e2 e3 e4
    rw [hWS] at e5
    exact e5
  ·obtain rfl:j = n:=by omega
   go_wp2
   refine bodyPost_ret (v:=.agg #[.int .i64 uk,.string ux,.slice ula ull ulc,.slice uka ukl ukc]) (by simp [results,Try.results14,go_sem, *]) rfl ?_
   have e1:=Qex wr (w.heap.size + 1) ⟨uk,ux,ula,ull,ulc,uka,ukl,ukc⟩
   have e2:∀ b,b ≠ w.heap.size + 1 → (setT wr (w.heap.size + 1) ⟨uk,ux,ula,ull,ulc,uka,ukl,ukc⟩).heap[b]? = wr.heap[b]?:=fun b hn=>Qdw ⟨uk,ux,ula,ull,ulc,uka,ukl,ukc⟩ hn
   have e4:=HB.out.trans ((Qcp wr (w.heap.size + 1) ⟨uk,ux,ula,ull,ulc,uka,ukl,ukc⟩).mono (Nat.le_succ _))
   refine ⟨⟨uk,ux,ula,ull,ulc,uka,ukl,ukc⟩,rfl,?_,e4⟩
   show TrAt (fun b=>w.heap.size ≤ b ∧ b < (setT wr (w.heap.size + 1) ⟨uk,ux,ula,ull,ulc,uka,ukl,ukc⟩).heap.size) (setT wr (w.heap.size + 1) ⟨uk,ux,ula,ull,ulc,uka,ukl,ukc⟩) _ _
   exact TrAt.move (fun b hb=>⟨by omega,by omega⟩) (fun b hb _=>e2 b (by omega)) _ _ HT.out
def exT (ps:List Tr) (m:Int) (t:Tr):Tr:=if (Qck ps m t).1 = 0 then wrapT (Qck ps m t).2.1 (Qcs (Qck ps m t).2.2) else noTr
theorem exT_no {ps:List Tr} {m:Int} {t:Tr} (h:(Qck ps m t).1 ≠ 0):exT ps m t = noTr:=by unfold exT;rw [if_neg h]
theorem exT_yes {ps:List Tr} {m:Int} {t:Tr} (h:(Qck ps m t).1 = 0):exT ps m t = wrapT (Qck ps m t).2.1 (Qcs (Qck ps m t).2.2):=by unfold exT;rw [if_pos h]
theorem expand_any (S S':Nat → Prop) (A:Option Addr) (c:Nat) (ps:List Tr) (m:Int) (t:Tr) (v:TV) (w:World) (hp:TrAt S w (Qa3 ps) ⟨0,⟨#[]⟩,none,0,0,A,ps.length,c⟩) (hf:fitT (Qa3 ps) = true) (hw:Qa9 (Qa3 ps) = true)
  (hz:∀ t ∈ ps,Qao t ≤ 1000) (hl:Qah ps ≤ 90000) (ht:TrAt S' w t v) (hts:Qbj t = true) (htw:Qa9 t = true) (htz:Qao t ≤ 1000) :
  Calls Try.prog 8 #[.slice A ps.length c,.int .i64 m,.agg #[.int .i64 v.kind,.string v.text,.slice v.la v.ll v.lc,.slice v.ka v.kl v.kc]] w fun e w'=>∃ u:TV,e = .returned (.tuple #[.agg #[.int .i64 u.kind,.string u.text,.slice u.la u.ll u.lc,.slice u.ka u.kl u.kc],.int .i64 (Qck ps m t).1]) ∧ TrAt (fun b=>w.heap.size ≤ b ∧ b < w'.heap.size) w' (exT ps m t) u ∧ Below w.heap.size w w':=by
 obtain ⟨bx0,bx1⟩:=Qb6 w (trO v) (trO ⟨0,⟨#[]⟩,none,0,0,none,0,0⟩)
 have hb0:=Qcl w (trO v) (trO ⟨0,⟨#[]⟩,none,0,0,none,0,0⟩)
 have HB0:=hQ hb0
 have BX0:=hQ bx0
 have BX1:=hQ bx1
 have HC:=hQ (flatten_any S S' A c ps m t v _ (hp.keep hb0) hf hw hz hl (ht.keep hb0) hts htw htz)
 have HN:=hQ (show (Qck ps m t).2.1 ≤ 100000000 from Nat.le_trans (flatG_bound (m:=m) hz hl htz) (by decide))
 obtain ⟨R,hR⟩:∃ R,R = Qck ps m t:=⟨_,rfl⟩
 have HY:=hQ (show R.1 = 0 → exT ps m t = wrapT R.2.1 (Qcs R.2.2) from by rw [hR];exact exT_yes)
 have HNO:=hQ (show R.1 ≠ 0 → exT ps m t = noTr from by rw [hR];exact exT_no)
 rw [← hR] at HC HN ⊢
 clear hp hf hw hz hl ht hts htw htz hb0 bx0 bx1 hR
 obtain ⟨vk,vx,vla,vll,vlc,vka,vkl,vkc⟩:=v
 obtain ⟨E,N,K⟩:=R
 by_cases hE:E = 0
 ·subst hE
  have HEX:=hQ (HY.out rfl)
  have HCT:=hQ (fun w'=>flattree_any N K w' HN.out)
  clear HY HNO
  go_enter Try.func8,Try.ntmps8
  go_wp2_with (first
   | (go_at_call 13;refine HC.out.mono ?_;rintro e w1 ⟨rfl,hb⟩;have HB1:=hQ hb;have HR1:=hQ ((hb.block (w.heap.size + 1) (by rw [xI,xI];omega)).trans BX1.out);have HB2:=hQ (hb.alloc hb.size (flO N K));clear hb)
   | (go_at_call 14;refine (HCT.out _).mono ?_;rintro e w3 ⟨u,rfl,hu,hb⟩;have HU:=hQ hu;have HB3:=hQ hb;have HR3:=hQ ((hb.block (w.heap.size + 1) (by rw [xI];have:=Qab HR1.out;omega)).trans (((Qbk w1 (flO N K)).block _ (Qab HR1.out)).trans HR1.out));have r0:w3.cell? ⟨w.heap.size + 1,0,none⟩ = some (.int .i64 0):=Qaa HR3.out 0 _ rfl;have r1:w3.cell? ⟨w.heap.size + 1,1,none⟩ = some (.string ⟨#[]⟩):=Qaa HR3.out 1 _ rfl;have r2:w3.cell? ⟨w.heap.size + 1,2,none⟩ = some (.slice none 0 0):=Qaa HR3.out 2 _ rfl;have r3:w3.cell? ⟨w.heap.size + 1,3,none⟩ = some (.slice none 0 0):=Qaa HR3.out 3 _ rfl;have rl:=Qab HR3.out;have rf:=Lib.frozen_of_heap HR3.out;clear hu hb))
  obtain ⟨uk,ux,ula,ull,ulc,uka,ukl,ukc⟩:=u
  refine bodyPost_ret (v:=.tuple #[.agg #[.int .i64 uk,.string ux,.slice ula ull ulc,.slice uka ukl ukc],.int .i64 0]) (by simp [results,Try.results8,go_sem, *]) rfl ?_
  have e1:=Qex w3 (w.heap.size + 1) ⟨uk,ux,ula,ull,ulc,uka,ukl,ukc⟩
  have e2:∀ b,b ≠ w.heap.size + 1 → (setT w3 (w.heap.size + 1) ⟨uk,ux,ula,ull,ulc,uka,ukl,ukc⟩).heap[b]? = w3.heap[b]?:=fun b hn=>Qdw ⟨uk,ux,ula,ull,ulc,uka,ukl,ukc⟩ hn
  have hlt1:=Qab HR1.out
  have hB:=HB0.out.trans ((HB2.out.trans (HB3.out.mono (by have:=HB2.out.size;exact this))).mono HB0.out.size)
  have e4:=hB.trans ((Qcp w3 (w.heap.size + 1) ⟨uk,ux,ula,ull,ulc,uka,ukl,ukc⟩).mono (Nat.le_succ _))
  refine ⟨⟨uk,ux,ula,ull,ulc,uka,ukl,ukc⟩,rfl,?_,e4⟩
  rw [HEX.out]
  show TrAt (fun b=>w.heap.size ≤ b ∧ b < (setT w3 (w.heap.size + 1) ⟨uk,ux,ula,ull,ulc,uka,ukl,ukc⟩).heap.size) (setT w3 (w.heap.size + 1) ⟨uk,ux,ula,ull,ulc,uka,ukl,ukc⟩) _ _
  have hsa:w1.heap.size ≤ (w1.alloc (.cells #[.int .i64 N,.int .i64 K] 44)).heap.size:=by rw [xI];omega
  have h0:w.heap.size + 1 < w1.heap.size:=hlt1
  have hu:=HU.out
  generalize (w1.alloc (.cells #[.int .i64 N,.int .i64 K] 44)).heap.size = q at hsa hu
  exact TrAt.move (fun b hb=>⟨by have:=hb.1;omega,by have:=hb.2;omega⟩) (fun b hb _=>e2 b (by have:=hb.1;omega)) _ _ hu
 ·have HEX:=hQ (HNO.out hE)
  have nE:=bneT hE
  have nE2:=beqF hE
  clear HY HNO
  go_enter Try.func8,Try.ntmps8
  go_wp2_with (go_at_call 13;refine HC.out.mono ?_;rintro e w1 ⟨rfl,hb⟩;have HB1:=hQ hb;have HR1:=hQ ((hb.block (w.heap.size + 1) (by rw [xI,xI];omega)).trans BX1.out);have r0:w1.cell? ⟨w.heap.size + 1,0,none⟩ = some (.int .i64 0):=Qaa HR1.out 0 _ rfl;have r1:w1.cell? ⟨w.heap.size + 1,1,none⟩ = some (.string ⟨#[]⟩):=Qaa HR1.out 1 _ rfl;have r2:w1.cell? ⟨w.heap.size + 1,2,none⟩ = some (.slice none 0 0):=Qaa HR1.out 2 _ rfl;have r3:w1.cell? ⟨w.heap.size + 1,3,none⟩ = some (.slice none 0 0):=Qaa HR1.out 3 _ rfl;have rl:=Qab HR1.out;have rl2:=Nat.lt_of_succ_lt rl;have rf:=Lib.frozen_of_heap HR1.out;clear hb)
  refine bodyPost_ret (v:=.tuple #[.agg #[.int .i64 0,.string ⟨#[]⟩,.slice none 0 0,.slice none 0 0],.int .i64 E]) (by simp [results,Try.results8,go_sem, *]) rfl ?_
  have hB:=HB0.out.trans (HB1.out.mono HB0.out.size)
  have e4:=hB.trans ((Qcp w1 (w.heap.size + 1) ⟨0,⟨#[]⟩,none,0,0,none,0,0⟩).mono (Nat.le_succ _))
  refine ⟨⟨0,⟨#[]⟩,none,0,0,none,0,0⟩,rfl,?_,e4.alloc e4.size _⟩
  rw [HEX.out]
  exact noTr_at _ _
end Go.Proofs.Ytclkilljmdkfaaa
