/- Part 46: The contract of flatten of package types. -/
import Derived.Test.YtclkilljmdkfaaaTy1
import Derived.Test.YtclkilljmdkfaaaTy42
import Derived.Test.YtclkilljmdkfaaaTy45
import Derived.Deep.RegionHeld3
import Derived.Deep.DeepCutAuto
set_option maxRecDepth 100000
set_option maxHeartbeats 4000000
namespace Go.Proofs.Ytclkilljmdkfaaa
open Go.RowKit Go.Shelf
abbrev flO (n k:Int):Obj:=.cells #[.int .i64 n,.int .i64 k] 44
def lenV:Value → Nat
 | .slice _ n _=>n
 | _=>0
def FlL (ps:List Tr) (R:Int × Nat × Int) (w:World) (rb mb:Nat) (v9 v14 v15 v16:Value) (wr:World):Prop :=
 ∃ (f n ab mc:Nat) (MA:Option Addr) (met:List Pr) (r:Int × Int × Bool),v9 = .int .i64 (n:Int) ∧ v14 = .bool r.2.2 ∧ v15 = .slice MA met.length mc ∧ v16 = .pointer (some ⟨ab,0,none⟩) ∧ wr.heap[ab]? = some (prO (r.1,r.2.1)) ∧
  QRow wr w.heap.size (.slice MA met.length mc) met ∧ (Value.slice MA met.length mc).ownBlock ≠ some ab ∧ (Value.slice MA met.length mc).ownBlock ≠ some rb ∧ AMap wr mb 90001 (Qca ps) ∧ wr.heap[rb]? = some (flO 0 0) ∧
  RefOk ps r ∧ goL ps f r met n = some R ∧ f + met.length = Qah ps + 1 ∧ n ≤ 1000 * (met.length + 1) ∧ Below w.heap.size w wr
theorem Qc1 (w:World) (b:Nat) (x y:Int):Below b w ((w.setCell ⟨b,0,none⟩ (.int .i64 x)).setCell ⟨b,1,none⟩ (.int .i64 y)):=((xC b w).setCell (p:=⟨b,0,none⟩) (xA _) _).setCell (p:=⟨b,1,none⟩) (xA _) _
theorem set2_alloc {w w3:World} (h:Below w.heap.size w w3) (x y:Int) (o:Obj):Below w.heap.size w (((w3.setCell ⟨w.heap.size + 1,0,none⟩ (.int .i64 x)).setCell ⟨w.heap.size + 1,1,none⟩ (.int .i64 y)).alloc o):=by
 have h2:=h.trans ((Qc1 w3 (w.heap.size + 1) x y).mono (Nat.le_succ _))
 exact h2.alloc h2.size _
theorem flat_res {ps:List Tr} {M:Nat} {t:Tr} (hg:Qbv ps = true) (h0:¬ (M:Int) < 0) (h1:¬ (ps.length:Int) ≤ (M:Int)) (t1:5 ≤ t.kind ∧ t.kind ≤ 9) (t2:Qai t = true):Qck ps M t = resP ps M t:=by
 unfold Qck
 rw [if_neg,Int.toNat_natCast]
 rintro (h | h | h | h | h)
 ·rw [hg] at h;cases h
 ·exact h0 h
 ·exact h1 h
 ·exact h t1
 ·rw [t2] at h;cases h
theorem wf_nat {n:Nat} (h:n ≤ 1000000):W64 (n:Int):=WalkArith.wf_i64 (by omega)
theorem uses_wf {ps:List Tr} (hz:∀ t ∈ ps,Qao t ≤ 1000) (hg:Qbv ps = true) (hq:Qbv (Qfi ps) = true) (hl:Qah ps ≤ 90000):∀ z ∈ tgtsG (Qfi ps),W64 z.1 ∧ ∃ x p,z.2.1 = x :: p ∧ W64 x:=fun z h=>by
 obtain ⟨m,d,t,k,ht,hk,h1,h2⟩:=(out_uses hz hg hq z).1 h
 have hm:m < ps.length:=(List.getElem?_eq_some_iff.1 ht).1
 have hd:d < t.kids.length:=(List.getElem?_eq_some_iff.1 hk).1
 have e1:=Qas ps
 have e2:=Qas t.kids
 have e3:=hz t (List.mem_of_getElem? ht)
 have e4:=Qbd t
 refine ⟨by rw [h1];exact wf_nat (by omega),?_⟩
 unfold hitD at h2
 split at h2
 ·rw [List.mem_singleton] at h2
  exact ⟨(d:Int),[0],by rw [h2];rfl,wf_nat (by omega)⟩
 ·simp at h2
theorem look_out {ps:List Tr} {M:Nat} {s:ByteArray} (hg:Qbv (Qfi ps) = true) (hm:(M:Int) < (ps.length:Int)):Qdi (Qfi ps) M s = Qaw ps M s:=by
 unfold Qdi
 have hl:(Qfi ps).length = ps.length:=by unfold Qfi;rw [List.length_map]
 rw [if_neg (by rw [hg,hl];simp;omega),Int.toNat_natCast,lookP_out]
theorem pr_news (w:World) (a b:Int):∀ (q:Nat) (x:Value),[(.int .i64 a:Value),.int .i64 b][q]? = some x → (w.alloc (prO (a,b))).cell? ((⟨w.heap.size,0,none⟩:Addr).add q) = some x:=World.news_of_block (xH w (prO (a,b)))
theorem pr_ones (a b:Int):∀ u ∈ [(.int .i64 a:Value),.int .i64 b],u.oneCell' = true:=by intro v hv;simp at hv;rcases hv with rfl | rfl <;> rfl
theorem amap_apart {w:World} {B b n:Nat} {f:Pr → Option Pr} {v:Value} {l:List Pr} (hq:QRow w B v l) (hm:AMap w b n f):v.ownBlock ≠ some b:=fun e=>by
 rcases hq.2 with ⟨h0,_⟩ | ⟨g,cap,cur,hv,_,hh,_⟩
 ·rw [h0] at e;cases e
 ·rw [hv] at e
  have e2:g = b:=by simpa [Value.ownBlock] using e
  subst e2
  obtain ⟨D,⟨es,ck,q1,_⟩,_⟩:=hm
  rw [q1] at hh
  injection hh with hh
  cases hh
theorem kept_block {w7 w8:World} {l:Value} {n k:Nat} {x o:Obj} (hk:Keeps (pre l n) (w7.alloc o) w8) (hl:l.ownBlock ≠ some k) (h:w7.heap[k]? = some x):w8.heap[k]? = some x:=by
 have hlt:=Qab h
 exact (hk.block k (by rw [xI];omega) (Qbr hl)).trans (((Qbk w7 o).block k hlt).trans h)
theorem kept_below {w w7 w8:World} {l:Value} {n:Nat} {o:Obj} (hb:Below w.heap.size w w7) (hk:Keeps (pre l n) (w7.alloc o) w8) (hl:∀ k,l.ownBlock = some k → w.heap.size ≤ k):Below w.heap.size w w8 :=
 (hb.alloc hb.size o).trans (hk.below (Nat.le_trans hb.size (Qbk w7 o).size) fun k hk=>Qbr fun e=>by have:=hl k e;omega)
theorem kept_map {w7 w8:World} {B b m n:Nat} {f:Pr → Option Pr} {l:Value} {ps:List Pr} {o:Obj} (hq:QRow (w7.alloc o) B l ps) (hm:AMap w7 b m f) (hk:Keeps (pre l n) (w7.alloc o) w8):AMap w8 b m f:=by
 have h2:=hm.below (Qbk w7 o)
 exact h2.keep (hk.block b h2.lt (Qbr (amap_apart hq h2)))
def CoreC (ta:Tr) (B0:Nat) (w8:World) (s17 s18:Value) (wx:World):Prop:=∃ (g:Nat) (y:TV),s17 = .pointer (some ⟨g,0,none⟩) ∧ s18 = .int .i64 (Qa7 ta:Nat) ∧ wx.heap[g]? = some (trO y) ∧ TrAt (fun b=>b < B0) wx (Qa2 ta) y ∧ w8.heap.size ≤ g ∧ Below w8.heap.size w8 wx
theorem core_late {ta:Tr} {B0:Nat} {w8 w3:World} {y:TV} (hz:w3.heap[w8.heap.size]? = some (trO ⟨0,⟨#[]⟩,none,0,0,none,0,0⟩)) (hy:TrAt (fun b=>b < B0) w3 (Qa2 ta) y) (hb:Below w8.heap.size w8 w3) (hB:B0 ≤ w8.heap.size) :
  CoreC ta B0 w8 (.pointer (some ⟨w8.heap.size,0,none⟩)) (.int .i64 (Qa7 ta:Nat)) (setT w3 w8.heap.size y) :=
 ⟨w8.heap.size,y,rfl,rfl,setT_heap y hz,TrAt.move (fun _ h=>h) (fun b hb' _=>Qdw y (by omega)) _ _ hy,xA _,hb.trans (Qcp w3 w8.heap.size y)⟩
theorem core_early {ta:Tr} {B0:Nat} {w8 w3:World} {y:TV} (hy:TrAt (fun b=>b < B0) w3 (Qa2 ta) y) (hb:Below w8.heap.size w8 w3) :
  CoreC ta B0 w8 (.pointer (some ⟨w3.heap.size,0,none⟩)) (.int .i64 (Qa7 ta:Nat)) (w3.alloc (trO y)) :=
 ⟨w3.heap.size,y,rfl,rfl,xH _ _,hy.keep (Qbk _ _),hb.size,hb.alloc hb.size _⟩
theorem typeB_no {t:Tr} (h:typeB t = false) {p q r:Prop}:p ∨ q ∨ r ∨ ¬ (5 ≤ t.kind ∧ t.kind ≤ 9) ∨ Qai t = false:=by
 unfold typeB at h
 cases hs:Qai t with
 | false=>exact .inr (.inr (.inr (.inr rfl)))
 | true =>
  rw [hs,Bool.and_true] at h
  refine .inr (.inr (.inr (.inl fun h1=>?_)))
  rw [decide_eq_true h1.1,decide_eq_true h1.2] at h
  cases h
theorem typeB_yes {t:Tr} (h:typeB t = true):(5 ≤ t.kind ∧ t.kind ≤ 9) ∧ Qai t = true:=by
 unfold typeB at h
 simp only [Bool.and_eq_true,decide_eq_true_eq] at h
 exact h
theorem bneT {a b:Int} (h:a ≠ b):(a != b) = true:=by simpa using h
theorem flatten_any (S S':Nat → Prop) (A:Option Addr) (c:Nat) (ps:List Tr) (m:Int) (t:Tr) (v:TV) (w:World) (hp:TrAt S w (Qa3 ps) ⟨0,⟨#[]⟩,none,0,0,A,ps.length,c⟩) (hf:fitT (Qa3 ps) = true) (hw:Qa9 (Qa3 ps) = true)
  (hz:∀ t ∈ ps,Qao t ≤ 1000) (hl:Qah ps ≤ 90000) (ht:TrAt S' w t v) (hts:Qbj t = true) (htw:Qa9 t = true) (htz:Qao t ≤ 1000) :
  Calls Try.prog 13 #[.slice A ps.length c,.int .i64 m,.agg #[.int .i64 v.kind,.string v.text,.slice v.la v.ll v.lc,.slice v.ka v.kl v.kc]] w fun e w'=>e = .returned (.tuple #[.agg #[.int .i64 ((Qck ps m t).2.1:Nat),.int .i64 (Qck ps m t).2.2],.int .i64 (Qck ps m t).1]) ∧ Below w.heap.size w w':=by
 have hsm:=fit_small _ hf
 have HPL:=hQ (TrAt.low _ _ hp)
 have HTL:=hQ (TrAt.low _ _ ht)
 have HF:=hQ hf
 have HW:=hQ hw
 have HZ:=hQ hz
 have HL:=hQ hl
 obtain ⟨W2,hW2⟩:∃ W,W = (w.alloc (trO v)).alloc (flO 0 0):=⟨_,rfl⟩
 have hb0:=Qcl w (trO v) (flO 0 0)
 obtain ⟨bx0,bx1⟩:=Qb6 w (trO v) (flO 0 0)
 rw [← hW2] at hb0 bx0 bx1
 have hsz2:W2.heap.size = w.heap.size + 2:=by rw [hW2,xI,xI]
 have HB0:=hQ hb0
 have BX0:=hQ bx0
 have BX1:=hQ bx1
 have HSZ2:=hQ hsz2
 have HCP:=hQ (program_typ S A c ps W2 (hp.keep hb0) hsm hw)
 have HCT:=hQ (fun w' (hb:Below w.heap.size w w')=>typing_any S' t v w' (ht.keep hb) hts htw)
 have HTZ:=hQ htz
 have HTW:=hQ htw
 clear hp hf hw hz hsm hb0 bx0 bx1 hsz2 ht hts htw htz hl
 subst hW2
 obtain ⟨vk,vx,vla,vll,vlc,vka,vkl,vkc⟩:=v
 cases hg:Qbv ps with
 | false =>
  have HV:=hQ (show Qck ps m t = (5,0,0) from by unfold Qck;rw [if_pos (.inl hg)])
  rw [hg] at HCP
  clear hg HCT
  go_enter Try.func13,Try.ntmps13
  go_wp2_with (first | (go_at_call 16;refine HCP.out.mono ?_;rintro e w1 ⟨rfl,hb⟩;have HB1:=hQ (HB0.out.trans (hb.mono HB0.out.size));have HRw1:=hQ ((hb.block (w.heap.size + 1) (by rw [HSZ2.out];omega)).trans BX1.out);have g0:w1.cell? ⟨w.heap.size + 1,0,none⟩ = some (.int .i64 0):=Qaa HRw1.out 0 _ rfl;have g1:w1.cell? ⟨w.heap.size + 1,1,none⟩ = some (.int .i64 0):=Qaa HRw1.out 1 _ rfl;have gbl:=Qab HRw1.out;have grf:=Lib.frozen_of_heap HRw1.out;have HXw1:=hQ ((hb.block w.heap.size (by rw [HSZ2.out];omega)).trans BX0.out);have x0:w1.cell? ⟨w.heap.size,0,none⟩ = some (.int .i64 vk):=Qaa HXw1.out 0 _ rfl;have x1:w1.cell? ⟨w.heap.size,1,none⟩ = some (.string vx):=Qaa HXw1.out 1 _ rfl;have x2:w1.cell? ⟨w.heap.size,2,none⟩ = some (.slice vla vll vlc):=Qaa HXw1.out 2 _ rfl;have x3:w1.cell? ⟨w.heap.size,3,none⟩ = some (.slice vka vkl vkc):=Qaa HXw1.out 3 _ rfl;have xbl:=Qab HXw1.out;clear hb) | fail)
  refine bodyPost_ret (v:=.tuple #[.agg #[.int .i64 0,.int .i64 0],.int .i64 5]) (by simp [results,Try.results13,go_sem, *]) rfl ?_
  rw [HV.out]
  exact ⟨rfl,(HB1.out.trans ((Qc1 w1 (w.heap.size + 1) 0 0).mono (Nat.le_succ _)))⟩
 | true =>
  rw [hg] at HCP
  have HG:=hQ hg
  by_cases h0:m < 0
  ·have HV:=hQ (show Qck ps m t = (5,0,0) from by unfold Qck;rw [if_pos (.inr (.inl h0))])
   clear hg HCT
   go_enter Try.func13,Try.ntmps13
   go_wp2_with (first | (go_at_call 16;refine HCP.out.mono ?_;rintro e w1 ⟨rfl,hb⟩;have HB1:=hQ (HB0.out.trans (hb.mono HB0.out.size));have HRw1:=hQ ((hb.block (w.heap.size + 1) (by rw [HSZ2.out];omega)).trans BX1.out);have g0:w1.cell? ⟨w.heap.size + 1,0,none⟩ = some (.int .i64 0):=Qaa HRw1.out 0 _ rfl;have g1:w1.cell? ⟨w.heap.size + 1,1,none⟩ = some (.int .i64 0):=Qaa HRw1.out 1 _ rfl;have gbl:=Qab HRw1.out;have grf:=Lib.frozen_of_heap HRw1.out;have HXw1:=hQ ((hb.block w.heap.size (by rw [HSZ2.out];omega)).trans BX0.out);have x0:w1.cell? ⟨w.heap.size,0,none⟩ = some (.int .i64 vk):=Qaa HXw1.out 0 _ rfl;have x1:w1.cell? ⟨w.heap.size,1,none⟩ = some (.string vx):=Qaa HXw1.out 1 _ rfl;have x2:w1.cell? ⟨w.heap.size,2,none⟩ = some (.slice vla vll vlc):=Qaa HXw1.out 2 _ rfl;have x3:w1.cell? ⟨w.heap.size,3,none⟩ = some (.slice vka vkl vkc):=Qaa HXw1.out 3 _ rfl;have xbl:=Qab HXw1.out;clear hb) | fail)
   refine bodyPost_ret (v:=.tuple #[.agg #[.int .i64 0,.int .i64 0],.int .i64 5]) (by simp [results,Try.results13,go_sem, *]) rfl ?_
   rw [HV.out]
   exact ⟨rfl,(HB1.out.trans ((Qc1 w1 (w.heap.size + 1) 0 0).mono (Nat.le_succ _)))⟩
  ·by_cases h1:(ps.length:Int) ≤ m
   ·have HV:=hQ (show Qck ps m t = (5,0,0) from by unfold Qck;rw [if_pos (.inr (.inr (.inl h1)))])
    clear hg HCT
    go_enter Try.func13,Try.ntmps13
    go_wp2_with (first | (go_at_call 16;refine HCP.out.mono ?_;rintro e w1 ⟨rfl,hb⟩;have HB1:=hQ (HB0.out.trans (hb.mono HB0.out.size));have HRw1:=hQ ((hb.block (w.heap.size + 1) (by rw [HSZ2.out];omega)).trans BX1.out);have g0:w1.cell? ⟨w.heap.size + 1,0,none⟩ = some (.int .i64 0):=Qaa HRw1.out 0 _ rfl;have g1:w1.cell? ⟨w.heap.size + 1,1,none⟩ = some (.int .i64 0):=Qaa HRw1.out 1 _ rfl;have gbl:=Qab HRw1.out;have grf:=Lib.frozen_of_heap HRw1.out;have HXw1:=hQ ((hb.block w.heap.size (by rw [HSZ2.out];omega)).trans BX0.out);have x0:w1.cell? ⟨w.heap.size,0,none⟩ = some (.int .i64 vk):=Qaa HXw1.out 0 _ rfl;have x1:w1.cell? ⟨w.heap.size,1,none⟩ = some (.string vx):=Qaa HXw1.out 1 _ rfl;have x2:w1.cell? ⟨w.heap.size,2,none⟩ = some (.slice vla vll vlc):=Qaa HXw1.out 2 _ rfl;have x3:w1.cell? ⟨w.heap.size,3,none⟩ = some (.slice vka vkl vkc):=Qaa HXw1.out 3 _ rfl;have xbl:=Qab HXw1.out;clear hb) | fail)
    refine bodyPost_ret (v:=.tuple #[.agg #[.int .i64 0,.int .i64 0],.int .i64 5]) (by simp [results,Try.results13,go_sem, *]) rfl ?_
    rw [HV.out]
    exact ⟨rfl,(HB1.out.trans ((Qc1 w1 (w.heap.size + 1) 0 0).mono (Nat.le_succ _)))⟩
   ·obtain ⟨M,rfl⟩:∃ M:Nat,m = (M:Int):=⟨m.toNat,by omega⟩
    have hnn:(0:Int) ≤ (M:Int):=by omega
    have hlt:(M:Int) < (ps.length:Int):=by omega
    cases hty:typeB t with
    | false =>
     have HV:=hQ (show Qck ps M t = (5,0,0) from by unfold Qck;rw [if_pos];exact typeB_no hty)
     rw [hty] at HCT
     clear hg hty
     go_enter Try.func13,Try.ntmps13
     go_wp2_with (first | (go_at_call 16;refine HCP.out.mono ?_;rintro e w1 ⟨rfl,hb⟩;have HB1:=hQ (HB0.out.trans (hb.mono HB0.out.size));have HRw1:=hQ ((hb.block (w.heap.size + 1) (by rw [HSZ2.out];omega)).trans BX1.out);have g0:w1.cell? ⟨w.heap.size + 1,0,none⟩ = some (.int .i64 0):=Qaa HRw1.out 0 _ rfl;have g1:w1.cell? ⟨w.heap.size + 1,1,none⟩ = some (.int .i64 0):=Qaa HRw1.out 1 _ rfl;have gbl:=Qab HRw1.out;have grf:=Lib.frozen_of_heap HRw1.out;have HXw1:=hQ ((hb.block w.heap.size (by rw [HSZ2.out];omega)).trans BX0.out);have x0:w1.cell? ⟨w.heap.size,0,none⟩ = some (.int .i64 vk):=Qaa HXw1.out 0 _ rfl;have x1:w1.cell? ⟨w.heap.size,1,none⟩ = some (.string vx):=Qaa HXw1.out 1 _ rfl;have x2:w1.cell? ⟨w.heap.size,2,none⟩ = some (.slice vla vll vlc):=Qaa HXw1.out 2 _ rfl;have x3:w1.cell? ⟨w.heap.size,3,none⟩ = some (.slice vka vkl vkc):=Qaa HXw1.out 3 _ rfl;have xbl:=Qab HXw1.out;clear hb) | (go_at_call 25;refine (HCT.out _ HB1.out).mono ?_;rintro e w2 ⟨rfl,hb⟩;have HB2:=hQ (HB1.out.trans (hb.mono HB1.out.size));clear g0 g1 gbl grf x0 x1 x2 x3;have HRw2:=hQ ((hb.block _ (Qab HRw1.out)).trans HRw1.out);have g0:w2.cell? ⟨w.heap.size + 1,0,none⟩ = some (.int .i64 0):=Qaa HRw2.out 0 _ rfl;have g1:w2.cell? ⟨w.heap.size + 1,1,none⟩ = some (.int .i64 0):=Qaa HRw2.out 1 _ rfl;have gbl:=Qab HRw2.out;have grf:=Lib.frozen_of_heap HRw2.out;have HXw2:=hQ ((hb.block _ (Qab HXw1.out)).trans HXw1.out);have x0:w2.cell? ⟨w.heap.size,0,none⟩ = some (.int .i64 vk):=Qaa HXw2.out 0 _ rfl;have x1:w2.cell? ⟨w.heap.size,1,none⟩ = some (.string vx):=Qaa HXw2.out 1 _ rfl;have x2:w2.cell? ⟨w.heap.size,2,none⟩ = some (.slice vla vll vlc):=Qaa HXw2.out 2 _ rfl;have x3:w2.cell? ⟨w.heap.size,3,none⟩ = some (.slice vka vkl vkc):=Qaa HXw2.out 3 _ rfl;skip;clear hb))
     refine bodyPost_ret (v:=.tuple #[.agg #[.int .i64 0,.int .i64 0],.int .i64 5]) (by simp [results,Try.results13,go_sem, *]) rfl ?_
     rw [HV.out]
     exact ⟨rfl,(HB2.out.trans ((Qc1 w2 (w.heap.size + 1) 0 0).mono (Nat.le_succ _)))⟩
    | true =>
     obtain ⟨t1,t2⟩:=typeB_yes hty
     have HV:=hQ (flat_res hg h0 h1 t1 t2)
     rw [hty] at HCT
     have t3:Qa1 t = true:=by rw [Qbq _ t (xA _) HTZ.out];exact t2
     obtain ⟨u1,u2,u3,u4⟩:=core_type _ t (xA _) t3 t1
     have HC:=hQ (fun w' (hb:Below w.heap.size w w')=>core_any _ (fun b=>b < w.heap.size) t ⟨vk,vx,vla,vll,vlc,vka,vkl,vkc⟩ w' (xA _) (fun b h=>xE h hb.size) (HTL.out.keep hb) t3 t1 HTZ.out)
     have hlz:(Qa7 t:Int) ≤ 1000:=by have:=Qdx t;have:=HTZ.out;omega
     have hl0:(0:Int) ≤ (Qa7 t:Int):=by omega
     by_cases h9:(Qa2 t).kind = 9
     ·have HGO:=hQ (resP_go (ps:=ps) (m:=M) h9)
      have HRO:=hQ (look_alias (i:=M) HZ.out hg u4 h9 (Nat.le_trans (core_size _ t (xA _) t3 t1) HTZ.out))
      have HWT:=hQ (show (Qa2 t).text.size ≤ maxLen from Nat.le_of_lt (Qbp (core_keeps (fun t=>Qa9 t = true) words_kid _ t (xA _) t3 t1 HTW.out)).1)
      have HLT:=hQ hlt
      have n9:((Qa2 t).kind != 9) = false:=by rw [h9];rfl
      obtain ⟨r,hr⟩:∃ r,r = Qaw ps M (Qa2 t).text:=⟨_,rfl⟩
      rw [← hr] at HGO HRO
      have HRR:=hQ hr
      obtain ⟨R,hR⟩:∃ R,R = resP ps M t:=⟨_,rfl⟩
      rw [← hR] at HGO HV
      rw [HV.out]
      clear hg hty t1 t2 t3 u1 u2 u3 u4 h0 h1 h9 hr hR HV
      go_enter Try.func13,Try.ntmps13
      go_wp2_with (first | (go_at_call 16;refine HCP.out.mono ?_;rintro e w1 ⟨rfl,hb⟩;have HB1:=hQ (HB0.out.trans (hb.mono HB0.out.size));have HRw1:=hQ ((hb.block (w.heap.size + 1) (by rw [HSZ2.out];omega)).trans BX1.out);have g0:w1.cell? ⟨w.heap.size + 1,0,none⟩ = some (.int .i64 0):=Qaa HRw1.out 0 _ rfl;have g1:w1.cell? ⟨w.heap.size + 1,1,none⟩ = some (.int .i64 0):=Qaa HRw1.out 1 _ rfl;have gbl:=Qab HRw1.out;have grf:=Lib.frozen_of_heap HRw1.out;have HXw1:=hQ ((hb.block w.heap.size (by rw [HSZ2.out];omega)).trans BX0.out);have x0:w1.cell? ⟨w.heap.size,0,none⟩ = some (.int .i64 vk):=Qaa HXw1.out 0 _ rfl;have x1:w1.cell? ⟨w.heap.size,1,none⟩ = some (.string vx):=Qaa HXw1.out 1 _ rfl;have x2:w1.cell? ⟨w.heap.size,2,none⟩ = some (.slice vla vll vlc):=Qaa HXw1.out 2 _ rfl;have x3:w1.cell? ⟨w.heap.size,3,none⟩ = some (.slice vka vkl vkc):=Qaa HXw1.out 3 _ rfl;have xbl:=Qab HXw1.out;clear hb) | (go_at_call 25;refine (HCT.out _ HB1.out).mono ?_;rintro e w2 ⟨rfl,hb⟩;have HB2:=hQ (HB1.out.trans (hb.mono HB1.out.size));clear g0 g1 gbl grf x0 x1 x2 x3;have HRw2:=hQ ((hb.block _ (Qab HRw1.out)).trans HRw1.out);have g0:w2.cell? ⟨w.heap.size + 1,0,none⟩ = some (.int .i64 0):=Qaa HRw2.out 0 _ rfl;have g1:w2.cell? ⟨w.heap.size + 1,1,none⟩ = some (.int .i64 0):=Qaa HRw2.out 1 _ rfl;have gbl:=Qab HRw2.out;have grf:=Lib.frozen_of_heap HRw2.out;have HXw2:=hQ ((hb.block _ (Qab HXw1.out)).trans HXw1.out);have x0:w2.cell? ⟨w.heap.size,0,none⟩ = some (.int .i64 vk):=Qaa HXw2.out 0 _ rfl;have x1:w2.cell? ⟨w.heap.size,1,none⟩ = some (.string vx):=Qaa HXw2.out 1 _ rfl;have x2:w2.cell? ⟨w.heap.size,2,none⟩ = some (.slice vla vll vlc):=Qaa HXw2.out 2 _ rfl;have x3:w2.cell? ⟨w.heap.size,3,none⟩ = some (.slice vka vkl vkc):=Qaa HXw2.out 3 _ rfl;skip;clear hb) | (go_at_call 26;refine (HC.out _ HB2.out).mono ?_;rintro e w3 ⟨y,rfl,hy,hb⟩;have HY:=hQ hy;have HB3:=hQ (HB2.out.trans (hb.mono HB2.out.size));clear g0 g1 gbl grf x0 x1 x2 x3;have HRw3:=hQ ((hb.block _ (Qab HRw2.out)).trans HRw2.out);have g0:w3.cell? ⟨w.heap.size + 1,0,none⟩ = some (.int .i64 0):=Qaa HRw3.out 0 _ rfl;have g1:w3.cell? ⟨w.heap.size + 1,1,none⟩ = some (.int .i64 0):=Qaa HRw3.out 1 _ rfl;have gbl:=Qab HRw3.out;have grf:=Lib.frozen_of_heap HRw3.out;have ey:=hy.kl.2.2.1;have HEY:=hQ ey;rw [← ey] at n9;have et:=hy.kl.2.2.2;have HET:=hQ et;have gb2:=Nat.lt_of_succ_lt gbl;have HB3A:=hQ (HB3.out.alloc HB3.out.size (trO y));have HX3:=hQ (xH w3 (trO y));have HR3:=hQ (((Qbk w3 (trO y)).block _ gbl).trans HRw3.out);clear hy hb ey et) | (go_at_call 18;refine (outline_ok _ A c ps _ (HPL.out.keep HB3A.out) HG.out HZ.out HL.out HF.out HW.out).mono ?_;rintro e w4 ⟨QA,qc,rfl,hq,hb⟩;have HQ:=hQ hq;have HB4:=hQ (HB3A.out.trans (hb.mono HB3A.out.size));clear g0 g1 gbl grf;have HRw4:=hQ ((hb.block _ (Qab HR3.out)).trans HR3.out);have g0:w4.cell? ⟨w.heap.size + 1,0,none⟩ = some (.int .i64 0):=Qaa HRw4.out 0 _ rfl;have g1:w4.cell? ⟨w.heap.size + 1,1,none⟩ = some (.int .i64 0):=Qaa HRw4.out 1 _ rfl;have gbl:=Qab HRw4.out;have grf:=Lib.frozen_of_heap HRw4.out;have HX4:=hQ ((hb.block _ (Qab HX3.out)).trans HX3.out);clear hq hb) | (go_at_call 17;refine (references_any _ QA qc (Qfi ps) _ HQ.out.at' HQ.out.fit HQ.out.small HQ.out.words HQ.out.size (uses_wf HZ.out HG.out HQ.out.prog HL.out)).mono ?_;rintro e w5 ⟨mb,rfl,hm,hmb,hb⟩;rw [refs_out HZ.out HG.out HQ.out.prog] at hm;have HM5:=hQ hm;have HMB:=hQ hmb;have HQ5:=hQ (HQ.out.at'.keep hb);have HB5:=hQ (HB4.out.trans (hb.mono HB4.out.size));clear g0 g1 gbl grf;have HRw5:=hQ ((hb.block _ (Qab HRw4.out)).trans HRw4.out);have g0:w5.cell? ⟨w.heap.size + 1,0,none⟩ = some (.int .i64 0):=Qaa HRw5.out 0 _ rfl;have g1:w5.cell? ⟨w.heap.size + 1,1,none⟩ = some (.int .i64 0):=Qaa HRw5.out 1 _ rfl;have gbl:=Qab HRw5.out;have grf:=Lib.frozen_of_heap HRw5.out;have HX5:=hQ ((hb.block _ (Qab HX4.out)).trans HX4.out);have y1:w5.cell? ⟨w3.heap.size,1,none⟩ = some (.string y.text):=Qaa HX5.out 1 _ rfl;have ybl:=Qab HX5.out;clear hm hmb hb) | (go_at_call 27;refine (lookup_lnk _ QA qc (Qfi ps) M y.text _ HQ5.out HQ.out.fit HQ.out.small HQ.out.words (by rw [HET.out];exact HWT.out)).mono ?_;rintro e w6 ⟨rfl,hb⟩;rw [look_out HQ.out.prog HLT.out,HET.out,← HRR.out];have HM6:=hQ (HM5.out.below hb);have HB6:=hQ (HB5.out.trans (hb.mono HB5.out.size));have HR6:=hQ ((hb.block _ (Qab HRw5.out)).trans HRw5.out);clear g0 g1 gbl grf y1 ybl hb))
      go_loopw [9,14,15,16] (fun v9 v14 v15 v16 wr=>FlL ps R w (w.heap.size + 1) mb v9 v14 v15 v16 wr) (fun _ _ v15 _ _=>Qah ps + 1 - lenV v15)
      case atStart =>
       refine ⟨Qah ps + 1,Qa7 t,w6.heap.size,0,none,[],r,rfl,rfl,rfl,rfl,xH w6 _,QRow.nil _ _,fun e=>(by cases e),fun e=>(by cases e),HM6.out.below (Qbk w6 _),((Qbk w6 _).block _ (Qab HR6.out)).trans HR6.out,HRO.out,HGO.out,rfl,?_,HB6.out.alloc HB6.out.size _⟩
       simp only [xG]
       omega
      case round =>
       obtain ⟨f,n,ab,mc,MA,met,r2,rfl,rfl,rfl,rfl,hab,hq,hoa,hob,hm,hrb,hro,hgo,hfm,hn,hb⟩:=hrel
       have HAB:=hQ hab
       have HQR:=hQ hq
       have HOA:=hQ hoa
       have HOB:=hQ hob
       have HMR:=hQ hm
       have HRB:=hQ hrb
       have HGR:=hQ hgo
       have HFM:=hQ hfm
       have HN:=hQ hn
       have HBR:=hQ hb
       have a0:wr.cell? ⟨ab,0,none⟩ = some (.int .i64 r2.1):=Qaa hab 0 _ rfl
       have a1:wr.cell? ⟨ab,1,none⟩ = some (.int .i64 r2.2.1):=Qaa hab 1 _ rfl
       have abl:=Qab hab
       have g0:wr.cell? ⟨w.heap.size + 1,0,none⟩ = some (.int .i64 0):=Qaa hrb 0 _ rfl
       have g1:wr.cell? ⟨w.heap.size + 1,1,none⟩ = some (.int .i64 0):=Qaa hrb 1 _ rfl
       have gbl:=Qab hrb
       have grf:=Lib.frozen_of_heap hrb
       clear hab hq hoa hob hm hrb hgo hfm hn hb hlz hl0
       rcases hro with ⟨_,rfl⟩ | ⟨M2,D2,t2,k2,rfl,ht2,hk2,hk3⟩
       ·have HV:=hQ (goL_no HGR.out rfl)
        go_wp2
        refine bodyPost_ret (v:=.tuple #[.agg #[.int .i64 0,.int .i64 0],.int .i64 7]) (by simp [results,Try.results13,go_sem, *]) rfl ?_
        rw [HV.out]
        exact ⟨rfl,HBR.out.trans ((Qc1 wr (w.heap.size + 1) 0 0).mono (Nat.le_succ _))⟩
       ·have hmet:met.length ≤ 90001:=by have:=HFM.out;have:=HL.out;omega
        by_cases hmem:((M2:Int),(D2:Int)) ∈ met
        ·have HV:=hQ (goL_met HGR.out rfl hmem)
         have HCN:=hQ (show Calls Try.prog 19 #[.slice MA met.length mc,.agg #[.int .i64 M2,.int .i64 D2]] wr fun e w'=>e = .returned (.bool true) ∧ Below wr.heap.size wr w' from by have h:=Qdh w.heap.size mc MA met M2 D2 wr HQR.out (by omega);rw [decide_eq_true hmem] at h;exact h)
         clear ht2 hk2 hk3 hmem
         go_wp2_with (go_at_call 19;refine HCN.out.mono ?_;rintro e w7 ⟨rfl,hb⟩;have HB7:=hQ (HBR.out.trans (hb.mono HBR.out.size));clear g0 g1 gbl grf;have HRw7:=hQ ((hb.block _ (Qab HRB.out)).trans HRB.out);have g0:w7.cell? ⟨w.heap.size + 1,0,none⟩ = some (.int .i64 0):=Qaa HRw7.out 0 _ rfl;have g1:w7.cell? ⟨w.heap.size + 1,1,none⟩ = some (.int .i64 0):=Qaa HRw7.out 1 _ rfl;have gbl:=Qab HRw7.out;have grf:=Lib.frozen_of_heap HRw7.out;clear hb)
         refine bodyPost_ret (v:=.tuple #[.agg #[.int .i64 0,.int .i64 0],.int .i64 19]) (by simp [results,Try.results13,go_sem, *]) rfl ?_
         rw [HV.out]
         exact ⟨rfl,HB7.out.trans ((Qc1 w7 (w.heap.size + 1) 0 0).mono (Nat.le_succ _))⟩
        ·have HCN:=hQ (show Calls Try.prog 19 #[.slice MA met.length mc,.agg #[.int .i64 M2,.int .i64 D2]] wr fun e w'=>e = .returned (.bool false) ∧ Below wr.heap.size wr w' from by have h:=Qdh w.heap.size mc MA met M2 D2 wr HQR.out (by omega);rw [decide_eq_false hmem] at h;exact h)
         obtain ⟨ta,hka,hty2,hlf,hta1,hta2,hta3⟩:=ref_def HZ.out HG.out ht2 hk2 hk3
         have HMEM:=hQ hmem
         have HT2:=hQ ht2
         have HK2:=hQ hk2
         have HK3:=hQ hk3
         have HKA:=hQ hka
         have HTY:=hQ hty2
         have HLF:=hQ hlf
         have HTA:=hQ (show Qa1 ta = true ∧ (5 ≤ ta.kind ∧ ta.kind ≤ 9) ∧ Qao ta ≤ 1000 from ⟨hta1,hta2,hta3⟩)
         have HM1:=hQ (show met.length + 1 ≤ maxLen from by unfold maxLen;omega)
         have HM2:=hQ (show (met.length + 1) * 16 ≤ 140737488355328 from by omega)
         obtain ⟨pz,hpz,pz0,pz1,pz2⟩:=info_parts pr_info
         clear ht2 hk2 hk3 hmem hka hty2 hlf hta1 hta2 hta3
         go_upto_region 16 with (first
          | (go_at_call 19;refine HCN.out.mono ?_;rintro e w7 ⟨rfl,hb⟩;have HB7:=hQ (HBR.out.trans (hb.mono HBR.out.size));clear g0 g1 gbl grf a0 a1 abl;have HRw7:=hQ ((hb.block _ (Qab HRB.out)).trans HRB.out);have g0:w7.cell? ⟨w.heap.size + 1,0,none⟩ = some (.int .i64 0):=Qaa HRw7.out 0 _ rfl;have g1:w7.cell? ⟨w.heap.size + 1,1,none⟩ = some (.int .i64 0):=Qaa HRw7.out 1 _ rfl;have gbl:=Qab HRw7.out;have grf:=Lib.frozen_of_heap HRw7.out;have HA7:=hQ ((hb.block _ (Qab HAB.out)).trans HAB.out);have HQ7:=hQ ((HQR.out.keep hb).keep (Qbk w7 (prO ((M2:Int),(D2:Int)))));have HM7:=hQ (HMR.out.below hb);have a0:w7.cell? ⟨ab,0,none⟩ = some (.int .i64 M2):=Qaa HA7.out 0 _ rfl;have a1:w7.cell? ⟨ab,1,none⟩ = some (.int .i64 D2):=Qaa HA7.out 1 _ rfl;have abl:=Qab HA7.out;have HS7:=hQ (show w.heap.size ≤ (w7.alloc (prO ((M2:Int),(D2:Int)))).heap.size from by rw [xI];exact Nat.le_succ_of_le HB7.out.size);clear hb)
          | (at_builtin;refine Qdg _ rfl _ _ 56 rfl w.heap.size 52 pz _ 2 16 Try.underlying56 hpz pz0 pz1 pz2 rfl (by decide) _ met.length (Qdp met) rfl HQ7.out ⟨w7.heap.size,0,none⟩ 1 1 [.int .i64 M2,.int .i64 D2] rfl rfl (pr_news w7 M2 D2) (pr_ones M2 D2) (by decide) HM1.out HM2.out HS7.out ?_;intro g8 c8 w8 hown hk8 hg8 hlt8;have HO8:=hQ hown;have HK8:=hQ hk8;have HG8:=hQ hg8;clear hown hk8 hg8 hlt8 a0 a1 abl g0 g1 gbl grf))
         have HB8:=hQ (kept_below HB7.out HK8.out fun k hk=>(World.ownsRow.lt HQ7.out k hk).1)
         have HA8:=hQ (kept_block HK8.out HOA.out HA7.out)
         have HR8:=hQ (kept_block HK8.out HOB.out HRw7.out)
         have HM8:=hQ (kept_map HQ7.out HM7.out HK8.out)
         have a0:w8.cell? ⟨ab,0,none⟩ = some (.int .i64 M2):=Qaa HA8.out 0 _ rfl
         have a1:w8.cell? ⟨ab,1,none⟩ = some (.int .i64 D2):=Qaa HA8.out 1 _ rfl
         have abl:=Qab HA8.out
         have hM2:=(List.getElem?_eq_some_iff.1 HT2.out).1
         have hD2:=(List.getElem?_eq_some_iff.1 HK2.out).1
         obtain ⟨pb,po,hpa⟩:∃ b off,A = some ⟨b,off,none⟩:=HPL.out.addr.resolve_left (by show ¬ ps.length = 0;omega)
         subst hpa
         obtain ⟨p1,_,_,_,d3,hd⟩:=(HPL.out.keep HB8.out).at rfl (show (Qa3 ps).kids[M2]? = some t2 from HT2.out)
         obtain ⟨qb,qo,hqa⟩:∃ b off,p1.ka = some ⟨b,off,none⟩:=hd.addr.resolve_left (by omega)
         obtain ⟨p2,_,_,_,e3,he⟩:=hd.at hqa HK2.out
         obtain ⟨sb,so,hsa⟩:∃ b off,p2.ka = some ⟨b,off,none⟩:=he.addr.resolve_left (by rw [HKA.out];simp)
         obtain ⟨p3,f0,f1,f2,f3,hx⟩:=he.at hsa (show k2.kids[0]? = some ta from by rw [HKA.out];rfl)
         have el1:=hd.kl.1
         have el2:=he.kl.1
         rw [HKA.out] at el2
         rw [hqa,el1] at d3
         rw [hsa,el2] at e3
         simp only [Nat.zero_mul,Nat.add_zero,List.length_singleton] at f0 f1 f2 f3 e3
         have HX:=hQ hx
         have i0:(0:Int) ≤ (M2:Int):=by omega
         have i1:(M2:Int) < (ps.length:Int):=by omega
         have i2:(0:Int) ≤ (D2:Int):=by omega
         have i3:(D2:Int) < (t2.kids.length:Int):=by omega
         have dl:=xK w8 _ d3
         have el:=xK w8 _ e3
         have fl:=xK w8 _ f0
         clear hx he hd hqa hsa el1 el2
         have HC8:=hQ (fun w' (hb:Below w8.heap.size w8 w')=>core_any _ (fun b=>b < w.heap.size) ta p3 w' (xA _) (fun b h=>xE h (Nat.le_trans HB8.out.size hb.size)) (HX.out.keep hb) HTA.out.1 HTA.out.2.1 HTA.out.2.2)
         have mixedL:Try.prog.follows Departure.mixedOrders = true:=mixed
         have n0:=World.new_ne w8 _ a0
         have n1:=World.new_ne w8 _ d3
         have n2:=World.new_ne w8 _ e3
         have n3:=World.new_ne w8 _ f0
         go_cut [17,18] (fun s17 s18 wx=>CoreC ta w.heap.size w8 s17 s18 wx)
         case first =>
          go_region_held3 (fun w'=>w'.cell? ⟨ab,0,none⟩ = some (.int .i64 M2) ∧ w'.cell? ⟨ab,1,none⟩ = some (.int .i64 D2) ∧ w'.cell? ⟨pb,po + M2 * 4 + 3,none⟩ = some (.slice (some ⟨qb,qo,none⟩) t2.kids.length p1.kc) ∧ w'.cell? ⟨qb,qo + D2 * 4 + 3,none⟩ = some (.slice (some ⟨sb,so,none⟩) 1 p2.kc) ∧ w'.cell? ⟨sb,so,none⟩ = some (.int .i64 p3.kind) ∧ w'.cell? ⟨sb,so + 1,none⟩ = some (.string p3.text) ∧ w'.cell? ⟨sb,so + 2,none⟩ = some (.slice p3.la p3.ll p3.lc) ∧ w'.cell? ⟨sb,so + 3,none⟩ = some (.slice p3.ka p3.kl p3.kc)) (first | with_reducible exact ⟨a0,a1,d3,e3,f0,f1,f2,f3⟩ | go_keep) (first
           | (go_at_call 26;refine (HC8.out w8.drew (xC _ _).drew).mono ?_;rintro e w3 ⟨y,rfl,hy,hb3⟩;have HY:=hQ hy;have HB3:=hQ (show Below w8.heap.size w8 w3 from (show Below w8.heap.size w8 w8.drew from (xC _ _).drew).trans hb3);have h0:=Qbe HB3.out abl a0;have h1:=Qbe HB3.out abl a1;have h2:=Qbe HB3.out dl d3;have h3:=Qbe HB3.out el e3;have h4:=Qbe HB3.out fl f0;have h5:=Qbe HB3.out fl f1;have h6:=Qbe HB3.out fl f2;have h7:=Qbe HB3.out fl f3;have q0:=xE abl HB3.out.size;have q1:=xE dl HB3.out.size;have q2:=xE el HB3.out.size;have q3:=xE fl HB3.out.size;clear a0 a1 d3 e3 f0 f1 f2 f3 abl dl el fl;have a0:=h0;have a1:=h1;have d3:=h2;have e3:=h3;have f0:=h4;have f1:=h5;have f2:=h6;have f3:=h7;have abl:=q0;have dl:=q1;have el:=q2;have fl:=q3;clear h0 h1 h2 h3 h4 h5 h6 h7 q0 q1 q2 q3;clear hb3 hy)
           | (go_at_call 26;refine (HC8.out ((w8.alloc (.cells #[.int .i64 0,.string ⟨#[]⟩,.slice none 0 0,.slice none 0 0] 27)).drew) ((xC _ _).alloc (xA _) _).drew).mono ?_;rintro e w3 ⟨y,rfl,hy,hb3⟩;have HY:=hQ hy;have HB3:=hQ (show Below w8.heap.size w8 w3 from (((xC w8.heap.size w8).alloc (xA _) (.cells #[.int .i64 0,.string ⟨#[]⟩,.slice none 0 0,.slice none 0 0] 27)).drew).trans (hb3.mono (by show _ ≤ (w8.alloc _).heap.size;rw [xI];omega)));have hzb:=(show w3.heap[w8.heap.size]? = some (.cells #[.int .i64 0,.string ⟨#[]⟩,.slice none 0 0,.slice none 0 0] 27 (0,0)) from (hb3.block _ (by show _ < (w8.alloc _).heap.size;rw [xI];omega)).trans (xH w8 _));have HZB:=hQ hzb;have zf:∀ o,w3.frozen? ⟨w8.heap.size,o,none⟩ = false:=(fun o=>Lib.frozen_of_heap hzb _);have zl:=Qab hzb;have z0:w3.cell? ⟨w8.heap.size,0,none⟩ = some (.int .i64 0):=Qaa hzb 0 _ rfl;have z1:w3.cell? ⟨w8.heap.size,1,none⟩ = some (.string ⟨#[]⟩):=Qaa hzb 1 _ rfl;have z2:w3.cell? ⟨w8.heap.size,2,none⟩ = some (.slice none 0 0):=Qaa hzb 2 _ rfl;have z3:w3.cell? ⟨w8.heap.size,3,none⟩ = some (.slice none 0 0):=Qaa hzb 3 _ rfl;have h0:=Qbe HB3.out abl a0;have h1:=Qbe HB3.out abl a1;have h2:=Qbe HB3.out dl d3;have h3:=Qbe HB3.out el e3;have h4:=Qbe HB3.out fl f0;have h5:=Qbe HB3.out fl f1;have h6:=Qbe HB3.out fl f2;have h7:=Qbe HB3.out fl f3;have q0:=xE abl HB3.out.size;have q1:=xE dl HB3.out.size;have q2:=xE el HB3.out.size;have q3:=xE fl HB3.out.size;clear a0 a1 d3 e3 f0 f1 f2 f3 abl dl el fl;have a0:=h0;have a1:=h1;have d3:=h2;have e3:=h3;have f0:=h4;have f1:=h5;have f2:=h6;have f3:=h7;have abl:=q0;have dl:=q1;have el:=q2;have fl:=q3;clear h0 h1 h2 h3 h4 h5 h6 h7 q0 q1 q2 q3;clear hb3 hy hzb)
           | fail)
          all_goals
           go_wp2_with fail
           go_meet
           first
            | (have hh:=HZB.out;clear hh;exact core_late HZB.out HY.out HB3.out HB8.out.size)
            | exact core_early HY.out HB3.out
         case rest =>
          obtain ⟨w9,hww⟩:∃ w',w' = wc:=⟨_,rfl⟩
          subst hww
          obtain ⟨g9,y9,rfl,rfl,hyb,hyt,hgl,hbc⟩:=hcut
          have HB9:=hQ (HB8.out.trans (hbc.mono HB8.out.size))
          have HA9:=hQ ((hbc.block _ (Qab HA8.out)).trans HA8.out)
          have HR9:=hQ ((hbc.block _ (Qab HR8.out)).trans HR8.out)
          have HM9:=hQ (HM8.out.below hbc)
          have HO9:=hQ (Qd9 HO8.out hbc)
          have HGL:=hQ hgl
          have HBC:=hQ hbc
          have ek:=hyt.kl.2.2.1
          have y0:w9.cell? ⟨g9,0,none⟩ = some (.int .i64 (Qa2 ta).kind):=by rw [← ek];exact Qaa hyb 0 _ rfl
          have ybl:=Qab hyb
          have g0:w9.cell? ⟨w.heap.size + 1,0,none⟩ = some (.int .i64 0):=Qaa HR9.out 0 _ rfl
          have g1:w9.cell? ⟨w.heap.size + 1,1,none⟩ = some (.int .i64 0):=Qaa HR9.out 1 _ rfl
          have gbl:=Qab HR9.out
          have gb2:=Nat.lt_of_succ_lt gbl
          have grf:=Lib.frozen_of_heap HR9.out
          have HLZ:=hQ (show Qa7 ta ≤ 1000 from Nat.le_trans (Qdx ta) HTA.out.2.2)
          have hs1:(n:Int) + (Qa7 ta:Int) ≤ 100000000:=by have:=HLZ.out;have:=HN.out;omega
          have hs0:(0:Int) ≤ (n:Int) + (Qa7 ta:Int):=by omega
          clear hyb hyt hgl hbc ek hM2 hD2 n0 n1 n2 n3 mixedL a0 a1 abl d3 e3 f0 f1 f2 f3 dl el fl
          by_cases h9:(Qa2 ta).kind = 9
          ·obtain ⟨f',hf',hgo'⟩:=goL_next HGR.out HMEM.out (by rw [HLF.out];exact h9)
           rw [HTY.out,HLF.out] at hgo'
           have HGN:=hQ hgo'
           have HFN:=hQ hf'
           have HRN:=hQ (look_alias (i:=M2) HZ.out HG.out (core_type _ ta (xA _) HTA.out.1 HTA.out.2.1).2.2.2 h9 (Nat.le_trans (core_size _ ta (xA _) HTA.out.1 HTA.out.2.1) HTA.out.2.2))
           have hsl:=step_look (ps:=ps) (m:=M2) (d:=D2) (by rw [defT_get HT2.out HK2.out];exact HK3.out) (by rw [HLF.out];exact h9)
           rw [HLF.out] at hsl
           obtain ⟨rn,hrn⟩:∃ rn,rn = Qaw ps M2 (Qa2 ta).text:=⟨_,rfl⟩
           rw [← hrn] at hsl HGN HRN
           have HSL:=hQ hsl
           have n9:((Qa2 ta).kind != 9) = false:=by rw [h9];rfl
           have a0:w9.cell? ⟨ab,0,none⟩ = some (.int .i64 M2):=Qaa HA9.out 0 _ rfl
           have a1:w9.cell? ⟨ab,1,none⟩ = some (.int .i64 D2):=Qaa HA9.out 1 _ rfl
           have abl:=Qab HA9.out
           have WM:=hQ (wf_nat (show M2 ≤ 1000000 from by have h1:=(List.getElem?_eq_some_iff.1 HT2.out).1;have h2:=Qas ps;have h3:=HL.out;omega))
           have WD:=hQ (wf_nat (show D2 ≤ 1000000 from by have h1:=(List.getElem?_eq_some_iff.1 HK2.out).1;have h2:=Qas t2.kids;have h3:=HZ.out t2 (List.mem_of_getElem? HT2.out);have h4:=Qbd t2;omega))
           have HMX:=hQ (HM9.out.below (Qbk w9 (prO ((M2:Int),(D2:Int)))))
           clear hgo' hf' hrn hsl h9
           go_wp2_with (at_lookup;refine Qdq rfl _ _ rfl mb 90001 (Qca ps) rfl HMX.out M2 D2 rfl WM.out WD.out ?_)
           go_roundw
           case measure =>
            show Qah ps + 1 - (met.length + 1) < Qah ps + 1 - met.length
            have h1:=HFM.out
            have h2:=HFN.out
            omega
           case rel =>
            have hg8:(Value.slice MA met.length mc).ownBlock = some g8 ∨ (w7.alloc (prO ((M2:Int),(D2:Int)))).heap.size ≤ g8:=HG8.out
            have hl8:=World.ownsRow.lt HO9.out g8 rfl
            have h1:=HFM.out
            have h2:=HFN.out
            have h3:=HLZ.out
            have h4:=HN.out
            refine ⟨f',n + Qa7 ta,w9.heap.size,c8,some ⟨g8,0,none⟩,met ++ [((M2:Int),(D2:Int))],rn,by rw [Int.natCast_add],by rw [← HSL.out],by rw [xB];rfl,rfl,?_,?_,?_,?_,HM9.out.below (Qbk w9 _),((Qbk w9 _).block _ (Qab HR9.out)).trans HR9.out,HRN.out,HGN.out,by rw [xB,List.length_singleton];omega,by rw [xB,List.length_singleton];omega,HB9.out.alloc HB9.out.size _⟩
            ·rw [← HSL.out]
             exact xH w9 _
            ·have h:=Qd9 HO9.out (Qbk w9 (.cells #[.int .i64 (lookF (Qca ps) ((M2:Int),(D2:Int))).1,.int .i64 (lookF (Qca ps) ((M2:Int),(D2:Int))).2] 52))
             unfold QRow
             rw [xB,prCells_append]
             exact h
            ·intro e
             have e2:g8 = w9.heap.size:=by simpa [Value.ownBlock] using e
             omega
            ·intro e
             have e2:g8 = w.heap.size + 1:=by simpa [Value.ownBlock] using e
             rcases hg8 with h | h
             ·exact HOB.out (h.trans (by rw [e2]))
             ·have h5:=Qab HRw7.out
              rw [xI] at h
              omega
          ·have HV:=hQ (goL_leaf HGR.out HMEM.out (by rw [HLF.out];exact h9))
           have n9:=bneT h9
           clear h9
           go_wp2
           refine bodyPost_ret (v:=.tuple #[.agg #[.int .i64 ((n:Int) + (Qa7 ta:Int)),.int .i64 (Qa2 ta).kind],.int .i64 0]) (by simp [results,Try.results13,go_sem, *]) rfl ?_
           rw [HV.out,HTY.out,HLF.out]
           exact ⟨rfl,HB9.out.trans ((Qc1 w9 (w.heap.size + 1) _ _).mono (Nat.le_succ _))⟩
     ·have HV2:=hQ (show Qck ps M t = (0,Qa7 t,(Qa2 t).kind) from HV.out.trans (by unfold resP;rw [if_neg h9]))
      have n9:=bneT h9
      clear hg hty t1 t2 t3 u1 u2 u3 u4 h0 h1
      go_enter Try.func13,Try.ntmps13
      go_wp2_with (first | (go_at_call 16;refine HCP.out.mono ?_;rintro e w1 ⟨rfl,hb⟩;have HB1:=hQ (HB0.out.trans (hb.mono HB0.out.size));have HRw1:=hQ ((hb.block (w.heap.size + 1) (by rw [HSZ2.out];omega)).trans BX1.out);have g0:w1.cell? ⟨w.heap.size + 1,0,none⟩ = some (.int .i64 0):=Qaa HRw1.out 0 _ rfl;have g1:w1.cell? ⟨w.heap.size + 1,1,none⟩ = some (.int .i64 0):=Qaa HRw1.out 1 _ rfl;have gbl:=Qab HRw1.out;have grf:=Lib.frozen_of_heap HRw1.out;have HXw1:=hQ ((hb.block w.heap.size (by rw [HSZ2.out];omega)).trans BX0.out);have x0:w1.cell? ⟨w.heap.size,0,none⟩ = some (.int .i64 vk):=Qaa HXw1.out 0 _ rfl;have x1:w1.cell? ⟨w.heap.size,1,none⟩ = some (.string vx):=Qaa HXw1.out 1 _ rfl;have x2:w1.cell? ⟨w.heap.size,2,none⟩ = some (.slice vla vll vlc):=Qaa HXw1.out 2 _ rfl;have x3:w1.cell? ⟨w.heap.size,3,none⟩ = some (.slice vka vkl vkc):=Qaa HXw1.out 3 _ rfl;have xbl:=Qab HXw1.out;clear hb) | (go_at_call 25;refine (HCT.out _ HB1.out).mono ?_;rintro e w2 ⟨rfl,hb⟩;have HB2:=hQ (HB1.out.trans (hb.mono HB1.out.size));clear g0 g1 gbl grf x0 x1 x2 x3;have HRw2:=hQ ((hb.block _ (Qab HRw1.out)).trans HRw1.out);have g0:w2.cell? ⟨w.heap.size + 1,0,none⟩ = some (.int .i64 0):=Qaa HRw2.out 0 _ rfl;have g1:w2.cell? ⟨w.heap.size + 1,1,none⟩ = some (.int .i64 0):=Qaa HRw2.out 1 _ rfl;have gbl:=Qab HRw2.out;have grf:=Lib.frozen_of_heap HRw2.out;have HXw2:=hQ ((hb.block _ (Qab HXw1.out)).trans HXw1.out);have x0:w2.cell? ⟨w.heap.size,0,none⟩ = some (.int .i64 vk):=Qaa HXw2.out 0 _ rfl;have x1:w2.cell? ⟨w.heap.size,1,none⟩ = some (.string vx):=Qaa HXw2.out 1 _ rfl;have x2:w2.cell? ⟨w.heap.size,2,none⟩ = some (.slice vla vll vlc):=Qaa HXw2.out 2 _ rfl;have x3:w2.cell? ⟨w.heap.size,3,none⟩ = some (.slice vka vkl vkc):=Qaa HXw2.out 3 _ rfl;skip;clear hb) | (go_at_call 26;refine (HC.out _ HB2.out).mono ?_;rintro e w3 ⟨y,rfl,hy,hb⟩;have HY:=hQ hy;have HB3:=hQ (HB2.out.trans (hb.mono HB2.out.size));clear g0 g1 gbl grf x0 x1 x2 x3;have HRw3:=hQ ((hb.block _ (Qab HRw2.out)).trans HRw2.out);have g0:w3.cell? ⟨w.heap.size + 1,0,none⟩ = some (.int .i64 0):=Qaa HRw3.out 0 _ rfl;have g1:w3.cell? ⟨w.heap.size + 1,1,none⟩ = some (.int .i64 0):=Qaa HRw3.out 1 _ rfl;have gbl:=Qab HRw3.out;have grf:=Lib.frozen_of_heap HRw3.out;have ey:=hy.kl.2.2.1;have HEY:=hQ ey;rw [← ey] at n9;have gb2:=Nat.lt_of_succ_lt gbl;clear hy hb ey))
      refine bodyPost_ret (v:=.tuple #[.agg #[.int .i64 (Qa7 t:Nat),.int .i64 y.kind],.int .i64 0]) (by simp [results,Try.results13,go_sem, *]) rfl ?_
      rw [HV2.out,← HEY.out]
      exact ⟨rfl,set2_alloc HB3.out _ _ _⟩
end Go.Proofs.Ytclkilljmdkfaaa
