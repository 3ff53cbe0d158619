/- Part 51 -/
import Derived.Test.YtclkilljmdkfaaaGreatTf50
import Derived.Test.YtclkilljmdkfaaaGreatTf38
set_option maxRecDepth 100000
set_option maxHeartbeats 4000000
namespace Go.Proofs.YtclkilljmdkfaaaGreat
open Go.RowKit Go.Shelf
abbrev flO (n k:Int):Obj:=.cells #[.int .i64 n,.int .i64 k] 65
def lenV:Value→Nat
 | .slice _ n _=>n
 | _=>0
def FlL (ps:List Tr) (R:Int × Nat × Int) (w:World) (rb mb:Nat) (v9 v14 v15 v16:Value) (wr:World):Prop :=
 ∃ (f n ab mc:Nat) (MA:Option Addr) (met:List Pr) (r:Int × Int × Bool),v9 = .int .i64 (n:Int)∧v14 = .bool r.2.2∧v15 = .slice MA met.length mc∧v16 = .pointer (some ⟨ab,0,none⟩)∧wr.heap[ab]? = some (prO (r.1,r.2.1)) ∧
  QRow wr w.heap.size (.slice MA met.length mc) met∧(Value.slice MA met.length mc).ownBlock≠some ab∧(Value.slice MA met.length mc).ownBlock≠some rb∧AMap wr mb 90001 (Qfy ps)∧wr.heap[rb]? = some (flO 0 0) ∧
  Zjo ps r∧goL ps f r met n=some R∧f+met.length=Qam ps+1∧n≤1000*(met.length+2000)∧Below w.heap.size w wr
theorem Qe4 (w:World) (b:Nat) (x y:Int):Below b w ((w.setCell ⟨b,0,none⟩ (.int .i64 x)).setCell ⟨b,1,none⟩ (.int .i64 y)):=((xC b w).setCell (p:=⟨b,0,none⟩) (xA _) _).setCell (p:=⟨b,1,none⟩) (xA _) _
theorem Qyc {w w3:World} (h:Below w.heap.size w w3) (x y:Int) (o:Obj):Below w.heap.size w (((w3.setCell ⟨w.heap.size+1,0,none⟩ (.int .i64 x)).setCell ⟨w.heap.size+1,1,none⟩ (.int .i64 y)).alloc o):=by
 have h2:=h.trans ((Qe4 w3 (w.heap.size+1) x y).mono (Nat.le_succ _))
 exact h2.alloc h2.size _
theorem Qv0 {ps:List Tr} {M:Nat} {t:Tr} (hg:Qc1 ps=true) (h0:¬ (M:Int)<0) (h1:¬ (ps.length:Int)≤(M:Int)) (t1:5≤t.kind∧t.kind≤9) (t2:Qal t=true):Qcm ps M t=Zbz ps M t:=by
 unfold Qcm
 rw [xN,Int.toNat_natCast]
 rintro (h | h | h | h | h)
 ·rw [hg] at h;cases h
 ·exact h0 h
 ·exact h1 h
 ·exact h t1
 ·rw [t2] at h;cases h
theorem Qjl {n:Nat} (h:n≤1000000):W64 (n:Int):=WalkArith.wf_i64 (by omega)
theorem Zc5 {ps:List Tr} (hz:∀ t∈ps,Qah t≤1000) (hg:Qc1 ps=true) (hq:Qc1 (Qh5 ps)=true) (hl:Qam ps≤90000):∀ z∈Qjb (Qh5 ps),W64 z.1∧∃ x p,z.2.1=x :: p∧W64 x:=fun z h=>by
 obtain ⟨m,d,t,k,ht,hk,h1,h2⟩:=(Qvs hz hg hq z).1 h
 have hm:m<ps.length:=(xP.1 ht).1
 have hd:d<t.kids.length:=(xP.1 hk).1
 have e1:=Qa0 ps
 have e2:=Qa0 t.kids
 have e3:=hz t (yA ht)
 have e4:=Qa3 t
 refine ⟨by rw [h1];exact Qjl (by omega),?_⟩
 unfold Zjl at h2
 split at h2
 ·rw [List.mem_singleton] at h2
  exact ⟨(d:Int),[0],by rw [h2];rfl,Qjl (by omega)⟩
 ·simp at h2
theorem Zgn {ps:List Tr} {M:Nat} {s:ByteArray} (hg:Qc1 (Qh5 ps)=true) (hm:(M:Int)<(ps.length:Int)):Qfp (Qh5 ps) M s=Qby ps M s:=by
 unfold Qfp
 have hl:(Qh5 ps).length=ps.length:=by unfold Qh5;rw [List.length_map]
 rw [xN (by rw [hg,hl];simp;omega),Int.toNat_natCast,Qr8]
theorem Zc6 (w:World) (a b:Int):∀ (q:Nat) (x:Value),[(.int .i64 a:Value),.int .i64 b][q]? = some x→(w.alloc (prO (a,b))).cell? ((⟨w.heap.size,0,none⟩:Addr).add q)=some x:=xM (xH w (prO (a,b)))
theorem Zc7 (a b:Int):∀ u∈[(.int .i64 a:Value),.int .i64 b],u.oneCell'=true:=by intro v hv;simp at hv;rcases hv with rfl | rfl <;> rfl
theorem Qyd {w:World} {B b n:Nat} {f:Pr→Option Pr} {v:Value} {l:List Pr} (hq:QRow w B v l) (hm:AMap w b n f):v.ownBlock≠some b:=fun e=>by
 rcases hq.2 with ⟨h0,_⟩|⟨g,cap,cur,hv,_,hh,_⟩
 ·rw [h0] at e;cases e
 ·rw [hv] at e
  have e2:g=b:=by simpa [Value.ownBlock] using e
  subst e2
  obtain ⟨D,⟨es,ck,q1,_⟩,_⟩:=hm
  rw [q1] at hh
  injection hh with hh
  cases hh
theorem Qi7 {w7 w8:World} {l:Value} {n k:Nat} {x o:Obj} (hk:Keeps (pre l n) (w7.alloc o) w8) (hl:l.ownBlock≠some k) (h:w7.heap[k]? = some x):w8.heap[k]? = some x:=by
 have hlt:=Qaa h
 exact (hk.block k (by rw [xI];omega) (Qc2 hl)).trans (((Qc3 w7 o).block k hlt).trans h)
theorem Qo4 {w w7 w8:World} {l:Value} {n:Nat} {o:Obj} (hb:Below w.heap.size w w7) (hk:Keeps (pre l n) (w7.alloc o) w8) (hl:∀ k,l.ownBlock=some k→w.heap.size≤k):Below w.heap.size w w8 :=
 (hb.alloc hb.size o).trans (hk.below (xQ hb.size (Qc3 w7 o).size) fun k hk=>Qc2 fun e=>by have:=hl k e;omega)
theorem Qqj {w7 w8:World} {B b m n:Nat} {f:Pr→Option Pr} {l:Value} {ps:List Pr} {o:Obj} (hq:QRow (w7.alloc o) B l ps) (hm:AMap w7 b m f) (hk:Keeps (pre l n) (w7.alloc o) w8):AMap w8 b m f:=by
 have h2:=hm.below (Qc3 w7 o)
 exact h2.keep (hk.block b h2.lt (Qc2 (Qyd hq h2)))
def Zjs (ta:Tr) (B0:Nat) (w8:World) (s17 s18:Value) (wx:World):Prop:=∃ (g:Nat) (y:TV),s17 = .pointer (some ⟨g,0,none⟩)∧s18 = .int .i64 (Qcb ta:Nat)∧wx.heap[g]? = some (trO y)∧TrAt (fun b=>b<B0) wx (Qb2 ta) y∧w8.heap.size≤g∧Below w8.heap.size w8 wx
theorem Zc8 {ta:Tr} {B0:Nat} {w8 w3:World} {y:TV} (hz:w3.heap[w8.heap.size]? = some (trO ⟨0,⟨#[]⟩,none,0,0,none,0,0⟩)) (hy:TrAt (fun b=>b<B0) w3 (Qb2 ta) y) (hb:Below w8.heap.size w8 w3) (hB:B0≤w8.heap.size) :
  Zjs ta B0 w8 (.pointer (some ⟨w8.heap.size,0,none⟩)) (.int .i64 (Qcb ta:Nat)) (Qfk w3 w8.heap.size y) :=
 ⟨w8.heap.size,y,rfl,rfl,Qii y hz,TrAt.move (fun _ h=>h) (fun b hb' _=>Qbm y (by omega)) _ _ hy,xA _,hb.trans (Qd4 w3 w8.heap.size y)⟩
theorem Qye {ta:Tr} {B0:Nat} {w8 w3:World} {y:TV} (hy:TrAt (fun b=>b<B0) w3 (Qb2 ta) y) (hb:Below w8.heap.size w8 w3) :
  Zjs ta B0 w8 (.pointer (some ⟨w3.heap.size,0,none⟩)) (.int .i64 (Qcb ta:Nat)) (w3.alloc (trO y)) :=
 ⟨w3.heap.size,y,rfl,rfl,xH _ _,hy.keep (Qc3 _ _),hb.size,hb.alloc hb.size _⟩
theorem Zgo {t:Tr} (h:Qnd t=false) {p q r:Prop}:p∨q∨r∨¬ (5≤t.kind∧t.kind≤9)∨Qal t=false:=by
 unfold Qnd at h
 cases hs:Qal t with
 | false=>exact .inr (.inr (.inr (.inr rfl)))
 | true =>
  rw [hs,Bool.and_true] at h
  refine .inr (.inr (.inr (.inl fun h1=>?_)))
  rw [xS h1.1,xS h1.2] at h
  cases h
theorem Zc9 {t:Tr} (h:Qnd t=true):(5≤t.kind∧t.kind≤9)∧Qal t=true:=by
 unfold Qnd at h
 simp only [Bool.and_eq_true,decide_eq_true_eq] at h
 exact h
theorem Zk3 {a b:Int} (h:a≠b):(a != b)=true:=by simpa using h
theorem Qjx (S S':Nat→Prop) (A:Option Addr) (c:Nat) (ps:List Tr) (m:Int) (t:Tr) (v:TV) (w:World) (hp:TrAt S w (Qbp ps) ⟨0,⟨#[]⟩,none,0,0,A,ps.length,c⟩) (hf:Qhs (Qbp ps)=true) (hw:Qbh (Qbp ps)=true)
  (hz:∀ t∈ps,Qah t≤1000) (hl:Qam ps≤90000) (ht:TrAt S' w t v) (hts:Qbg t=true) (htw:Qbh t=true) (htz:Qah t≤2000000) (hss:Qaz t=Qal t) :
  Calls Tryz.prog 47 #[.slice A ps.length c,.int .i64 m,.agg #[.int .i64 v.kind,.string v.text,.slice v.la v.ll v.lc,.slice v.ka v.kl v.kc]] w fun e w'=>e = .returned (.tuple #[.agg #[.int .i64 ((Qcm ps m t).2.1:Nat),.int .i64 (Qcm ps m t).2.2],.int .i64 (Qcm ps m t).1])∧Below w.heap.size w w':=by
 have hsm:=Qfz _ hf
 have HPL:=hQ (TrAt.low _ _ hp)
 have HTL:=hQ (TrAt.low _ _ ht)
 have HF:=hQ hf
 have HW:=hQ hw
 have HZ:=hQ hz
 have HL:=hQ hl
 obtain ⟨W2,hW2⟩:∃ W,W=(w.alloc (trO v)).alloc (flO 0 0):=⟨_,rfl⟩
 have hb0:=Qfx w (trO v) (flO 0 0)
 obtain ⟨bx0,bx1⟩:=Qet w (trO v) (flO 0 0)
 rw [←hW2] at hb0 bx0 bx1
 have hsz2:W2.heap.size=w.heap.size+2:=by rw [hW2,xI,xI]
 have HB0:=hQ hb0
 have BX0:=hQ bx0
 have BX1:=hQ bx1
 have HSZ2:=hQ hsz2
 have HCP:=hQ (Qnc S A c ps W2 (hp.keep hb0) hsm hw)
 have HCT:=hQ (fun w' (hb:Below w.heap.size w w')=>Qx0 S' t v w' (ht.keep hb) hts htw)
 have HTZ:=hQ htz
 have HSS:=hQ hss
 have HTW:=hQ htw
 clear hp hf hw hz hsm hb0 bx0 bx1 hsz2 ht hts htw htz hl hss
 subst hW2
 obtain ⟨vk,vx,vla,vll,vlc,vka,vkl,vkc⟩:=v
 cases hg:Qc1 ps with
 | false =>
  have HV:=hQ (show Qcm ps m t=(5,0,0) from by unfold Qcm;rw [xO (.inl hg)])
  rw [hg] at HCP
  clear hg HCT
  go_enter Tryz.func47,Tryz.ntmps47
  go_wp2_with (first | (go_at_call 52;refine HCP.out.mono ?_;rintro e w1 ⟨rfl,hb⟩;have HB1:=hQ (HB0.out.trans (hb.mono HB0.out.size));have HRw1:=hQ ((hb.block (w.heap.size+1) (by rw [HSZ2.out];omega)).trans BX1.out);have g0:w1.cell? ⟨w.heap.size+1,0,none⟩=some (.int .i64 0):=Qab HRw1.out 0 _ rfl;have g1:w1.cell? ⟨w.heap.size+1,1,none⟩=some (.int .i64 0):=Qab HRw1.out 1 _ rfl;have gbl:=Qaa HRw1.out;have grf:=xL HRw1.out;have HXw1:=hQ ((hb.block w.heap.size (by rw [HSZ2.out];omega)).trans BX0.out);have x0:w1.cell? ⟨w.heap.size,0,none⟩=some (.int .i64 vk):=Qab HXw1.out 0 _ rfl;have x1:w1.cell? ⟨w.heap.size,1,none⟩=some (.string vx):=Qab HXw1.out 1 _ rfl;have x2:w1.cell? ⟨w.heap.size,2,none⟩=some (.slice vla vll vlc):=Qab HXw1.out 2 _ rfl;have x3:w1.cell? ⟨w.heap.size,3,none⟩=some (.slice vka vkl vkc):=Qab HXw1.out 3 _ rfl;have xbl:=Qaa HXw1.out;clear hb) | fail)
  refine bodyPost_ret (v:=.tuple #[.agg #[.int .i64 0,.int .i64 0],.int .i64 5]) (by simp [results,Tryz.results47,go_sem, *]) rfl ?_
  rw [HV.out]
  exact ⟨rfl,(HB1.out.trans ((Qe4 w1 (w.heap.size+1) 0 0).mono (Nat.le_succ _)))⟩
 | true =>
  rw [hg] at HCP
  have HG:=hQ hg
  by_cases h0:m<0
  ·have HV:=hQ (show Qcm ps m t=(5,0,0) from by unfold Qcm;rw [xO (.inr (.inl h0))])
   clear hg HCT
   go_enter Tryz.func47,Tryz.ntmps47
   go_wp2_with (first | (go_at_call 52;refine HCP.out.mono ?_;rintro e w1 ⟨rfl,hb⟩;have HB1:=hQ (HB0.out.trans (hb.mono HB0.out.size));have HRw1:=hQ ((hb.block (w.heap.size+1) (by rw [HSZ2.out];omega)).trans BX1.out);have g0:w1.cell? ⟨w.heap.size+1,0,none⟩=some (.int .i64 0):=Qab HRw1.out 0 _ rfl;have g1:w1.cell? ⟨w.heap.size+1,1,none⟩=some (.int .i64 0):=Qab HRw1.out 1 _ rfl;have gbl:=Qaa HRw1.out;have grf:=xL HRw1.out;have HXw1:=hQ ((hb.block w.heap.size (by rw [HSZ2.out];omega)).trans BX0.out);have x0:w1.cell? ⟨w.heap.size,0,none⟩=some (.int .i64 vk):=Qab HXw1.out 0 _ rfl;have x1:w1.cell? ⟨w.heap.size,1,none⟩=some (.string vx):=Qab HXw1.out 1 _ rfl;have x2:w1.cell? ⟨w.heap.size,2,none⟩=some (.slice vla vll vlc):=Qab HXw1.out 2 _ rfl;have x3:w1.cell? ⟨w.heap.size,3,none⟩=some (.slice vka vkl vkc):=Qab HXw1.out 3 _ rfl;have xbl:=Qaa HXw1.out;clear hb) | fail)
   refine bodyPost_ret (v:=.tuple #[.agg #[.int .i64 0,.int .i64 0],.int .i64 5]) (by simp [results,Tryz.results47,go_sem, *]) rfl ?_
   rw [HV.out]
   exact ⟨rfl,(HB1.out.trans ((Qe4 w1 (w.heap.size+1) 0 0).mono (Nat.le_succ _)))⟩
  ·by_cases h1:(ps.length:Int)≤m
   ·have HV:=hQ (show Qcm ps m t=(5,0,0) from by unfold Qcm;rw [xO (.inr (.inr (.inl h1)))])
    clear hg HCT
    go_enter Tryz.func47,Tryz.ntmps47
    go_wp2_with (first | (go_at_call 52;refine HCP.out.mono ?_;rintro e w1 ⟨rfl,hb⟩;have HB1:=hQ (HB0.out.trans (hb.mono HB0.out.size));have HRw1:=hQ ((hb.block (w.heap.size+1) (by rw [HSZ2.out];omega)).trans BX1.out);have g0:w1.cell? ⟨w.heap.size+1,0,none⟩=some (.int .i64 0):=Qab HRw1.out 0 _ rfl;have g1:w1.cell? ⟨w.heap.size+1,1,none⟩=some (.int .i64 0):=Qab HRw1.out 1 _ rfl;have gbl:=Qaa HRw1.out;have grf:=xL HRw1.out;have HXw1:=hQ ((hb.block w.heap.size (by rw [HSZ2.out];omega)).trans BX0.out);have x0:w1.cell? ⟨w.heap.size,0,none⟩=some (.int .i64 vk):=Qab HXw1.out 0 _ rfl;have x1:w1.cell? ⟨w.heap.size,1,none⟩=some (.string vx):=Qab HXw1.out 1 _ rfl;have x2:w1.cell? ⟨w.heap.size,2,none⟩=some (.slice vla vll vlc):=Qab HXw1.out 2 _ rfl;have x3:w1.cell? ⟨w.heap.size,3,none⟩=some (.slice vka vkl vkc):=Qab HXw1.out 3 _ rfl;have xbl:=Qaa HXw1.out;clear hb) | fail)
    refine bodyPost_ret (v:=.tuple #[.agg #[.int .i64 0,.int .i64 0],.int .i64 5]) (by simp [results,Tryz.results47,go_sem, *]) rfl ?_
    rw [HV.out]
    exact ⟨rfl,(HB1.out.trans ((Qe4 w1 (w.heap.size+1) 0 0).mono (Nat.le_succ _)))⟩
   ·obtain ⟨M,rfl⟩:∃ M:Nat,m=(M:Int):=⟨m.toNat,by omega⟩
    have hnn:(0:Int)≤(M:Int):=by omega
    have hlt:(M:Int)<(ps.length:Int):=by omega
    cases hty:Qnd t with
    | false =>
     have HV:=hQ (show Qcm ps M t=(5,0,0) from by unfold Qcm;rw [xO];exact Zgo hty)
     rw [hty] at HCT
     clear hg hty
     go_enter Tryz.func47,Tryz.ntmps47
     go_wp2_with (first | (go_at_call 52;refine HCP.out.mono ?_;rintro e w1 ⟨rfl,hb⟩;have HB1:=hQ (HB0.out.trans (hb.mono HB0.out.size));have HRw1:=hQ ((hb.block (w.heap.size+1) (by rw [HSZ2.out];omega)).trans BX1.out);have g0:w1.cell? ⟨w.heap.size+1,0,none⟩=some (.int .i64 0):=Qab HRw1.out 0 _ rfl;have g1:w1.cell? ⟨w.heap.size+1,1,none⟩=some (.int .i64 0):=Qab HRw1.out 1 _ rfl;have gbl:=Qaa HRw1.out;have grf:=xL HRw1.out;have HXw1:=hQ ((hb.block w.heap.size (by rw [HSZ2.out];omega)).trans BX0.out);have x0:w1.cell? ⟨w.heap.size,0,none⟩=some (.int .i64 vk):=Qab HXw1.out 0 _ rfl;have x1:w1.cell? ⟨w.heap.size,1,none⟩=some (.string vx):=Qab HXw1.out 1 _ rfl;have x2:w1.cell? ⟨w.heap.size,2,none⟩=some (.slice vla vll vlc):=Qab HXw1.out 2 _ rfl;have x3:w1.cell? ⟨w.heap.size,3,none⟩=some (.slice vka vkl vkc):=Qab HXw1.out 3 _ rfl;have xbl:=Qaa HXw1.out;clear hb) | (go_at_call 83;refine (HCT.out _ HB1.out).mono ?_;rintro e w2 ⟨rfl,hb⟩;have HB2:=hQ (HB1.out.trans (hb.mono HB1.out.size));clear g0 g1 gbl grf x0 x1 x2 x3;have HRw2:=hQ ((hb.block _ (Qaa HRw1.out)).trans HRw1.out);have g0:w2.cell? ⟨w.heap.size+1,0,none⟩=some (.int .i64 0):=Qab HRw2.out 0 _ rfl;have g1:w2.cell? ⟨w.heap.size+1,1,none⟩=some (.int .i64 0):=Qab HRw2.out 1 _ rfl;have gbl:=Qaa HRw2.out;have grf:=xL HRw2.out;have HXw2:=hQ ((hb.block _ (Qaa HXw1.out)).trans HXw1.out);have x0:w2.cell? ⟨w.heap.size,0,none⟩=some (.int .i64 vk):=Qab HXw2.out 0 _ rfl;have x1:w2.cell? ⟨w.heap.size,1,none⟩=some (.string vx):=Qab HXw2.out 1 _ rfl;have x2:w2.cell? ⟨w.heap.size,2,none⟩=some (.slice vla vll vlc):=Qab HXw2.out 2 _ rfl;have x3:w2.cell? ⟨w.heap.size,3,none⟩=some (.slice vka vkl vkc):=Qab HXw2.out 3 _ rfl;skip;clear hb))
     refine bodyPost_ret (v:=.tuple #[.agg #[.int .i64 0,.int .i64 0],.int .i64 5]) (by simp [results,Tryz.results47,go_sem, *]) rfl ?_
     rw [HV.out]
     exact ⟨rfl,(HB2.out.trans ((Qe4 w2 (w.heap.size+1) 0 0).mono (Nat.le_succ _)))⟩
    | true =>
     obtain ⟨t1,t2⟩:=Zc9 hty
     have HV:=hQ (Qv0 hg h0 h1 t1 t2)
     rw [hty] at HCT
     have t3:Qaz t=true:=by rw [HSS.out];exact t2
     obtain ⟨u1,u2,u3,u4⟩:=Qhl _ t (xA _) t3 t1
     have HC:=hQ (fun w' (hb:Below w.heap.size w w')=>Qvd _ (fun b=>b<w.heap.size) t ⟨vk,vx,vla,vll,vlc,vka,vkl,vkc⟩ w' (xA _) (fun b h=>xE h hb.size) (HTL.out.keep hb) t3 t1 HTZ.out)
     have hlz:(Qcb t:Int)≤2000000:=by have:=Qge t;have:=HTZ.out;omega
     have hl0:(0:Int)≤(Qcb t:Int):=by omega
     by_cases h9:(Qb2 t).kind=9
     ·have HGO:=hQ (Qt7 (ps:=ps) (m:=M) h9)
      have HRO:=hQ (Qi5 (i:=M) HZ.out hg u4 h9 (by rw [Qa3,u2,Qam];omega))
      have HWT:=hQ (show (Qb2 t).text.size≤maxLen from Nat.le_of_lt (Qb3 (Qoz (fun t=>Qbh t=true) Qkt _ t (xA _) t3 t1 HTW.out)).1)
      have HLT:=hQ hlt
      have n9:((Qb2 t).kind != 9)=false:=by rw [h9];rfl
      obtain ⟨r,hr⟩:∃ r,r=Qby ps M (Qb2 t).text:=⟨_,rfl⟩
      rw [←hr] at HGO HRO
      have HRR:=hQ hr
      obtain ⟨R,hR⟩:∃ R,R=Zbz ps M t:=⟨_,rfl⟩
      rw [←hR] at HGO HV
      rw [HV.out]
      clear hg hty t1 t2 t3 u1 u2 u3 u4 h0 h1 h9 hr hR HV
      go_enter Tryz.func47,Tryz.ntmps47
      go_wp2_with (first | (go_at_call 52;refine HCP.out.mono ?_;rintro e w1 ⟨rfl,hb⟩;have HB1:=hQ (HB0.out.trans (hb.mono HB0.out.size));have HRw1:=hQ ((hb.block (w.heap.size+1) (by rw [HSZ2.out];omega)).trans BX1.out);have g0:w1.cell? ⟨w.heap.size+1,0,none⟩=some (.int .i64 0):=Qab HRw1.out 0 _ rfl;have g1:w1.cell? ⟨w.heap.size+1,1,none⟩=some (.int .i64 0):=Qab HRw1.out 1 _ rfl;have gbl:=Qaa HRw1.out;have grf:=xL HRw1.out;have HXw1:=hQ ((hb.block w.heap.size (by rw [HSZ2.out];omega)).trans BX0.out);have x0:w1.cell? ⟨w.heap.size,0,none⟩=some (.int .i64 vk):=Qab HXw1.out 0 _ rfl;have x1:w1.cell? ⟨w.heap.size,1,none⟩=some (.string vx):=Qab HXw1.out 1 _ rfl;have x2:w1.cell? ⟨w.heap.size,2,none⟩=some (.slice vla vll vlc):=Qab HXw1.out 2 _ rfl;have x3:w1.cell? ⟨w.heap.size,3,none⟩=some (.slice vka vkl vkc):=Qab HXw1.out 3 _ rfl;have xbl:=Qaa HXw1.out;clear hb) | (go_at_call 83;refine (HCT.out _ HB1.out).mono ?_;rintro e w2 ⟨rfl,hb⟩;have HB2:=hQ (HB1.out.trans (hb.mono HB1.out.size));clear g0 g1 gbl grf x0 x1 x2 x3;have HRw2:=hQ ((hb.block _ (Qaa HRw1.out)).trans HRw1.out);have g0:w2.cell? ⟨w.heap.size+1,0,none⟩=some (.int .i64 0):=Qab HRw2.out 0 _ rfl;have g1:w2.cell? ⟨w.heap.size+1,1,none⟩=some (.int .i64 0):=Qab HRw2.out 1 _ rfl;have gbl:=Qaa HRw2.out;have grf:=xL HRw2.out;have HXw2:=hQ ((hb.block _ (Qaa HXw1.out)).trans HXw1.out);have x0:w2.cell? ⟨w.heap.size,0,none⟩=some (.int .i64 vk):=Qab HXw2.out 0 _ rfl;have x1:w2.cell? ⟨w.heap.size,1,none⟩=some (.string vx):=Qab HXw2.out 1 _ rfl;have x2:w2.cell? ⟨w.heap.size,2,none⟩=some (.slice vla vll vlc):=Qab HXw2.out 2 _ rfl;have x3:w2.cell? ⟨w.heap.size,3,none⟩=some (.slice vka vkl vkc):=Qab HXw2.out 3 _ rfl;skip;clear hb) | (go_at_call 84;refine (HC.out _ HB2.out).mono ?_;rintro e w3 ⟨y,rfl,hy,hb⟩;have HY:=hQ hy;have HB3:=hQ (HB2.out.trans (hb.mono HB2.out.size));clear g0 g1 gbl grf x0 x1 x2 x3;have HRw3:=hQ ((hb.block _ (Qaa HRw2.out)).trans HRw2.out);have g0:w3.cell? ⟨w.heap.size+1,0,none⟩=some (.int .i64 0):=Qab HRw3.out 0 _ rfl;have g1:w3.cell? ⟨w.heap.size+1,1,none⟩=some (.int .i64 0):=Qab HRw3.out 1 _ rfl;have gbl:=Qaa HRw3.out;have grf:=xL HRw3.out;have ey:=hy.kl.2.2.1;have HEY:=hQ ey;rw [←ey] at n9;have et:=hy.kl.2.2.2;have HET:=hQ et;have gb2:=Nat.lt_of_succ_lt gbl;have HB3A:=hQ (HB3.out.alloc HB3.out.size (trO y));have HX3:=hQ (xH w3 (trO y));have HR3:=hQ (((Qc3 w3 (trO y)).block _ gbl).trans HRw3.out);clear hy hb ey et) | (go_at_call 54;refine (Qo2 _ A c ps _ (HPL.out.keep HB3A.out) HG.out HZ.out HL.out HF.out HW.out).mono ?_;rintro e w4 ⟨QA,qc,rfl,hq,hb⟩;have HQ:=hQ hq;have HB4:=hQ (HB3A.out.trans (hb.mono HB3A.out.size));clear g0 g1 gbl grf;have HRw4:=hQ ((hb.block _ (Qaa HR3.out)).trans HR3.out);have g0:w4.cell? ⟨w.heap.size+1,0,none⟩=some (.int .i64 0):=Qab HRw4.out 0 _ rfl;have g1:w4.cell? ⟨w.heap.size+1,1,none⟩=some (.int .i64 0):=Qab HRw4.out 1 _ rfl;have gbl:=Qaa HRw4.out;have grf:=xL HRw4.out;have HX4:=hQ ((hb.block _ (Qaa HX3.out)).trans HX3.out);clear hq hb) | (go_at_call 53;refine (Qjk _ QA qc (Qh5 ps) _ HQ.out.at' HQ.out.fit HQ.out.small HQ.out.words HQ.out.size (Zc5 HZ.out HG.out HQ.out.prog HL.out)).mono ?_;rintro e w5 ⟨mb,rfl,hm,hmb,hb⟩;rw [Qvt HZ.out HG.out HQ.out.prog] at hm;have HM5:=hQ hm;have HMB:=hQ hmb;have HQ5:=hQ (HQ.out.at'.keep hb);have HB5:=hQ (HB4.out.trans (hb.mono HB4.out.size));clear g0 g1 gbl grf;have HRw5:=hQ ((hb.block _ (Qaa HRw4.out)).trans HRw4.out);have g0:w5.cell? ⟨w.heap.size+1,0,none⟩=some (.int .i64 0):=Qab HRw5.out 0 _ rfl;have g1:w5.cell? ⟨w.heap.size+1,1,none⟩=some (.int .i64 0):=Qab HRw5.out 1 _ rfl;have gbl:=Qaa HRw5.out;have grf:=xL HRw5.out;have HX5:=hQ ((hb.block _ (Qaa HX4.out)).trans HX4.out);have y1:w5.cell? ⟨w3.heap.size,1,none⟩=some (.string y.text):=Qab HX5.out 1 _ rfl;have ybl:=Qaa HX5.out;clear hm hmb hb) | (go_at_call 85;refine (Qx4 _ QA qc (Qh5 ps) M y.text _ HQ5.out HQ.out.fit HQ.out.small HQ.out.words (by rw [HET.out];exact HWT.out)).mono ?_;rintro e w6 ⟨rfl,hb⟩;rw [Zgn HQ.out.prog HLT.out,HET.out,←HRR.out];have HM6:=hQ (HM5.out.below hb);have HB6:=hQ (HB5.out.trans (hb.mono HB5.out.size));have HR6:=hQ ((hb.block _ (Qaa HRw5.out)).trans HRw5.out);clear g0 g1 gbl grf y1 ybl hb))
      go_loopw [9,14,15,16] (fun v9 v14 v15 v16 wr=>FlL ps R w (w.heap.size+1) mb v9 v14 v15 v16 wr) (fun _ _ v15 _ _=>Qam ps+1-lenV v15)
      case atStart =>
       refine ⟨Qam ps+1,Qcb t,w6.heap.size,0,none,[],r,rfl,rfl,rfl,rfl,xH w6 _,QRow.nil _ _,fun e=>(by cases e),fun e=>(by cases e),HM6.out.below (Qc3 w6 _),((Qc3 w6 _).block _ (Qaa HR6.out)).trans HR6.out,HRO.out,HGO.out,rfl,?_,HB6.out.alloc HB6.out.size _⟩
       simp only [xG]
       omega
      case round =>
       obtain ⟨f,n,ab,mc,MA,met,r2,rfl,rfl,rfl,rfl,hab,hq,hoa,hob,hm,hrb,hro,hgo,hfm,hn,hb⟩:=hrel
       have HAB:=hQ hab
       have HQR:=hQ hq
       have HOA:=hQ hoa
       have HOB:=hQ hob
       have HMR:=hQ hm
       have HRB:=hQ hrb
       have HGR:=hQ hgo
       have HFM:=hQ hfm
       have HN:=hQ hn
       have HBR:=hQ hb
       have a0:wr.cell? ⟨ab,0,none⟩=some (.int .i64 r2.1):=Qab hab 0 _ rfl
       have a1:wr.cell? ⟨ab,1,none⟩=some (.int .i64 r2.2.1):=Qab hab 1 _ rfl
       have abl:=Qaa hab
       have g0:wr.cell? ⟨w.heap.size+1,0,none⟩=some (.int .i64 0):=Qab hrb 0 _ rfl
       have g1:wr.cell? ⟨w.heap.size+1,1,none⟩=some (.int .i64 0):=Qab hrb 1 _ rfl
       have gbl:=Qaa hrb
       have grf:=xL hrb
       clear hab hq hoa hob hm hrb hgo hfm hn hb hlz hl0
       rcases hro with ⟨_,rfl⟩|⟨M2,D2,t2,k2,rfl,ht2,hk2,hk3⟩
       ·have HV:=hQ (Zhg HGR.out rfl)
        go_wp2
        refine bodyPost_ret (v:=.tuple #[.agg #[.int .i64 0,.int .i64 0],.int .i64 7]) (by simp [results,Tryz.results47,go_sem, *]) rfl ?_
        rw [HV.out]
        exact ⟨rfl,HBR.out.trans ((Qe4 wr (w.heap.size+1) 0 0).mono (Nat.le_succ _))⟩
       ·have hmet:met.length≤90001:=by have:=HFM.out;have:=HL.out;omega
        by_cases hmem:((M2:Int),(D2:Int))∈met
        ·have HV:=hQ (Zcs HGR.out rfl hmem)
         have HCN:=hQ (show Calls Tryz.prog 55 #[.slice MA met.length mc,.agg #[.int .i64 M2,.int .i64 D2]] wr fun e w'=>e = .returned (.bool true)∧Below wr.heap.size wr w' from by have h:=Qfo w.heap.size mc MA met M2 D2 wr HQR.out (by omega);rw [xS hmem] at h;exact h)
         clear ht2 hk2 hk3 hmem
         go_wp2_with (go_at_call 55;refine HCN.out.mono ?_;rintro e w7 ⟨rfl,hb⟩;have HB7:=hQ (HBR.out.trans (hb.mono HBR.out.size));clear g0 g1 gbl grf;have HRw7:=hQ ((hb.block _ (Qaa HRB.out)).trans HRB.out);have g0:w7.cell? ⟨w.heap.size+1,0,none⟩=some (.int .i64 0):=Qab HRw7.out 0 _ rfl;have g1:w7.cell? ⟨w.heap.size+1,1,none⟩=some (.int .i64 0):=Qab HRw7.out 1 _ rfl;have gbl:=Qaa HRw7.out;have grf:=xL HRw7.out;clear hb)
         refine bodyPost_ret (v:=.tuple #[.agg #[.int .i64 0,.int .i64 0],.int .i64 19]) (by simp [results,Tryz.results47,go_sem, *]) rfl ?_
         rw [HV.out]
         exact ⟨rfl,HB7.out.trans ((Qe4 w7 (w.heap.size+1) 0 0).mono (Nat.le_succ _))⟩
        ·have HCN:=hQ (show Calls Tryz.prog 55 #[.slice MA met.length mc,.agg #[.int .i64 M2,.int .i64 D2]] wr fun e w'=>e = .returned (.bool false)∧Below wr.heap.size wr w' from by have h:=Qfo w.heap.size mc MA met M2 D2 wr HQR.out (by omega);rw [xR hmem] at h;exact h)
         obtain ⟨ta,hka,hty2,hlf,hta1,hta2,hta3⟩:=Zct HZ.out HG.out ht2 hk2 hk3
         have HMEM:=hQ hmem
         have HT2:=hQ ht2
         have HK2:=hQ hk2
         have HK3:=hQ hk3
         have HKA:=hQ hka
         have HTY:=hQ hty2
         have HLF:=hQ hlf
         have HTA:=hQ (show Qaz ta=true∧(5≤ta.kind∧ta.kind≤9)∧Qah ta≤1000 from ⟨hta1,hta2,hta3⟩)
         have HM1:=hQ (show met.length+1≤maxLen from by unfold maxLen;omega)
         have HM2:=hQ (show (met.length+1)*16≤140737488355328 from by omega)
         obtain ⟨pz,hpz,pz0,pz1,pz2⟩:=info_parts Zb4
         clear ht2 hk2 hk3 hmem hka hty2 hlf hta1 hta2 hta3
         go_upto_region 16 with (first
          | (go_at_call 55;refine HCN.out.mono ?_;rintro e w7 ⟨rfl,hb⟩;have HB7:=hQ (HBR.out.trans (hb.mono HBR.out.size));clear g0 g1 gbl grf a0 a1 abl;have HRw7:=hQ ((hb.block _ (Qaa HRB.out)).trans HRB.out);have g0:w7.cell? ⟨w.heap.size+1,0,none⟩=some (.int .i64 0):=Qab HRw7.out 0 _ rfl;have g1:w7.cell? ⟨w.heap.size+1,1,none⟩=some (.int .i64 0):=Qab HRw7.out 1 _ rfl;have gbl:=Qaa HRw7.out;have grf:=xL HRw7.out;have HA7:=hQ ((hb.block _ (Qaa HAB.out)).trans HAB.out);have HQ7:=hQ ((HQR.out.keep hb).keep (Qc3 w7 (prO ((M2:Int),(D2:Int)))));have HM7:=hQ (HMR.out.below hb);have a0:w7.cell? ⟨ab,0,none⟩=some (.int .i64 M2):=Qab HA7.out 0 _ rfl;have a1:w7.cell? ⟨ab,1,none⟩=some (.int .i64 D2):=Qab HA7.out 1 _ rfl;have abl:=Qaa HA7.out;have HS7:=hQ (show w.heap.size≤(w7.alloc (prO ((M2:Int),(D2:Int)))).heap.size from by rw [xI];exact Nat.le_succ_of_le HB7.out.size);clear hb)
          | (at_builtin;refine Qfn _ rfl _ _ 75 rfl w.heap.size 71 pz _ 2 16 Tryz.underlying75 hpz pz0 pz1 pz2 rfl (by decide) _ met.length (Qf7 met) rfl HQ7.out ⟨w7.heap.size,0,none⟩ 1 1 [.int .i64 M2,.int .i64 D2] rfl rfl (Zc6 w7 M2 D2) (Zc7 M2 D2) (by decide) HM1.out HM2.out HS7.out ?_;intro g8 c8 w8 hown hk8 hg8 hlt8;have HO8:=hQ hown;have HK8:=hQ hk8;have HG8:=hQ hg8;clear hown hk8 hg8 hlt8 a0 a1 abl g0 g1 gbl grf))
         have HB8:=hQ (Qo4 HB7.out HK8.out fun k hk=>(World.ownsRow.lt HQ7.out k hk).1)
         have HA8:=hQ (Qi7 HK8.out HOA.out HA7.out)
         have HR8:=hQ (Qi7 HK8.out HOB.out HRw7.out)
         have HM8:=hQ (Qqj HQ7.out HM7.out HK8.out)
         have a0:w8.cell? ⟨ab,0,none⟩=some (.int .i64 M2):=Qab HA8.out 0 _ rfl
         have a1:w8.cell? ⟨ab,1,none⟩=some (.int .i64 D2):=Qab HA8.out 1 _ rfl
         have abl:=Qaa HA8.out
         have hM2:=(xP.1 HT2.out).1
         have hD2:=(xP.1 HK2.out).1
         obtain ⟨pb,po,hpa⟩:∃ b off,A=some ⟨b,off,none⟩:=HPL.out.addr.resolve_left (by show ¬ ps.length=0;omega)
         subst hpa
         obtain ⟨p1,_,_,_,d3,hd⟩:=(HPL.out.keep HB8.out).at rfl (show (Qbp ps).kids[M2]? = some t2 from HT2.out)
         obtain ⟨qb,qo,hqa⟩:∃ b off,p1.ka=some ⟨b,off,none⟩:=hd.addr.resolve_left (by omega)
         obtain ⟨p2,_,_,_,e3,he⟩:=hd.at hqa HK2.out
         obtain ⟨sb,so,hsa⟩:∃ b off,p2.ka=some ⟨b,off,none⟩:=he.addr.resolve_left (by rw [HKA.out];simp)
         obtain ⟨p3,f0,f1,f2,f3,hx⟩:=he.at hsa (show k2.kids[0]? = some ta from by rw [HKA.out];rfl)
         have el1:=hd.kl.1
         have el2:=he.kl.1
         rw [HKA.out] at el2
         rw [hqa,el1] at d3
         rw [hsa,el2] at e3
         simp only [Nat.zero_mul,Nat.add_zero,List.length_singleton] at f0 f1 f2 f3 e3
         have HX:=hQ hx
         have i0:(0:Int)≤(M2:Int):=by omega
         have i1:(M2:Int)<(ps.length:Int):=by omega
         have i2:(0:Int)≤(D2:Int):=by omega
         have i3:(D2:Int)<(t2.kids.length:Int):=by omega
         have dl:=xK w8 _ d3
         have el:=xK w8 _ e3
         have fl:=xK w8 _ f0
         clear hx he hd hqa hsa el1 el2
         have HC8:=hQ (fun w' (hb:Below w8.heap.size w8 w')=>Qve _ (fun b=>b<w.heap.size) ta p3 w' (xA _) (fun b h=>xE h (xQ HB8.out.size hb.size)) (HX.out.keep hb) HTA.out.1 HTA.out.2.1 HTA.out.2.2)
         have mixedL:Tryz.prog.follows Departure.mixedOrders=true:=Zkh
         have n0:=World.new_ne w8 _ a0
         have n1:=World.new_ne w8 _ d3
         have n2:=World.new_ne w8 _ e3
         have n3:=World.new_ne w8 _ f0
         go_cut [17,18] (fun s17 s18 wx=>Zjs ta w.heap.size w8 s17 s18 wx)
         case first =>
          go_region_held3 (fun w'=>w'.cell? ⟨ab,0,none⟩=some (.int .i64 M2)∧w'.cell? ⟨ab,1,none⟩=some (.int .i64 D2)∧w'.cell? ⟨pb,po+M2*4+3,none⟩=some (.slice (some ⟨qb,qo,none⟩) t2.kids.length p1.kc)∧w'.cell? ⟨qb,qo+D2*4+3,none⟩=some (.slice (some ⟨sb,so,none⟩) 1 p2.kc)∧w'.cell? ⟨sb,so,none⟩=some (.int .i64 p3.kind)∧w'.cell? ⟨sb,so+1,none⟩=some (.string p3.text)∧w'.cell? ⟨sb,so+2,none⟩=some (.slice p3.la p3.ll p3.lc)∧w'.cell? ⟨sb,so+3,none⟩=some (.slice p3.ka p3.kl p3.kc)) (first | with_reducible exact ⟨a0,a1,d3,e3,f0,f1,f2,f3⟩ | go_keep) (first
           | (go_at_call 84;refine (HC8.out w8.drew (xC _ _).drew).mono ?_;rintro e w3 ⟨y,rfl,hy,hb3⟩;have HY:=hQ hy;have HB3:=hQ (show Below w8.heap.size w8 w3 from (show Below w8.heap.size w8 w8.drew from (xC _ _).drew).trans hb3);have h0:=Qcu HB3.out abl a0;have h1:=Qcu HB3.out abl a1;have h2:=Qcu HB3.out dl d3;have h3:=Qcu HB3.out el e3;have h4:=Qcu HB3.out fl f0;have h5:=Qcu HB3.out fl f1;have h6:=Qcu HB3.out fl f2;have h7:=Qcu HB3.out fl f3;have q0:=xE abl HB3.out.size;have q1:=xE dl HB3.out.size;have q2:=xE el HB3.out.size;have q3:=xE fl HB3.out.size;clear a0 a1 d3 e3 f0 f1 f2 f3 abl dl el fl;have a0:=h0;have a1:=h1;have d3:=h2;have e3:=h3;have f0:=h4;have f1:=h5;have f2:=h6;have f3:=h7;have abl:=q0;have dl:=q1;have el:=q2;have fl:=q3;clear h0 h1 h2 h3 h4 h5 h6 h7 q0 q1 q2 q3;clear hb3 hy)
           | (go_at_call 84;refine (HC8.out ((w8.alloc (.cells #[.int .i64 0,.string ⟨#[]⟩,.slice none 0 0,.slice none 0 0] 25)).drew) ((xC _ _).alloc (xA _) _).drew).mono ?_;rintro e w3 ⟨y,rfl,hy,hb3⟩;have HY:=hQ hy;have HB3:=hQ (show Below w8.heap.size w8 w3 from (((xC w8.heap.size w8).alloc (xA _) (.cells #[.int .i64 0,.string ⟨#[]⟩,.slice none 0 0,.slice none 0 0] 25)).drew).trans (hb3.mono (by show _≤(w8.alloc _).heap.size;rw [xI];omega)));have hzb:=(show w3.heap[w8.heap.size]? = some (.cells #[.int .i64 0,.string ⟨#[]⟩,.slice none 0 0,.slice none 0 0] 25 (0,0)) from (hb3.block _ (by show _<(w8.alloc _).heap.size;rw [xI];omega)).trans (xH w8 _));have HZB:=hQ hzb;have zf:∀ o,w3.frozen? ⟨w8.heap.size,o,none⟩=false:=(fun o=>xL hzb _);have zl:=Qaa hzb;have z0:w3.cell? ⟨w8.heap.size,0,none⟩=some (.int .i64 0):=Qab hzb 0 _ rfl;have z1:w3.cell? ⟨w8.heap.size,1,none⟩=some (.string ⟨#[]⟩):=Qab hzb 1 _ rfl;have z2:w3.cell? ⟨w8.heap.size,2,none⟩=some (.slice none 0 0):=Qab hzb 2 _ rfl;have z3:w3.cell? ⟨w8.heap.size,3,none⟩=some (.slice none 0 0):=Qab hzb 3 _ rfl;have h0:=Qcu HB3.out abl a0;have h1:=Qcu HB3.out abl a1;have h2:=Qcu HB3.out dl d3;have h3:=Qcu HB3.out el e3;have h4:=Qcu HB3.out fl f0;have h5:=Qcu HB3.out fl f1;have h6:=Qcu HB3.out fl f2;have h7:=Qcu HB3.out fl f3;have q0:=xE abl HB3.out.size;have q1:=xE dl HB3.out.size;have q2:=xE el HB3.out.size;have q3:=xE fl HB3.out.size;clear a0 a1 d3 e3 f0 f1 f2 f3 abl dl el fl;have a0:=h0;have a1:=h1;have d3:=h2;have e3:=h3;have f0:=h4;have f1:=h5;have f2:=h6;have f3:=h7;have abl:=q0;have dl:=q1;have el:=q2;have fl:=q3;clear h0 h1 h2 h3 h4 h5 h6 h7 q0 q1 q2 q3;clear hb3 hy hzb)
           | fail)
          all_goals
           go_wp2_with fail
           go_meet
           first
            | (have hh:=HZB.out;clear hh;exact Zc8 HZB.out HY.out HB3.out HB8.out.size)
            | exact Qye HY.out HB3.out
         case rest =>
          obtain ⟨w9,hww⟩:∃ w',w'=wc:=⟨_,rfl⟩
          subst hww
          obtain ⟨g9,y9,rfl,rfl,hyb,hyt,hgl,hbc⟩:=hcut
          have HB9:=hQ (HB8.out.trans (hbc.mono HB8.out.size))
          have HA9:=hQ ((hbc.block _ (Qaa HA8.out)).trans HA8.out)
          have HR9:=hQ ((hbc.block _ (Qaa HR8.out)).trans HR8.out)
          have HM9:=hQ (HM8.out.below hbc)
          have HO9:=hQ (Qho HO8.out hbc)
          have HGL:=hQ hgl
          have HBC:=hQ hbc
          have ek:=hyt.kl.2.2.1
          have y0:w9.cell? ⟨g9,0,none⟩=some (.int .i64 (Qb2 ta).kind):=by rw [←ek];exact Qab hyb 0 _ rfl
          have ybl:=Qaa hyb
          have g0:w9.cell? ⟨w.heap.size+1,0,none⟩=some (.int .i64 0):=Qab HR9.out 0 _ rfl
          have g1:w9.cell? ⟨w.heap.size+1,1,none⟩=some (.int .i64 0):=Qab HR9.out 1 _ rfl
          have gbl:=Qaa HR9.out
          have gb2:=Nat.lt_of_succ_lt gbl
          have grf:=xL HR9.out
          have HLZ:=hQ (show Qcb ta≤1000 from xQ (Qge ta) HTA.out.2.2)
          have hs1:(n:Int)+(Qcb ta:Int)≤100000000:=by have:=HLZ.out;have:=HN.out;omega
          have hs0:(0:Int)≤(n:Int)+(Qcb ta:Int):=by omega
          clear hyb hyt hgl hbc ek hM2 hD2 n0 n1 n2 n3 mixedL a0 a1 abl d3 e3 f0 f1 f2 f3 dl el fl
          by_cases h9:(Qb2 ta).kind=9
          ·obtain ⟨f',hf',hgo'⟩:=Qvx HGR.out HMEM.out (by rw [HLF.out];exact h9)
           rw [HTY.out,HLF.out] at hgo'
           have HGN:=hQ hgo'
           have HFN:=hQ hf'
           have HRN:=hQ (Qi5 (i:=M2) HZ.out HG.out (Qhl _ ta (xA _) HTA.out.1 HTA.out.2.1).2.2.2 h9 (xQ (Zcr _ ta (xA _) HTA.out.1 HTA.out.2.1) HTA.out.2.2))
           have hsl:=Zcg (ps:=ps) (m:=M2) (d:=D2) (by rw [Qqh HT2.out HK2.out];exact HK3.out) (by rw [HLF.out];exact h9)
           rw [HLF.out] at hsl
           obtain ⟨rn,hrn⟩:∃ rn,rn=Qby ps M2 (Qb2 ta).text:=⟨_,rfl⟩
           rw [←hrn] at hsl HGN HRN
           have HSL:=hQ hsl
           have n9:((Qb2 ta).kind != 9)=false:=by rw [h9];rfl
           have a0:w9.cell? ⟨ab,0,none⟩=some (.int .i64 M2):=Qab HA9.out 0 _ rfl
           have a1:w9.cell? ⟨ab,1,none⟩=some (.int .i64 D2):=Qab HA9.out 1 _ rfl
           have abl:=Qaa HA9.out
           have WM:=hQ (Qjl (show M2≤1000000 from by have h1:=(xP.1 HT2.out).1;have h2:=Qa0 ps;have h3:=HL.out;omega))
           have WD:=hQ (Qjl (show D2≤1000000 from by have h1:=(xP.1 HK2.out).1;have h2:=Qa0 t2.kids;have h3:=HZ.out t2 (yA HT2.out);have h4:=Qa3 t2;omega))
           have HMX:=hQ (HM9.out.below (Qc3 w9 (prO ((M2:Int),(D2:Int)))))
           clear hgo' hf' hrn hsl h9
           go_wp2_with (at_lookup;refine Qf8 rfl _ _ rfl mb 90001 (Qfy ps) rfl HMX.out M2 D2 rfl WM.out WD.out ?_)
           go_roundw
           case measure =>
            show Qam ps+1-(met.length+1)<Qam ps+1-met.length
            have h1:=HFM.out
            have h2:=HFN.out
            omega
           case rel =>
            have hg8:(Value.slice MA met.length mc).ownBlock=some g8∨(w7.alloc (prO ((M2:Int),(D2:Int)))).heap.size≤g8:=HG8.out
            have hl8:=World.ownsRow.lt HO9.out g8 rfl
            have h1:=HFM.out
            have h2:=HFN.out
            have h3:=HLZ.out
            have h4:=HN.out
            refine ⟨f',n+Qcb ta,w9.heap.size,c8,some ⟨g8,0,none⟩,met ++ [((M2:Int),(D2:Int))],rn,by rw [Int.natCast_add],by rw [←HSL.out],by rw [xB];rfl,rfl,?_,?_,?_,?_,HM9.out.below (Qc3 w9 _),((Qc3 w9 _).block _ (Qaa HR9.out)).trans HR9.out,HRN.out,HGN.out,by rw [xB,List.length_singleton];omega,by rw [xB,List.length_singleton];omega,HB9.out.alloc HB9.out.size _⟩
            ·rw [←HSL.out]
             exact xH w9 _
            ·have h:=Qho HO9.out (Qc3 w9 (.cells #[.int .i64 (Qlb (Qfy ps) ((M2:Int),(D2:Int))).1,.int .i64 (Qlb (Qfy ps) ((M2:Int),(D2:Int))).2] 71))
             unfold QRow
             rw [xB,Qjj]
             exact h
            ·intro e
             have e2:g8=w9.heap.size:=by simpa [Value.ownBlock] using e
             omega
            ·intro e
             have e2:g8=w.heap.size+1:=by simpa [Value.ownBlock] using e
             rcases hg8 with h | h
             ·exact HOB.out (h.trans (by rw [e2]))
             ·have h5:=Qaa HRw7.out
              rw [xI] at h
              omega
          ·have HV:=hQ (Qvw HGR.out HMEM.out (by rw [HLF.out];exact h9))
           have n9:=Zk3 h9
           clear h9
           go_wp2
           refine bodyPost_ret (v:=.tuple #[.agg #[.int .i64 ((n:Int)+(Qcb ta:Int)),.int .i64 (Qb2 ta).kind],.int .i64 0]) (by simp [results,Tryz.results47,go_sem, *]) rfl ?_
           rw [HV.out,HTY.out,HLF.out]
           exact ⟨rfl,HB9.out.trans ((Qe4 w9 (w.heap.size+1) _ _).mono (Nat.le_succ _))⟩
     ·have HV2:=hQ (show Qcm ps M t=(0,Qcb t,(Qb2 t).kind) from HV.out.trans (by unfold Zbz;rw [xN h9]))
      have n9:=Zk3 h9
      clear hg hty t1 t2 t3 u1 u2 u3 u4 h0 h1
      go_enter Tryz.func47,Tryz.ntmps47
      go_wp2_with (first | (go_at_call 52;refine HCP.out.mono ?_;rintro e w1 ⟨rfl,hb⟩;have HB1:=hQ (HB0.out.trans (hb.mono HB0.out.size));have HRw1:=hQ ((hb.block (w.heap.size+1) (by rw [HSZ2.out];omega)).trans BX1.out);have g0:w1.cell? ⟨w.heap.size+1,0,none⟩=some (.int .i64 0):=Qab HRw1.out 0 _ rfl;have g1:w1.cell? ⟨w.heap.size+1,1,none⟩=some (.int .i64 0):=Qab HRw1.out 1 _ rfl;have gbl:=Qaa HRw1.out;have grf:=xL HRw1.out;have HXw1:=hQ ((hb.block w.heap.size (by rw [HSZ2.out];omega)).trans BX0.out);have x0:w1.cell? ⟨w.heap.size,0,none⟩=some (.int .i64 vk):=Qab HXw1.out 0 _ rfl;have x1:w1.cell? ⟨w.heap.size,1,none⟩=some (.string vx):=Qab HXw1.out 1 _ rfl;have x2:w1.cell? ⟨w.heap.size,2,none⟩=some (.slice vla vll vlc):=Qab HXw1.out 2 _ rfl;have x3:w1.cell? ⟨w.heap.size,3,none⟩=some (.slice vka vkl vkc):=Qab HXw1.out 3 _ rfl;have xbl:=Qaa HXw1.out;clear hb) | (go_at_call 83;refine (HCT.out _ HB1.out).mono ?_;rintro e w2 ⟨rfl,hb⟩;have HB2:=hQ (HB1.out.trans (hb.mono HB1.out.size));clear g0 g1 gbl grf x0 x1 x2 x3;have HRw2:=hQ ((hb.block _ (Qaa HRw1.out)).trans HRw1.out);have g0:w2.cell? ⟨w.heap.size+1,0,none⟩=some (.int .i64 0):=Qab HRw2.out 0 _ rfl;have g1:w2.cell? ⟨w.heap.size+1,1,none⟩=some (.int .i64 0):=Qab HRw2.out 1 _ rfl;have gbl:=Qaa HRw2.out;have grf:=xL HRw2.out;have HXw2:=hQ ((hb.block _ (Qaa HXw1.out)).trans HXw1.out);have x0:w2.cell? ⟨w.heap.size,0,none⟩=some (.int .i64 vk):=Qab HXw2.out 0 _ rfl;have x1:w2.cell? ⟨w.heap.size,1,none⟩=some (.string vx):=Qab HXw2.out 1 _ rfl;have x2:w2.cell? ⟨w.heap.size,2,none⟩=some (.slice vla vll vlc):=Qab HXw2.out 2 _ rfl;have x3:w2.cell? ⟨w.heap.size,3,none⟩=some (.slice vka vkl vkc):=Qab HXw2.out 3 _ rfl;skip;clear hb) | (go_at_call 84;refine (HC.out _ HB2.out).mono ?_;rintro e w3 ⟨y,rfl,hy,hb⟩;have HY:=hQ hy;have HB3:=hQ (HB2.out.trans (hb.mono HB2.out.size));clear g0 g1 gbl grf x0 x1 x2 x3;have HRw3:=hQ ((hb.block _ (Qaa HRw2.out)).trans HRw2.out);have g0:w3.cell? ⟨w.heap.size+1,0,none⟩=some (.int .i64 0):=Qab HRw3.out 0 _ rfl;have g1:w3.cell? ⟨w.heap.size+1,1,none⟩=some (.int .i64 0):=Qab HRw3.out 1 _ rfl;have gbl:=Qaa HRw3.out;have grf:=xL HRw3.out;have ey:=hy.kl.2.2.1;have HEY:=hQ ey;rw [←ey] at n9;have gb2:=Nat.lt_of_succ_lt gbl;clear hy hb ey))
      refine bodyPost_ret (v:=.tuple #[.agg #[.int .i64 (Qcb t:Nat),.int .i64 y.kind],.int .i64 0]) (by simp [results,Tryz.results47,go_sem, *]) rfl ?_
      rw [HV2.out,←HEY.out]
      exact ⟨rfl,Qyc HB3.out _ _ _⟩
end Go.Proofs.YtclkilljmdkfaaaGreat
