/- Part 45: The contract of references of package types. -/
import Derived.Test.YtclkilljmdkfaaaTy1
import Derived.Test.YtclkilljmdkfaaaTy44
import Derived.Test.YtclkilljmdkfaaaTy42
import Derived.StillTailTactics
set_option maxRecDepth 100000
set_option maxHeartbeats 4000000
namespace Go.Proofs.Ytclkilljmdkfaaa
open Go.RowKit Go.Shelf
theorem keeps_map {w w':World} {b n:Nat} {f:Pr → Option Pr} (h:AMap w b n f) (hg:w.grownBy w' (some b)):Keeps (fun k=>if k = b then some 0 else none) w w':=by
 refine ⟨hg.os,hg.tape,hg.output,hg.size,fun k hk hn=>hg.block k hk (fun e=>?_),fun k n' cur t hn hc=>?_⟩
 ·injection e with e
  subst e
  rw [if_pos rfl] at hn
  cases hn
 ·by_cases e:k = b
  ·subst e
   obtain ⟨D,⟨es,ck,q1,_⟩,_⟩:=h
   rw [q1] at hc
   injection hc with hc
   cases hc
  ·rw [if_neg e] at hn
   cases hn
theorem TgsAt.map {w w':World} {B b n:Nat} {f:Pr → Option Pr} {v:Value} {zs:List Tgm} (h:TgsAt w B v zs) (hm:AMap w b n f) (hb:b < B) (hg:w.grownBy w' (some b)):TgsAt w' B v zs:=by
 obtain ⟨ws,h1,h2⟩:=h
 have hk:=keeps_map hm hg
 refine ⟨ws,hk.row h1 fun g hg=>.inl (if_neg fun e=>?_),h2.step fun v p h=>hk.row h fun g hg=>.inl (if_neg fun e=>?_)⟩
 ·have:=(World.ownsRow.lt h1 g hg).1
  omega
 ·have:=(World.ownsRow.lt h g hg).1
  omega
def RfL (zs:List Tgm) (tv:Value) (w:World) (i:Value) (wr:World):Prop:=∃ j:Nat,i = .int .i64 (j:Int) ∧ j ≤ zs.length ∧ TgsAt wr (w.heap.size + 1) tv zs ∧ AMap wr w.heap.size j (refsF (zs.take j)) ∧ Below w.heap.size w wr
theorem grown_low {w w':World} {b:Nat} (h:w.grownBy w' (some b)) {B:Nat} (hB:B ≤ b) (hs:B ≤ w.heap.size):Below B w w':=⟨h.os,h.tape,h.output,h.size,fun k hk=>h.block k (by omega) (fun e=>by injection e with e;omega)⟩
theorem irow_first {w:World} {B:Nat} {v:Value} {x:Int} {p:List Int} (h:IRow w B v (x :: p)):∃ g c,v = .slice (some ⟨g,0,none⟩) (p.length + 1) c ∧ g < w.heap.size ∧ w.cell? ⟨g,0,none⟩ = some (.int .i64 x):=by
 obtain ⟨g,cap,e,hg,hlt⟩:=World.ownsRow.form h (by simp)
 subst e
 have hc:=World.ownsRow.cells h (g:=g) rfl 0 _ rfl
 rw [Addr.add_lit] at hc
 exact ⟨g,cap,rfl,hlt,hc⟩
theorem references_any (S:Nat → Prop) (A:Option Addr) (c:Nat) (ps:List Tr) (w:World) (hp:TrAt S w (Qa3 ps) ⟨0,⟨#[]⟩,none,0,0,A,ps.length,c⟩) (hf:fitT (Qa3 ps) = true) (hs:Qbj (Qa3 ps) = true) (hw:Qa9 (Qa3 ps) = true) (hz:Qah ps ≤ 90000)
  (hu:∀ z ∈ tgtsG ps,W64 z.1 ∧ ∃ x p,z.2.1 = x :: p ∧ W64 x) :
  Calls Try.prog 17 #[.slice A ps.length c] w fun e w'=>∃ b,e = .returned (.map (some b)) ∧ AMap w' b 90001 (refsF (tgtsG ps)) ∧ w.heap.size ≤ b ∧ Below w.heap.size w w':=by
 have HBM:=hQ (Qbk w (.map #[] 0))
 have HMM:=hQ (AMap.made w)
 have HC:=hQ (targets_lnk S A c ps (w.alloc (.map #[] 0)) (hp.keep HBM.out) hf hs hw hz)
 have HZL:=hQ (show (tgtsG ps).length ≤ 90000 from Nat.le_trans (tgtsG_len ps) hz)
 obtain ⟨zs,hzs⟩:∃ zs,zs = tgtsG ps:=⟨_,rfl⟩
 rw [← hzs] at HC HZL hu ⊢
 have HU:=hQ hu
 have hmm:=@run_makeMap Try.prog
 clear hp hf hs hw hz hzs hu
 go_enter Try.func17,Try.ntmps17
 go_wp2_with (go_at_call 32;refine HC.out.mono ?_;rintro e w1 ⟨v,rfl,ht,hb⟩;obtain ⟨TA,tc,rfl⟩:=ht.slice;have HT1:=hQ ht;have HB1:=hQ hb;clear ht hb)
 go_loopw [10] (fun i wr=>RfL zs (.slice TA zs.length tc) w i wr) (fun i _=>zs.length - (intOf i).toNat)
 case atStart =>
  refine ⟨0,rfl,Nat.zero_le _,?_,(HMM.out.below HB1.out).mono (xA _),HBM.out.trans (HB1.out.mono HBM.out.size)⟩
  have h:=HT1.out
  rw [xI] at h
  exact h
 case round =>
  obtain ⟨j,rfl,hj,ht,hm,hb⟩:=hrel
  have HT:=hQ ht
  have HM:=hQ hm
  have HB:=hQ hb
  clear ht hm hb
  by_cases hlt:j < zs.length
  ·obtain ⟨z,hz⟩:∃ z,zs[j]? = some z:=⟨_,xF hlt⟩
   obtain ⟨_,g,pv,hTA,_,gl,c0,c1,c2,c3,c4,hrow⟩:=HT.out.at hz
   subst hTA
   obtain ⟨u1,x,pp,u2,u3⟩:=HU.out z (List.mem_of_getElem? hz)
   obtain ⟨m,zp,a,b,f⟩:=z
   simp only at c0 c2 c3 c4 hrow u1 u2
   subst u2
   obtain ⟨pg,pc,hpv,pgl,p0⟩:=irow_first hrow
   subst hpv
   have HRW:=hQ hrow
   have hk0:(0:Int) ≤ (j:Int):=by omega
   have hk1:(j:Int) < (zs.length:Int):=by omega
   have hk2:(j:Int) + 1 ≤ 90001:=by have:=HZL.out;omega
   have HZ:=hQ hz
   have HBA:=hQ (Qbk wr (tgO m (.slice (some ⟨pg,0,none⟩) (pp.length + 1) pc) a b f))
   have HX:=xH wr (tgO m (.slice (some ⟨pg,0,none⟩) (pp.length + 1) pc) a b f)
   have W1:=hQ u1
   have W2:=hQ u3
   have hpl:(0:Int) < (pp.length:Int) + 1:=by omega
   have hpn:0 < pp.length + 1:=by omega
   clear hrow hz u1 u3
   by_cases hf:f = true
   ·subst hf
    have HS:=hQ (show refsF (zs.take (j + 1)) = refsF (zs.take j) from by rw [refsF_step HZ.out];rfl)
    clear HX hpl hpn
    go_wp2
    go_roundw
    case measure=>first | (simp [intOf];done) | (simp [intOf];omega)
    case rel=>exact ⟨j + 1,by go_num,by omega,HT.out.keep HBA.out,by rw [HS.out];exact (HM.out.below HBA.out).mono (Nat.le_succ _),HB.out.trans (HBA.out.mono HB.out.size)⟩
   ·have hf':f = false:=by simpa using hf
    subst hf'
    have HS:=hQ (show refsF (zs.take (j + 1)) = updF (refsF (zs.take j)) (m,x) (a,b) from by rw [refsF_step HZ.out];rfl)
    have x0:(wr.alloc (.cells #[.int .i64 m,.slice (some ⟨pg,0,none⟩) (pp.length + 1) pc,.int .i64 a,.int .i64 b,.bool false] 83)).cell? ⟨wr.heap.size,0,none⟩ = some (.int .i64 m):=Qaa HX 0 _ rfl
    have x1:(wr.alloc (.cells #[.int .i64 m,.slice (some ⟨pg,0,none⟩) (pp.length + 1) pc,.int .i64 a,.int .i64 b,.bool false] 83)).cell? ⟨wr.heap.size,1,none⟩ = some (.slice (some ⟨pg,0,none⟩) (pp.length + 1) pc):=Qaa HX 1 _ rfl
    have x2:(wr.alloc (.cells #[.int .i64 m,.slice (some ⟨pg,0,none⟩) (pp.length + 1) pc,.int .i64 a,.int .i64 b,.bool false] 83)).cell? ⟨wr.heap.size,2,none⟩ = some (.int .i64 a):=Qaa HX 2 _ rfl
    have x3:(wr.alloc (.cells #[.int .i64 m,.slice (some ⟨pg,0,none⟩) (pp.length + 1) pc,.int .i64 a,.int .i64 b,.bool false] 83)).cell? ⟨wr.heap.size,3,none⟩ = some (.int .i64 b):=Qaa HX 3 _ rfl
    have x4:(wr.alloc (.cells #[.int .i64 m,.slice (some ⟨pg,0,none⟩) (pp.length + 1) pc,.int .i64 a,.int .i64 b,.bool false] 83)).cell? ⟨wr.heap.size,4,none⟩ = some (.bool false):=Qaa HX 4 _ rfl
    clear HX
    have HROW:=HRW.out.keep HBA.out
    obtain ⟨pg2,pc2,hpv2,pgl2,q0⟩:=irow_first HROW
    have e2:pg2 = pg:=by injection hpv2 with e _ _;injection e with e;injection e with e _ _;exact e.symm
    subst e2
    have xl:wr.heap.size < (wr.alloc (.cells #[.int .i64 m,.slice (some ⟨pg2,0,none⟩) (pp.length + 1) pc,.int .i64 a,.int .i64 b,.bool false] 83)).heap.size:=by rw [xI];omega
    have HBX:=hQ (show Below wr.heap.size wr (wr.alloc (.cells #[.int .i64 m,.slice (some ⟨pg2,0,none⟩) (pp.length + 1) pc,.int .i64 a,.int .i64 b,.bool false] 83)) from HBA.out)
    clear HROW hpv2 p0 HBA
    go_wp2_with fail
    generalize (wr.alloc (.cells #[.int .i64 m,.slice (some ⟨pg2,0,none⟩) (pp.length + 1) pc,.int .i64 a,.int .i64 b,.bool false] 83)) = wx at x0 x1 x2 x3 x4 q0 pgl2 xl HBX ⊢
    go_still_tail 15,(by kernel_rfl)
    change wpList _ _ _ _ _ wx.drew
    have HBD:=hQ (show Below wr.heap.size wr wx.drew from HBX.out.drew)
    clear x0 x1 x2 x3 x4 c0 c1 c2 c3 c4 q0
    generalize wx.drew = wd at HBD ⊢
    have HMD:=hQ (HM.out.below HBD.out)
    have HN:=hQ (show j < maxLen from by have:=HZL.out;unfold maxLen;omega)
    refine wpList_amap_put rfl _ _ _ rfl w.heap.size j _ rfl HMD.out HN.out m x a b rfl rfl W1.out W2.out ?_
    intro w6 hm6 hg6
    have HM6:=hQ hm6
    have HG6:=hQ hg6
    clear hm6 hg6
    go_wp2
    go_roundw
    case measure=>first | (simp [intOf];done) | (simp [intOf];omega)
    case rel=>exact ⟨j + 1,by go_num,by omega,(HT.out.keep HBD.out).map HMD.out (Nat.lt_succ_self _) HG6.out,by rw [HS.out];exact HM6.out,HB.out.trans ((HBD.out.mono HB.out.size).trans (grown_low HG6.out (xA _) (Nat.le_trans HB.out.size HBD.out.size)))⟩
  ·obtain rfl:j = zs.length:=by omega
   have HS:=hQ (show refsF (zs.take zs.length) = refsF zs from by rw [List.take_length])
   go_wp2
   go_ret
   exact ⟨_,rfl,by rw [← HS.out];exact HM.out.mono (by have:=HZL.out;omega),xA _,HB.out⟩
end Go.Proofs.Ytclkilljmdkfaaa
