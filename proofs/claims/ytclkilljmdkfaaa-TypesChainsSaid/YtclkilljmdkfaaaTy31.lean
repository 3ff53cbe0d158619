/- Part 31: The contracts of program of package link and of Program of its reference. The contract of the reference's pieces at every tree of the right shape. Trees that a call made: small ones, in blocks of their own. The contracts of Lookup of package link and of its reference: they answer alike. The list of trees that Program makes, as the kids of a tree. -/
import Derived.Test.YtclkilljmdkfaaaTy27
import Derived.Test.YtclkilljmdkfaaaTy19
import Derived.Test.YtclkilljmdkfaaaTy29
import Derived.Test.YtclkilljmdkfaaaTy2
import Derived.Test.YtclkilljmdkfaaaTy24
import Derived.Test.YtclkilljmdkfaaaTy30
import Derived.Test.YtclkilljmdkfaaaTy25
import Derived.Test.YtclkilljmdkfaaaTy5
import Derived.Test.YtclkilljmdkfaaaTy4
import Derived.Test.YtclkilljmdkfaaaTy1
import Derived.StillTailTactics
import Derived.Deep.LoopGhost
import Derived.Deep.RegionHeld3
import Derived.Deep.AppendLies
import Derived.IntWalk
import Derived.OwnWalk
import Derived.Deep.DeepCutAuto
import Derived.Lib.AppendZerosOnto
import Derived.Lib.Walk
import Derived.Lib.SliceRun
set_option maxRecDepth 100000
set_option maxHeartbeats 4000000
namespace Go.Proofs.Ytclkilljmdkfaaa
open Go.RowKit
def Qbv (ps:List Tr):Bool:=ps.all fun t=>decide (t.kind = 1) && Qai t
def ProgTo (ps:List Tr) (k:Nat):Prop:=∀ (j:Nat) (t:Tr),j < k → ps[j]? = some t → t.kind = 1 ∧ Qai t = true
theorem prog_more {ps:List Tr} {k:Nat} {t:Tr} (h:ProgTo ps k) (ht:ps[k]? = some t) (hk:t.kind = 1) (hs:Qai t = true):ProgTo ps (k + 1):=fun j u hj hu=>by
 by_cases e:j = k
 ·subst e
  rw [ht] at hu
  injection hu with hu
  rw [← hu]
  exact ⟨hk,hs⟩
 ·exact h j u (by omega) hu
theorem prog_yes {ps:List Tr} (h:ProgTo ps ps.length):Qbv ps = true:=by
 unfold Qbv
 rw [List.all_eq_true]
 intro t ht
 obtain ⟨j,hj,he⟩:=List.getElem_of_mem ht
 have:=h j t hj (by rw [xF hj,he])
 simp [this.1,this.2]
theorem prog_not {ps:List Tr} {k:Nat} {t:Tr} (ht:ps[k]? = some t) (h:¬ (t.kind = 1 ∧ Qai t = true)):Qbv ps = false:=by
 cases e:Qbv ps with
 | false=>rfl
 | true =>
  unfold Qbv at e
  rw [List.all_eq_true] at e
  have:=e t (List.mem_of_getElem? ht)
  simp at this
  exact absurd this h
theorem program_lnk (S:Nat → Prop) (A:Option Addr) (c:Nat) (ps:List Tr) (w:World) (hp:TrAt S w (Qa3 ps) ⟨0,⟨#[]⟩,none,0,0,A,ps.length,c⟩) (hf:Qbj (Qa3 ps) = true) (hw:Qa9 (Qa3 ps) = true) :
  Calls Try.prog 40 #[.slice A ps.length c] w fun e w'=>e = .returned (.bool (Qbv ps)) ∧ Below w.heap.size w w':=by
 have HP:=hQ hp
 have HF:=hQ (Qcx hf).2.2
 have HWD:=hQ (Qbp hw).2.2
 have hl:ps.length ≤ 140737488355328:=(Qcx hf).2.1
 clear hp hf hw
 go_enter Try.func40,Try.ntmps40
 go_wp2
 go_loopw [7] (fun i wr=>∃ k:Nat,i = .int .i64 k ∧ k ≤ ps.length ∧ Hid (ProgTo ps k) ∧ Below w.heap.size w wr) (fun i _=>ps.length - (intOf i).toNat)
 case atStart=>exact ⟨0,rfl,Nat.zero_le _,hQ fun j t hj=>absurd hj (by omega),xC _ _⟩
 case round =>
  obtain ⟨k,rfl,hk,hn,hb⟩:=hrel
  have HN:=hn
  have HBR:=hQ hb
  clear hn hb
  by_cases hlt:k < ps.length
  ·obtain ⟨t,ht⟩:∃ t,ps[k]? = some t:=⟨_,xF hlt⟩
   obtain ⟨b,off,hka⟩:∃ b off,A = some ⟨b,off,none⟩:=HP.out.addr.resolve_left (by show ¬ ps.length = 0;omega)
   subst hka
   obtain ⟨u,c0,c1,c2,c3,hu⟩:=(HP.out.keep HBR.out).at rfl (show (Qa3 ps).kids[k]? = some t from ht)
   have HU:=hQ hu
   have HTX:=hQ hu.kl.2.2.1
   have HK:=hQ ht
   have cl:=xK wr _ c0
   have hk0:(0:Int) ≤ (k:Int):=by omega
   have hk1:(k:Int) < (ps.length:Int):=by omega
   have hk2:(k:Int) + 1 ≤ 1900000000000001:=by omega
   have HA:=hQ ((xC wr.heap.size wr).alloc (xA _) (trO u))
   have HC:=hQ (shaped_syn _ S t u (wr.alloc (trO u)) (xA _) (HU.out.keep HA.out) (HF.out k t HK.out) (HWD.out k t HK.out))
   clear hu ht
   obtain ⟨vk,vx,vla,vll,vlc,vka,vkl,vkc⟩:=u
   by_cases hx:vk = 1
   ·subst hx
    have HX:=hQ (show t.kind = 1 from HTX.out.symm)
    by_cases hs:Qai t = true
    ·have HS:=hQ hs
     rw [hs] at HC
     clear hs
     go_wp2_with (go_at_call 31;refine HC.out.mono ?_;rintro e w1 ⟨rfl,hb⟩;have HB1:=hQ (HA.out.trans (hb.mono HA.out.size));clear hb)
     go_roundw
     case measure=>first | (simp [intOf];done) | (simp [intOf];omega)
     case rel=>exact ⟨k + 1,by go_num,by omega,hQ (prog_more HN.out HK.out HX.out HS.out),HBR.out.trans (HB1.out.mono HBR.out.size)⟩
    ·have hs':Qai t = false:=by simpa using hs
     have HV:=hQ (prog_not HK.out (fun h=>hs h.2))
     rw [hs'] at HC
     clear hs hs'
     go_wp2_with (go_at_call 31;refine HC.out.mono ?_;rintro e w1 ⟨rfl,hb⟩;have HB1:=hQ (HA.out.trans (hb.mono HA.out.size));clear hb)
     refine bodyPost_ret (v:=.bool false) (by simp [results,Try.results40,go_sem, *]) rfl ?_
     rw [HV.out]
     exact ⟨rfl,HBR.out.trans (HB1.out.mono HBR.out.size)⟩
   ·have q1:=beqF hx
    have HV:=hQ (prog_not HK.out (fun h=>hx (HTX.out.trans h.1)))
    go_wp2
    refine bodyPost_ret (v:=.bool false) (by simp [results,Try.results40,go_sem, *]) rfl ?_
    rw [HV.out]
    exact ⟨rfl,HBR.out.trans (HA.out.mono HBR.out.size)⟩
  ·obtain rfl:k = ps.length:=by omega
   have HV:=hQ (prog_yes HN.out)
   go_wp2
   try rw [Exit.noGoto_ret]
   first | go_ret3 | go_ret
   rw [HV.out]
   exact ⟨rfl,HBR.out⟩
theorem shapedRL_all (k:Int) (n:Nat):∀ (ks:List Tr) (i:Nat),Qa0 k n i ks = true → ∀ a ∈ ks,Qa1 a = true
 | [],_,_,a,h=>by simp at h
 | b :: r,i,h,a,ha=>by
  rw [Qa0,Bool.and_eq_true,Bool.and_eq_true] at h
  rcases List.mem_cons.1 ha with rfl | ha
  ·exact h.1.2
  ·exact shapedRL_all k n r (i + 1) h.2 a ha
theorem shaped_kids {t:Tr} (hz:Qao t ≤ 1000) (h:Qai t = true):0 ≤ Qey t.kind t.kids.length ∧ ∀ a ∈ t.kids,Qai a = true:=by
 rw [← Qbq _ t (xA _) hz,Qb7,Bool.and_eq_true,Bool.and_eq_true] at h
 refine ⟨by have h1:=h.1.1;rw [Bool.not_eq_true'] at h1;have h2:=of_decide_eq_false h1;omega,fun a ha=>?_⟩
 have h1:=shapedRL_all _ _ _ _ h.2 a ha
 rw [← Qbq _ a (xA _) (by have h2:=mem_size ha;have h3:=Qbd t;omega)]
 exact h1
end Go.Proofs.Ytclkilljmdkfaaa
namespace Go.Proofs.Ytclkilljmdkfaaa
open Go.RowKit Go.Shelf
theorem Qen (S:Nat → Prop) (w:World) (k:Int) (x:ByteArray):TrAt S w (.mk k x [] []) ⟨k,x,none,0,0,none,0,0⟩:=by
 unfold TrAt
 exact ⟨rfl,rfl,rfl,rfl,fun h=>absurd rfl h,fun h=>absurd rfl h,xA _,xA _⟩
theorem res_facts {w:World} {b:Nat} {a:Int} {s:ByteArray} {p q:Value} (h:w.heap[b]? = some (.cells #[.int .i64 a,.string s,p,q] 27 (0,0))) :
  w.cell? ⟨b,0,none⟩ = some (.int .i64 a) ∧ w.cell? ⟨b,1,none⟩ = some (.string s) ∧ w.cell? ⟨b,2,none⟩ = some p ∧ w.cell? ⟨b,3,none⟩ = some q ∧ b < w.heap.size ∧ ∀ o,w.frozen? ⟨b,o,none⟩ = false :=
 ⟨Qaa h 0 _ rfl,Qaa h 1 _ rfl,Qaa h 2 _ rfl,Qaa h 3 _ rfl,Qab h,fun _=>Lib.frozen_of_heap h _⟩
end Go.Proofs.Ytclkilljmdkfaaa
namespace Go.Proofs.Ytclkilljmdkfaaa
open Go.RowKit
def Qdi (ps:List Tr) (m:Int) (s:ByteArray):Int × Int × Bool:=if Qbv ps = false ∨ m < 0 ∨ (ps.length:Int) ≤ m then (0,0,false) else Qaw ps m.toNat s
theorem lookup_any (S:Nat → Prop) (A:Option Addr) (c:Nat) (ps:List Tr) (M:Nat) (s:ByteArray) (w:World) (hp:TrAt S w (Qa3 ps) ⟨0,⟨#[]⟩,none,0,0,A,ps.length,c⟩) (hf:fitT (Qa3 ps) = true) (hs:s.size ≤ maxLen) (_hM:M < ps.length) :
  Calls Try.prog 41 #[.slice A ps.length c,.int .i64 M,.string s] w fun e w'=>e = .returned (.tuple #[.int .i64 (Qaw ps M s).1,.int .i64 (Qaw ps M s).2.1,.bool (Qaw ps M s).2.2]) ∧ Below w.heap.size w w':=by
 cases hd:(divP s).2.2 with
 | true=>exact lookup_dot S A c ps M M s w hp hf hs hd
 | false=>exact lookup_bare S A c ps M s w hp hf hs hd
theorem lookup_lnk (S:Nat → Prop) (A:Option Addr) (c:Nat) (ps:List Tr) (m:Int) (s:ByteArray) (w:World) (hp:TrAt S w (Qa3 ps) ⟨0,⟨#[]⟩,none,0,0,A,ps.length,c⟩) (hf:fitT (Qa3 ps) = true) (hsm:Qbj (Qa3 ps) = true) (hw:Qa9 (Qa3 ps) = true) (hs:s.size ≤ maxLen) :
  Calls Try.prog 27 #[.slice A ps.length c,.int .i64 m,.string s] w fun e w'=>e = .returned (.tuple #[.int .i64 (Qdi ps m s).1,.int .i64 (Qdi ps m s).2.1,.bool (Qdi ps m s).2.2]) ∧ Below w.heap.size w w':=by
 have HC:=hQ (fun w' (hb:Below w.heap.size w w')=>program_lnk S A c ps w' (hp.keep hb) hsm hw)
 have HM:=hQ (fun (M:Nat) (hM:M < ps.length) w' (hb:Below w.heap.size w w')=>lookup_any S A c ps M s w' (hp.keep hb) hf hs hM)
 have hl:ps.length ≤ 1900000000000:=(Qcj hf).2.1
 clear hp hf hsm hw hs
 cases hg:Qbv ps with
 | false =>
  have HV:=hQ (show Qdi ps m s = (0,0,false) from by unfold Qdi;rw [hg];simp)
  rw [hg] at HC
  clear hg HM
  go_enter Try.func27,Try.ntmps27
  go_wp2_with (go_at_call 40;refine (HC.out _ (by first | exact xC _ _ | exact below_drewN (xC _ _) _)).mono ?_;rintro e w1 ⟨rfl,hb⟩;have HB1:=hQ hb;clear hb)
  refine bodyPost_ret (v:=.tuple #[.int .i64 0,.int .i64 0,.bool false]) (by simp [results,Try.results27,go_sem, *]) rfl ?_
  rw [HV.out]
  exact ⟨rfl,HB1.out⟩
 | true =>
  rw [hg] at HC
  by_cases h0:m < 0
  ·have HV:=hQ (show Qdi ps m s = (0,0,false) from by unfold Qdi;rw [if_pos (.inr (.inl h0))])
   clear hg HM
   go_enter Try.func27,Try.ntmps27
   go_wp2_with (go_at_call 40;refine (HC.out _ (by first | exact xC _ _ | exact below_drewN (xC _ _) _)).mono ?_;rintro e w1 ⟨rfl,hb⟩;have HB1:=hQ hb;clear hb)
   refine bodyPost_ret (v:=.tuple #[.int .i64 0,.int .i64 0,.bool false]) (by simp [results,Try.results27,go_sem, *]) rfl ?_
   rw [HV.out]
   exact ⟨rfl,HB1.out⟩
  ·by_cases h1:(ps.length:Int) ≤ m
   ·have HV:=hQ (show Qdi ps m s = (0,0,false) from by unfold Qdi;rw [if_pos (.inr (.inr h1))])
    clear hg HM
    go_enter Try.func27,Try.ntmps27
    go_wp2_with (go_at_call 40;refine (HC.out _ (by first | exact xC _ _ | exact below_drewN (xC _ _) _)).mono ?_;rintro e w1 ⟨rfl,hb⟩;have HB1:=hQ hb;clear hb)
    refine bodyPost_ret (v:=.tuple #[.int .i64 0,.int .i64 0,.bool false]) (by simp [results,Try.results27,go_sem, *]) rfl ?_
    rw [HV.out]
    exact ⟨rfl,HB1.out⟩
   ·obtain ⟨M,rfl⟩:∃ M:Nat,m = (M:Int):=⟨m.toNat,by omega⟩
    have HV:=hQ (show Qdi ps M s = Qaw ps M s from by unfold Qdi;rw [if_neg (by rw [hg];simp;omega)];rfl)
    have HI:=hQ (HM.out M (by omega))
    have hnn:(0:Int) ≤ (M:Int):=by omega
    have hlt:(M:Int) < (ps.length:Int):=by omega
    rw [HV.out]
    obtain ⟨r0,hr0⟩:∃ r,r = Qaw ps M s:=⟨_,rfl⟩
    rw [← hr0] at HI ⊢
    clear hg HM hr0 HV
    go_enter Try.func27,Try.ntmps27
    go_wp2_with (first | (go_at_call 40;refine (HC.out _ (by first | exact xC _ _ | exact below_drewN (xC _ _) _)).mono ?_;rintro e w1 ⟨rfl,hb⟩;have HB1:=hQ hb;clear hb) | (go_at_call 41;refine (HI.out _ HB1.out).mono ?_;rintro e w2 ⟨rfl,hb⟩;have HB2:=hQ hb;clear hb))
    refine bodyPost_ret (v:=.tuple #[.int .i64 r0.1,.int .i64 r0.2.1,.bool r0.2.2]) (by simp [results,Try.results27,go_sem, *]) rfl ?_
    exact ⟨rfl,HB1.out.trans (HB2.out.mono HB1.out.size)⟩
theorem root_at {lo c:Nat} {A:Option Addr} {w:World} {ps:List Tr} {us:List TV} (hc:ps.length ≤ c) (hlen:us.length = ps.length)
  (hrow:ps ≠ [] → ∃ g cs,A = some ⟨g,0,none⟩ ∧ lo ≤ g ∧ w.heap[g]? = some (.cells cs 27 (0,0)) ∧ RowIs cs us)
  (hat:∀ (i:Nat) (k:Tr) (u:TV),ps[i]? = some k → us[i]? = some u → TrAt (fun b=>lo ≤ b ∧ b < w.heap.size) w k u) :
  TrAt (fun b=>lo ≤ b ∧ b < w.heap.size) w (Qa3 ps) ⟨0,⟨#[]⟩,none,0,0,A,ps.length,c⟩:=by
 refine TrAt.make rfl rfl rfl rfl (fun h=>absurd rfl h) (fun h0=>?_) ⟨xA _,hc⟩
 obtain ⟨g,cs,hA,hg,hh,hr⟩:=hrow h0
 refine ⟨g,0,hA,⟨hg,Qab hh⟩,TrsAt.of _ 0 fun i t ht=>?_⟩
 have hi:i < us.length:=by rw [hlen];exact (List.getElem?_eq_some_iff.1 ht).1
 obtain ⟨u,hu⟩:∃ u,us[i]? = some u:=⟨_,xF hi⟩
 obtain ⟨r0,r1,r2,r3⟩:=hr i u hu
 refine ⟨u,?_,?_,?_,?_,hat i t u ht hu⟩
 ·rw [show 0 + i * 4 = i * 4 from by omega];exact Qaa hh _ _ r0
 ·rw [show 0 + i * 4 + 1 = i * 4 + 1 from by omega];exact Qaa hh _ _ r1
 ·rw [show 0 + i * 4 + 2 = i * 4 + 2 from by omega];exact Qaa hh _ _ r2
 ·rw [show 0 + i * 4 + 3 = i * 4 + 3 from by omega];exact Qaa hh _ _ r3
end Go.Proofs.Ytclkilljmdkfaaa
