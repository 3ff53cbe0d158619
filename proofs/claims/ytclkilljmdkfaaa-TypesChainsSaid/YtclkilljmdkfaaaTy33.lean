/- Part 33: The contracts of program, typing and core of package types. -/
import Derived.Test.YtclkilljmdkfaaaTy1
import Derived.Test.YtclkilljmdkfaaaTy32
import Derived.Test.YtclkilljmdkfaaaTy31
set_option maxRecDepth 100000
set_option maxHeartbeats 4000000
namespace Go.Proofs.Ytclkilljmdkfaaa
open Go.RowKit
theorem program_typ (S:Nat → Prop) (A:Option Addr) (c:Nat) (ps:List Tr) (w:World) (hp:TrAt S w (Qa3 ps) ⟨0,⟨#[]⟩,none,0,0,A,ps.length,c⟩) (hf:Qbj (Qa3 ps) = true) (hw:Qa9 (Qa3 ps) = true) :
  Calls Try.prog 16 #[.slice A ps.length c] w fun e w'=>e = .returned (.bool (Qbv ps)) ∧ Below w.heap.size w w':=by
 have HP:=hQ hp
 have HF:=hQ (Qcx hf).2.2
 have HWD:=hQ (Qbp hw).2.2
 have hl:ps.length ≤ 140737488355328:=(Qcx hf).2.1
 clear hp hf hw
 go_enter Try.func16,Try.ntmps16
 go_wp2
 go_loopw [7] (fun i wr=>∃ k:Nat,i = .int .i64 k ∧ k ≤ ps.length ∧ Hid (ProgTo ps k) ∧ Below w.heap.size w wr) (fun i _=>ps.length - (intOf i).toNat)
 case atStart=>exact ⟨0,rfl,Nat.zero_le _,hQ fun j t hj=>absurd hj (by omega),xC _ _⟩
 case round =>
  obtain ⟨k,rfl,hk,hn,hb⟩:=hrel
  have HN:=hn
  have HBR:=hQ hb
  clear hn hb
  by_cases hlt:k < ps.length
  ·obtain ⟨t,ht⟩:∃ t,ps[k]? = some t:=⟨_,xF hlt⟩
   obtain ⟨b,off,hka⟩:∃ b off,A = some ⟨b,off,none⟩:=HP.out.addr.resolve_left (by show ¬ ps.length = 0;omega)
   subst hka
   obtain ⟨u,c0,c1,c2,c3,hu⟩:=(HP.out.keep HBR.out).at rfl (show (Qa3 ps).kids[k]? = some t from ht)
   have HU:=hQ hu
   have HTX:=hQ hu.kl.2.2.1
   have HK:=hQ ht
   have cl:=xK wr _ c0
   have hk0:(0:Int) ≤ (k:Int):=by omega
   have hk1:(k:Int) < (ps.length:Int):=by omega
   have hk2:(k:Int) + 1 ≤ 1900000000000001:=by omega
   have HA:=hQ ((xC wr.heap.size wr).alloc (xA _) (trO u))
   have HC:=hQ (shaped_syn _ S t u (wr.alloc (trO u)) (xA _) (HU.out.keep HA.out) (HF.out k t HK.out) (HWD.out k t HK.out))
   clear hu ht
   obtain ⟨vk,vx,vla,vll,vlc,vka,vkl,vkc⟩:=u
   by_cases hx:vk = 1
   ·subst hx
    have HX:=hQ (show t.kind = 1 from HTX.out.symm)
    by_cases hs:Qai t = true
    ·have HS:=hQ hs
     rw [hs] at HC
     clear hs
     go_wp2_with (go_at_call 31;refine HC.out.mono ?_;rintro e w1 ⟨rfl,hb⟩;have HB1:=hQ (HA.out.trans (hb.mono HA.out.size));clear hb)
     go_roundw
     case measure=>first | (simp [intOf];done) | (simp [intOf];omega)
     case rel=>exact ⟨k + 1,by go_num,by omega,hQ (prog_more HN.out HK.out HX.out HS.out),HBR.out.trans (HB1.out.mono HBR.out.size)⟩
    ·have hs':Qai t = false:=by simpa using hs
     have HV:=hQ (prog_not HK.out (fun h=>hs h.2))
     rw [hs'] at HC
     clear hs hs'
     go_wp2_with (go_at_call 31;refine HC.out.mono ?_;rintro e w1 ⟨rfl,hb⟩;have HB1:=hQ (HA.out.trans (hb.mono HA.out.size));clear hb)
     refine bodyPost_ret (v:=.bool false) (by simp [results,Try.results16,go_sem, *]) rfl ?_
     rw [HV.out]
     exact ⟨rfl,HBR.out.trans (HB1.out.mono HBR.out.size)⟩
   ·have q1:=beqF hx
    have HV:=hQ (prog_not HK.out (fun h=>hx (HTX.out.trans h.1)))
    go_wp2
    refine bodyPost_ret (v:=.bool false) (by simp [results,Try.results16,go_sem, *]) rfl ?_
    rw [HV.out]
    exact ⟨rfl,HBR.out.trans (HA.out.mono HBR.out.size)⟩
  ·obtain rfl:k = ps.length:=by omega
   have HV:=hQ (prog_yes HN.out)
   go_wp2
   try rw [Exit.noGoto_ret]
   first | go_ret3 | go_ret
   rw [HV.out]
   exact ⟨rfl,HBR.out⟩
def typeB (t:Tr):Bool:=decide (5 ≤ t.kind) && decide (t.kind ≤ 9) && Qai t
theorem typing_any (S:Nat → Prop) (t:Tr) (v:TV) (w:World) (h:TrAt S w t v) (hf:Qbj t = true) (hw:Qa9 t = true) :
  Calls Try.prog 25 #[.agg #[.int .i64 v.kind,.string v.text,.slice v.la v.ll v.lc,.slice v.ka v.kl v.kc]] w fun e w'=>e = .returned (.bool (typeB t)) ∧ Below w.heap.size w w':=by
 have HA:=hQ ((xC w.heap.size w).alloc (xA _) (trO v))
 have HX:=xH w (trO v)
 have HC:=hQ (shaped_syn _ S t v (w.alloc (trO v)) (xA _) (h.keep HA.out) hf hw)
 have hk:=h.kl.2.2.1
 clear h hf hw
 obtain ⟨vk,vx,vla,vll,vlc,vka,vkl,vkc⟩:=v
 simp only at hk
 have k0:=Qaa HX 0 _ rfl
 have k1:=Qaa HX 1 _ rfl
 have k2:=Qaa HX 2 _ rfl
 have k3:=Qaa HX 3 _ rfl
 clear HX
 have HR:=hQ (show typeB t = (decide (5 ≤ vk) && decide (vk ≤ 9) && Qai t) from by unfold typeB;rw [hk])
 clear hk
 by_cases h5:5 ≤ vk
 ·have d5:=decide_eq_true h5
  by_cases h9:vk ≤ 9
  ·have d9:=decide_eq_true h9
   have HV:=hQ (show typeB t = Qai t from by rw [HR.out,d5,d9];rfl)
   clear h5 h9
   go_enter Try.func25,Try.ntmps25
   go_wp2_with (go_at_call 31;refine HC.out.mono ?_;rintro e w1 ⟨rfl,hb⟩;have HB1:=hQ (HA.out.trans (hb.mono HA.out.size));clear hb)
   go_ret
   exact ⟨by rw [HV.out];first | rfl | simp,HB1.out⟩
  ·have d9:=decide_eq_false h9
   have HV:=hQ (show typeB t = false from by rw [HR.out,d5,d9];rfl)
   clear h5 h9 HC
   go_enter Try.func25,Try.ntmps25
   go_wp2
   go_ret
   exact ⟨by rw [HV.out];first | rfl | simp,HA.out⟩
 ·have d5:=decide_eq_false h5
  have HV:=hQ (show typeB t = false from by rw [HR.out,d5];rfl)
  clear h5 HC
  go_enter Try.func25,Try.ntmps25
  go_wp2
  go_ret
  exact ⟨by rw [HV.out];first | rfl | simp,HA.out⟩
theorem Qdx:(t:Tr) → Qa7 t ≤ Qao t
 | .mk k x ls ks=>by
  rw [Qa7,Qao]
  split
  ·have:listsL ks ≤ Qah ks:=by
    cases ks with
    | nil=>rw [listsL];exact Nat.zero_le _
    | cons a r =>
     rw [listsL,Qah]
     have:=Qdx a
     omega
   omega
  ·omega
theorem core_any (N:Nat):∀ (S:Nat → Prop) (t:Tr) (v:TV) (w:World),SizeOf.sizeOf t ≤ N → (∀ b,S b → b < w.heap.size) → TrAt S w t v → Qa1 t = true → 5 ≤ t.kind ∧ t.kind ≤ 9 → Qao t ≤ 1000 →
  Calls Try.prog 26 #[.agg #[.int .i64 v.kind,.string v.text,.slice v.la v.ll v.lc,.slice v.ka v.kl v.kc]] w fun e w'=>∃ u:TV,e = .returned (.tuple #[.agg #[.int .i64 u.kind,.string u.text,.slice u.la u.ll u.lc,.slice u.ka u.kl u.kc],.int .i64 (Qa7 t:Nat)]) ∧ TrAt S w' (Qa2 t) u ∧ Below w.heap.size w w':=by
 induction N with
 | zero=>intro S t v w h;have:=tr_pos t;omega
 | succ N ih =>
  intro S t v w hN hS h hs hk hz
  have HS:=hQ hS
  have HTW:=hQ h
  have hb0:=((xC w.heap.size w).alloc (xA _) (trO v)).alloc (by rw [xI];omega) (.cells #[.int .i64 0,.string ⟨#[]⟩,.slice none 0 0,.slice none 0 0] 27)
  have HB0:=hQ hb0
  have HX:=hQ (show ((w.alloc (trO v)).alloc (.cells #[.int .i64 0,.string ⟨#[]⟩,.slice none 0 0,.slice none 0 0] 27)).heap[w.heap.size]? = some (trO v) from (((xC (w.alloc (trO v)).heap.size _).alloc (xA _) _).block w.heap.size (by simp)).trans (xH w _))
  have HRR:=hQ (show ((w.alloc (trO v)).alloc (.cells #[.int .i64 0,.string ⟨#[]⟩,.slice none 0 0,.slice none 0 0] 27)).heap[w.heap.size + 1]? = some (trO ⟨0,⟨#[]⟩,none,0,0,none,0,0⟩) from by rw [← xI w (trO v)];exact xH _ _)
  have HT:=hQ (h.keep hb0)
  have e1:=h.kl.2.2.1
  clear hb0
  obtain ⟨vk,vx,vla,vll,vlc,vka,vkl,vkc⟩:=v
  simp only at e1
  have k0:=Qaa HX.out 0 _ rfl
  have k1:=Qaa HX.out 1 _ rfl
  have k2:=Qaa HX.out 2 _ rfl
  have k3:=Qaa HX.out 3 _ rfl
  have r0:=Qaa HRR.out 0 _ rfl
  have r1:=Qaa HRR.out 1 _ rfl
  have r2:=Qaa HRR.out 2 _ rfl
  have r3:=Qaa HRR.out 3 _ rfl
  have rbl:=Qab HRR.out
  have rrf:=Lib.frozen_of_heap HRR.out
  rcases type_cases hs hk with ⟨h8,k,hkk,hk1,hk2⟩ | ⟨h8,_,_⟩
  ·have hv8:vk = 8:=e1.trans h8
   subst hv8
   obtain ⟨q1,q2⟩:=core_list h8 hkk
   have HQ1:=hQ q1
   have HQ2:=hQ q2
   have hkj:t.kids[0]? = some k:=by rw [hkk];rfl
   have hkl:vkl = 1:=by have:=h.kl.1;rw [hkk] at this;exact this
   subst hkl
   obtain ⟨b,off,hka⟩:∃ b off,vka = some ⟨b,off,none⟩:=h.addr.resolve_left (by rw [hkk];simp)
   subst hka
   obtain ⟨u,c0,c1,c2,c3,hu⟩:=h.at rfl hkj
   simp only [Nat.zero_mul,Nat.add_zero] at c0 c1 c2 c3
   have cl:=xK w _ c0
   have HC:=hQ (ih S k u _ (by have:=Qdv hkj;omega) (fun b hb=>xE (hS b hb) HB0.out.size) (hu.keep HB0.out) hk2 hk1 (by have:=Qdu hkj;omega))
   have hlz:Qa7 k ≤ 1000:=by have:=Qdx k;have:=Qdu hkj;omega
   have hl1:(Qa7 k:Int) + 1 ≤ 1001:=by omega
   have hl0:(0:Int) ≤ (Qa7 k:Int):=by omega
   clear ih hN hS h hs hk hz hk1 hk2 hkk hkj hu q1 q2 h8 e1
   go_enter Try.func26,Try.ntmps26
   go_wp2_with (go_at_call 26;refine HC.out.mono ?_;rintro e w1 ⟨y,rfl,hy,hb⟩;have HY:=hQ hy;have HB1:=hQ hb;have HR1:=hQ ((hb.block _ rbl).trans HRR.out);have g0:=Qaa HR1.out 0 _ rfl;have g1:=Qaa HR1.out 1 _ rfl;have g2:=Qaa HR1.out 2 _ rfl;have g3:=Qaa HR1.out 3 _ rfl;have gbl:=Qab HR1.out;have grf:=Lib.frozen_of_heap HR1.out;clear hy hb r0 r1 r2 r3 rbl rrf k0 k1 k2 k3 c0 c1 c2 c3)
   refine bodyPost_ret (v:=.tuple #[.agg #[.int .i64 y.kind,.string y.text,.slice y.la y.ll y.lc,.slice y.ka y.kl y.kc],.int .i64 ((Qa7 k:Int) + 1)]) (by simp [results,Try.results26,go_sem, *]) rfl ?_
   have hb2:Below w1.heap.size (setT w1 (w.heap.size + 1) y) ((setT w1 (w.heap.size + 1) y).alloc (trO y)):=(xC _ _).alloc (by rw [Qex];exact xA _) _
   refine ⟨y,by rw [HQ2.out];rfl,?_,?_⟩
   ·rw [HQ1.out]
    refine TrAt.move (w:=w1) (fun _ h=>h) (fun b hb hl=>?_) _ _ HY.out
    exact (hb2.block b hl).trans (Qdw y (by have:=HS.out b hb;omega))
   ·exact HB0.out.trans ((HB1.out.mono HB0.out.size).trans (((Qcp w1 (w.heap.size + 1) y).mono (Nat.le_succ _)).trans (hb2.mono (Nat.le_trans HB0.out.size HB1.out.size))))
  ·have hv8:vk ≠ 8:=fun e=>h8 (e1.symm.trans e)
   have b8:=beqF hv8
   obtain ⟨q1,q2⟩:=Qdm h8
   have HQ1:=hQ q1
   have HQ2:=hQ q2
   clear ih hN hS h hs hk hz q1 q2 h8 e1 hv8
   go_enter Try.func26,Try.ntmps26
   go_wp2
   refine bodyPost_ret (v:=.tuple #[.agg #[.int .i64 vk,.string vx,.slice vla vll vlc,.slice vka vkl vkc],.int .i64 0]) (by simp [results,Try.results26,go_sem, *]) rfl ?_
   have hb2:Below w.heap.size w ((w.alloc (trO ⟨vk,vx,vla,vll,vlc,vka,vkl,vkc⟩)).alloc (trO ⟨vk,vx,vla,vll,vlc,vka,vkl,vkc⟩)):=((xC w.heap.size w).alloc (xA _) _).alloc (by rw [xI];omega) _
   exact ⟨⟨vk,vx,vla,vll,vlc,vka,vkl,vkc⟩,by rw [HQ2.out];rfl,by rw [HQ1.out];exact HTW.out.keep hb2,hb2⟩
end Go.Proofs.Ytclkilljmdkfaaa
