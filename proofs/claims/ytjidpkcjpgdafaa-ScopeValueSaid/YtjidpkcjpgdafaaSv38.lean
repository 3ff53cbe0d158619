/- Part 38: The contracts of function and of Variables. -/
import Derived.Test.YtjidpkcjpgdafaaSv1
import Derived.Test.YtjidpkcjpgdafaaSv37
import Derived.Test.YtjidpkcjpgdafaaSv21
set_option maxRecDepth 100000
set_option maxHeartbeats 4000000
namespace Go.Proofs.Ytjidpkcjpgdafaa
open Go.RowKit Go.Shelf
def fineT (t:Tr):Bool:=decide (t.kind = 2) && Qax t
theorem Qcr (S:Nat → Prop) (t:Tr) (v:TV) (w:World) (ht:TrAt S w t v) (hs:Qa4 t = true) (hw:Qce t = true) :
  Calls Try.prog 7 #[.agg #[.int .i64 v.kind,.string v.text,.slice v.la v.ll v.lc,.slice v.ka v.kl v.kc]] w fun e w'=>e = .returned (.bool (fineT t)) ∧ Below w.heap.size w w':=by
 have hb0:=Qaf w (trO v)
 have HT:=hQ (ht.keep hb0)
 have HX:=hQ (xH w (trO v))
 have HB0:=hQ hb0
 have HS:=hQ hs
 have HW:=hQ hw
 have hkd:=ht.kl.2.2.1
 obtain ⟨vk,vx,vla,vll,vlc,vka,vkl,vkc⟩:=v
 simp only at hkd
 subst hkd
 clear ht hb0 hs hw
 by_cases h2:t.kind = 2
 ·have HF:=hQ (show fineT t = Qax t from by unfold fineT;rw [decide_eq_true h2,Bool.true_and])
  have d2:decide (t.kind = 2) = true:=decide_eq_true h2
  have d2':(t.kind == 2) = true:=by simpa using h2
  go_enter Try.func7,Try.ntmps7
  clear h2
  go_wp2_with (go_at_call 13;refine (shaped_syn _ _ t _ _ (xA _) HT.out HS.out HW.out).mono ?_;rintro e w1 ⟨rfl,hb⟩;have HB1:=hQ (HB0.out.trans (hb.mono HB0.out.size));clear hb)
  go_ret
  exact ⟨Qca HF.out.symm,HB1.out⟩
 ·have HF:=hQ (show fineT t = false from by unfold fineT;rw [decide_eq_false h2,Bool.false_and])
  have d2:decide (t.kind = 2) = false:=decide_eq_false h2
  go_enter Try.func7,Try.ntmps7
  go_wp2
  go_ret
  exact ⟨Qca HF.out.symm,HB0.out⟩
def varsR (t:Tr):List Vrb:=if fineT t = true then varsT t [] [] else []
theorem names_nil (a b c k:Nat):Qcg (.slice none 0 0) a (.slice none 0 0) b (.slice none 0 0) c k = none:=Qd3 (by intro h;cases h) (by intro h;cases h) (by intro h;cases h)
theorem hand_nil (w:World):Hand w.heap.size w (.slice none 0 0) [] (.slice none 0 0) [] (.slice none 0 0) [] [] :=
 ⟨World.ownsRow_nil _ _ _ _,World.ownsRow_nil _ _ _ _,World.ownsRow_nil _ _ _ _,⟨rfl,fun j y z hy=>by simp at hy⟩,xA _⟩
theorem variablesR_any (S:Nat → Prop) (t:Tr) (v:TV) (w:World) (ht:TrAt S w t v) (hs:Qa4 t = true) (hw:Qce t = true) (hz:Qbl t ≤ 10000) :
  Calls Try.prog 5 #[.agg #[.int .i64 v.kind,.string v.text,.slice v.la v.ll v.lc,.slice v.ka v.kl v.kc]] w fun e w'=>∃ r ws,e = .returned r ∧ VRow w' w.heap.size r ws ∧ VarsAt w' w.heap.size ws (varsR t) ∧ Below w.heap.size w w':=by
 have hb0:=Qaf w (trO v)
 have HT:=hQ (ht.keep hb0)
 have HX:=hQ (xH w (trO v))
 have HB0:=hQ hb0
 have HS:=hQ hs
 have HW:=hQ hw
 have HZ:=hQ hz
 obtain ⟨vk,vx,vla,vll,vlc,vka,vkl,vkc⟩:=v
 clear ht hb0 hs hw hz
 cases hf:fineT t
 ·have HF:=hQ hf
  have HR:=hQ (show varsR t = [] from by unfold varsR;rw [hf];rfl)
  clear hf
  go_enter Try.func5,Try.ntmps5
  go_wp2_with (go_at_call 7;refine (Qcr _ t _ _ HT.out HS.out HW.out).mono ?_;rw [HF.out];rintro e w1 ⟨rfl,hb⟩;have HB1:=hQ (HB0.out.trans (hb.mono HB0.out.size));clear hb)
  go_ret
  exact ⟨_,[],rfl,World.ownsRow_nil _ _ _ _,by rw [HR.out];exact VarsAt.nil _ _,HB1.out⟩
 ·have HF:=hQ hf
  have HR:=hQ (show varsR t = varsT t [] [] from by unfold varsR;rw [hf];rfl)
  have HK:=hQ (show t.kind = 2 from by unfold fineT at hf;simp at hf;exact hf.1)
  clear hf
  go_enter Try.func5,Try.ntmps5
  go_wp2_with (first
   | (go_at_call 7;refine (Qcr _ t _ _ HT.out HS.out HW.out).mono ?_;rw [HF.out];rintro e w1 ⟨rfl,hb⟩;have HB1:=hQ (HB0.out.trans (hb.mono HB0.out.size));have HT1:=hQ (TrAt.low t _ (HT.out.keep hb));have hx1:=(hb.block _ (Qaa HX.out)).trans HX.out;have k0:w1.cell? ⟨w.heap.size,0,none⟩ = some (.int .i64 vk):=Qab hx1 0 _ rfl;have k1:w1.cell? ⟨w.heap.size,1,none⟩ = some (.string vx):=Qab hx1 1 _ rfl;have k2:w1.cell? ⟨w.heap.size,2,none⟩ = some (.slice vla vll vlc):=Qab hx1 2 _ rfl;have k3:w1.cell? ⟨w.heap.size,3,none⟩ = some (.slice vka vkl vkc):=Qab hx1 3 _ rfl;clear hb hx1)
   | (go_at_call 8;refine (variables_any _ w1.heap.size t _ _ [] _ [] _ [] [] _ (xA _) HT1.out (hand_nil w1) (.inr HK.out) (by have:=HZ.out;simp;omega) (by have:=HZ.out;simp;omega) (by have:=HZ.out;simp;omega)).mono ?_;rintro e w2 ⟨r,ws,rfl,hr,hv,hk,_⟩;have HR2:=hQ (row_low hr HB1.out.size);have HV2:=hQ (hv.step fun v q h=>row_low h HB1.out.size);have HB2:=hQ (HB1.out.trans ((hk.below (xA _) (fun k _=>names_nil _ _ _ k)).mono HB1.out.size));clear hr hv hk))
  go_ret
  exact ⟨_,ws,rfl,HR2.out,by rw [HR.out];exact HV2.out,HB2.out⟩
end Go.Proofs.Ytjidpkcjpgdafaa
