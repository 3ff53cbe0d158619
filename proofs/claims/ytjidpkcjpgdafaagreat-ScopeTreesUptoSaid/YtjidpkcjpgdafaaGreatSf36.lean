/- Part 36 -/
import Derived.Test.YtjidpkcjpgdafaaGreatSf35
set_option maxRecDepth 100000
set_option maxHeartbeats 4000000
namespace Go.Proofs.YtjidpkcjpgdafaaGreat
open Go.RowKit Go.Shelf
def Qd0 (t:Tr):Bool:=decide (t.kind=2) && Qau t
theorem Qep (S:Nat→Prop) (t:Tr) (v:TV) (w:World) (ht:TrAt S w t v) (hs:Qb7 t=true) (hw:Qc2 t=true) :
  Calls Tryz.prog 70 #[.agg #[.int .i64 v.kind,.string v.text,.slice v.la v.ll v.lc,.slice v.ka v.kl v.kc]] w fun e w'=>e = .returned (.bool (Qd0 t))∧Below w.heap.size w w':=by
 have hb0:=Qaf w (trO v)
 have HT:=hQ (ht.keep hb0)
 have HX:=hQ (xH w (trO v))
 have HB0:=hQ hb0
 have HS:=hQ hs
 have HW:=hQ hw
 have hkd:=ht.kl.2.2.1
 obtain ⟨vk,vx,vla,vll,vlc,vka,vkl,vkc⟩:=v
 simp only at hkd
 subst hkd
 clear ht hb0 hs hw
 by_cases h2:t.kind=2
 ·have HF:=hQ (show Qd0 t=Qau t from by unfold Qd0;rw [xS h2,Bool.true_and])
  have d2:decide (t.kind=2)=true:=xS h2
  have d2':(t.kind==2)=true:=by simpa using h2
  go_enter Tryz.func70,Tryz.ntmps70
  clear h2
  go_wp2_with (go_at_call 80;refine (Qrz _ _ t _ _ (xA _) HT.out HS.out HW.out).mono ?_;rintro e w1 ⟨rfl,hb⟩;have HB1:=hQ (HB0.out.trans (hb.mono HB0.out.size));clear hb)
  go_ret
  exact ⟨Qag HF.out.symm,HB1.out⟩
 ·have HF:=hQ (show Qd0 t=false from by unfold Qd0;rw [xR h2,Bool.false_and])
  have d2:decide (t.kind=2)=false:=xR h2
  go_enter Tryz.func70,Tryz.ntmps70
  go_wp2
  go_ret
  exact ⟨Qag HF.out.symm,HB0.out⟩
def Qgs (t:Tr):List Vrb:=if Qd0 t=true then Qh9 t [] [] else []
theorem Qt6 (a b c k:Nat):Qd7 (.slice none 0 0) a (.slice none 0 0) b (.slice none 0 0) c k=none:=Qf6 (by intro h;cases h) (by intro h;cases h) (by intro h;cases h)
theorem Qwa (w:World):Hand w.heap.size w (.slice none 0 0) [] (.slice none 0 0) [] (.slice none 0 0) [] [] :=
 ⟨World.ownsRow_nil _ _ _ _,World.ownsRow_nil _ _ _ _,World.ownsRow_nil _ _ _ _,⟨rfl,fun j y z hy=>by simp at hy⟩,xA _⟩
theorem Qfn (S:Nat→Prop) (t:Tr) (v:TV) (w:World) (ht:TrAt S w t v) (hs:Qb7 t=true) (hw:Qc2 t=true) (hz:Qam t≤10000) :
  Calls Tryz.prog 36 #[.agg #[.int .i64 v.kind,.string v.text,.slice v.la v.ll v.lc,.slice v.ka v.kl v.kc]] w fun e w'=>∃ r ws,e = .returned r∧VRow w' w.heap.size r ws∧VarsAt w' w.heap.size ws (Qgs t)∧Below w.heap.size w w':=by
 have hb0:=Qaf w (trO v)
 have HT:=hQ (ht.keep hb0)
 have HX:=hQ (xH w (trO v))
 have HB0:=hQ hb0
 have HS:=hQ hs
 have HW:=hQ hw
 have HZ:=hQ hz
 obtain ⟨vk,vx,vla,vll,vlc,vka,vkl,vkc⟩:=v
 clear ht hb0 hs hw hz
 cases hf:Qd0 t
 ·have HF:=hQ hf
  have HR:=hQ (show Qgs t = [] from by unfold Qgs;rw [hf];rfl)
  clear hf
  go_enter Tryz.func36,Tryz.ntmps36
  go_wp2_with (go_at_call 70;refine (Qep _ t _ _ HT.out HS.out HW.out).mono ?_;rw [HF.out];rintro e w1 ⟨rfl,hb⟩;have HB1:=hQ (HB0.out.trans (hb.mono HB0.out.size));clear hb)
  go_ret
  exact ⟨_,[],rfl,World.ownsRow_nil _ _ _ _,by rw [HR.out];exact VarsAt.nil _ _,HB1.out⟩
 ·have HF:=hQ hf
  have HR:=hQ (show Qgs t=Qh9 t [] [] from by unfold Qgs;rw [hf];rfl)
  have HK:=hQ (show t.kind=2 from by unfold Qd0 at hf;simp at hf;exact hf.1)
  clear hf
  go_enter Tryz.func36,Tryz.ntmps36
  go_wp2_with (first
   | (go_at_call 70;refine (Qep _ t _ _ HT.out HS.out HW.out).mono ?_;rw [HF.out];rintro e w1 ⟨rfl,hb⟩;have HB1:=hQ (HB0.out.trans (hb.mono HB0.out.size));have HT1:=hQ (TrAt.low t _ (HT.out.keep hb));have hx1:=(hb.block _ (Qab HX.out)).trans HX.out;have k0:w1.cell? ⟨w.heap.size,0,none⟩=some (.int .i64 vk):=Qaa hx1 0 _ rfl;have k1:w1.cell? ⟨w.heap.size,1,none⟩=some (.string vx):=Qaa hx1 1 _ rfl;have k2:w1.cell? ⟨w.heap.size,2,none⟩=some (.slice vla vll vlc):=Qaa hx1 2 _ rfl;have k3:w1.cell? ⟨w.heap.size,3,none⟩=some (.slice vka vkl vkc):=Qaa hx1 3 _ rfl;clear hb hx1)
   | (go_at_call 71;refine (Qms _ w1.heap.size t _ _ [] _ [] _ [] [] _ (xA _) HT1.out (Qwa w1) (.inr HK.out) (by have:=HZ.out;simp;omega) (by have:=HZ.out;simp;omega) (by have:=HZ.out;simp;omega)).mono ?_;rintro e w2 ⟨r,ws,rfl,hr,hv,hk,_⟩;have HR2:=hQ (Qdz hr HB1.out.size);have HV2:=hQ (hv.step fun v q h=>Qdz h HB1.out.size);have HB2:=hQ (HB1.out.trans ((hk.below (xA _) (fun k _=>Qt6 _ _ _ k)).mono HB1.out.size));clear hr hv hk))
  go_ret
  exact ⟨_,ws,rfl,HR2.out,by rw [HR.out];exact HV2.out,HB2.out⟩
end Go.Proofs.YtjidpkcjpgdafaaGreat
