/- Part 24: The contracts of led and printable. -/
import Derived.Test.YtnnfdbmanamfdaaGreatSt1
import Derived.Test.YtnnfdbmanamfdaaGreatSt23
import Derived.Test.YtnnfdbmanamfdaaGreatSt2
import Derived.Deep.RegionHeld3
set_option maxRecDepth 100000
set_option maxHeartbeats 4000000
namespace Go.Proofs.YtnnfdbmanamfdaaGreat
open Go.RowKit
def trivL (kd:Int):Nat → List ByteArray → Bool
 | _,[]=>true
 | i,y :: r=>Qfp y (kd == 1 && (i:Int) == 2) && trivL kd (i + 1) r
mutual
def ledT:Tr → Bool
 | .mk kd _ ls ks=>((ls.length:Int) == leadsP kd ks.length) && trivL kd 0 ls && ledL ks
def ledL:List Tr → Bool
 | []=>true
 | k :: r=>ledT k && ledL r
end
theorem ledT_eq (t:Tr):ledT t = (((t.leads.length:Int) == leadsP t.kind t.kids.length) && trivL t.kind 0 t.leads && ledL t.kids):=by
 cases t with
 | mk kd x ls ks=>rw [ledT];rfl
theorem trivL_at (kd:Int) (l:List ByteArray) (i:Nat) (y:ByteArray) (hy:l[i]? = some y):trivL kd i (l.drop i) = (Qfp y (kd == 1 && (i:Int) == 2) && trivL kd (i + 1) (l.drop (i + 1))):=by
 obtain ⟨hi,he⟩:=List.getElem?_eq_some_iff.1 hy
 rw [List.drop_eq_getElem_cons hi,he,trivL]
theorem trivL_end (kd:Int) (l:List ByteArray) (i:Nat) (h:l.length ≤ i):trivL kd i (l.drop i) = true:=by
 rw [List.drop_eq_nil_of_le h,trivL]
theorem ledL_at (l:List Tr) (j:Nat) (k:Tr) (hk:l[j]? = some k):ledL (l.drop j) = (ledT k && ledL (l.drop (j + 1))):=by
 obtain ⟨hj,he⟩:=List.getElem?_eq_some_iff.1 hk
 rw [List.drop_eq_getElem_cons hj,he,ledL]
theorem ledL_end (l:List Tr) (j:Nat) (h:l.length ≤ j):ledL (l.drop j) = true:=by
 rw [List.drop_eq_nil_of_le h,ledL]
theorem TrAt.laddr {S:Nat → Prop} {w:World} {t:Tr} {v:TV} (h:TrAt S w t v):t.leads.length = 0 ∨ ∃ b off,v.la = some ⟨b,off,none⟩:=by
 cases t with
 | mk kd tx ls ks =>
  unfold TrAt at h
  cases ls with
  | nil=>exact .inl rfl
  | cons a r =>
   obtain ⟨b,off,hA,_⟩:=h.2.2.2.2.1 (by simp)
   exact .inr ⟨b,off,hA⟩
theorem TrAt.lat {S:Nat → Prop} {w:World} {t:Tr} {v:TV} {b off:Nat} (h:TrAt S w t v) (hA:v.la = some ⟨b,off,none⟩) {i:Nat} {y:ByteArray} (hy:t.leads[i]? = some y):w.cell? ⟨b,off + i,none⟩ = some (.string y):=by
 cases t with
 | mk kd tx ls ks =>
  unfold TrAt at h
  obtain ⟨b',off',hA',_,hc⟩:=h.2.2.2.2.1 (by intro e;rw [show (Tr.mk kd tx ls ks).leads = ls from rfl,e] at hy;simp at hy)
  rw [hA] at hA'
  injection hA' with e
  injection e with e1 e2 _
  subst e1 e2
  exact hc i y hy
theorem led_ee {N:Nat} (ih:∀ (S:Nat → Prop) (t:Tr) (v:TV) (w:World),SizeOf.sizeOf t ≤ N → TrAt S w t v → Qcn t = true → Qdb t = true →
   Calls Tryz.prog 105 #[.agg #[.int .i64 v.kind,.string v.text,.slice v.la v.ll v.lc,.slice v.ka v.kl v.kc]] w fun e w'=>e = .returned (.bool (ledT t)) ∧ Below w.heap.size w w')
  (S:Nat → Prop) (t:Tr) (vla:Option Addr) (vlc:Nat) (vka:Option Addr) (vkc:Nat) (w:World) (hN:SizeOf.sizeOf t ≤ N + 1) (h:TrAt S w t ⟨t.kind,t.text,vla,t.leads.length,vlc,vka,t.kids.length,vkc⟩) (hs:Qcn t = true) (hw:Qdb t = true) (hle:t.leads.length = 0) (hke:t.kids.length = 0) :
  Calls Tryz.prog 105 #[.agg #[.int .i64 t.kind,.string t.text,.slice vla t.leads.length vlc,.slice vka t.kids.length vkc]] w fun e w'=>e = .returned (.bool (ledT t)) ∧ Below w.heap.size w w':=by
 obtain ⟨hk0,hk1,hk2⟩:=Qec hs
 obtain ⟨htx,hly,hkw⟩:=Qcr hw
 have HT:=hQ h
 have HK2:=hQ hk2
 have HKW:=hQ hkw
 have HLY:=hQ hly
 have HKI:=hQ (show (t.kids.length:Int) ≤ 140737488355328 from by omega)
 have HIH:=hQ ih
 have HSZ:=hQ hN
 have HLE:=hQ hle
 have HKE:=hQ hke
 have HW0:=hQ ((xC w.heap.size w).alloc (xA _) (.cells #[.int .i64 t.kind,.string t.text,.slice vla t.leads.length vlc,.slice vka t.kids.length vkc] 25))
 have HG0:=hQ (xH w (.cells #[.int .i64 t.kind,.string t.text,.slice vla t.leads.length vlc,.slice vka t.kids.length vkc] 25))
 have HT0:=hQ (h.keep ((xC w.heap.size w).alloc (xA _) (.cells #[.int .i64 t.kind,.string t.text,.slice vla t.leads.length vlc,.slice vka t.kids.length vkc] 25)))
 have HSE:=hQ (ledT_eq t)
 have hkk:(t.kids.length:Int) ≤ 140737488355328:=by omega
 have hll:(t.leads.length:Int) ≤ 140737488355328:=by omega
 clear h hs hw hk0 hk1 hk2 htx hly hkw ih hN hle hke
 go_enter Tryz.func105,Tryz.ntmps105
 go_wp2_with fail
 generalize w.alloc (.cells #[.int .i64 t.kind,.string t.text,.slice vla t.leads.length vlc,.slice vka t.kids.length vkc] 25) = W0 at HW0 HG0 HT0 ⊢
 have f0:W0.cell? ⟨w.heap.size,0,none⟩ = some (.int .i64 t.kind):=Qab HG0.out 0 _ rfl
 have f2:W0.cell? ⟨w.heap.size,2,none⟩ = some (.slice vla t.leads.length vlc):=Qab HG0.out 2 _ rfl
 have f3:W0.cell? ⟨w.heap.size,3,none⟩ = some (.slice vka t.kids.length vkc):=Qab HG0.out 3 _ rfl
 go_region_held3 (fun w'=>w'.cell? ⟨w.heap.size,0,none⟩ = some (.int .i64 t.kind) ∧ w'.cell? ⟨w.heap.size,2,none⟩ = some (.slice vla t.leads.length vlc) ∧ w'.cell? ⟨w.heap.size,3,none⟩ = some (.slice vka t.kids.length vkc)) (go_keep)
  (first | (go_at_call 69;refine (leads_syn t.kind t.kids.length _ HKI.out).mono ?_;rintro e w1 ⟨rfl,hb1⟩;have HB1:=hQ (HW0.out.drew.trans (hb1.mono HW0.out.size));have HG1:=hQ ((hb1.block w.heap.size (Qaa HG0.out)).trans HG0.out);have HT1:=hQ (HT0.out.keep ((xC W0.heap.size W0).drew.trans hb1));clear f0 f2 f3 hb1;have f0:w1.cell? ⟨w.heap.size,0,none⟩ = some (.int .i64 t.kind):=Qab HG1.out 0 _ rfl;have f2:w1.cell? ⟨w.heap.size,2,none⟩ = some (.slice vla t.leads.length vlc):=Qab HG1.out 2 _ rfl;have f3:w1.cell? ⟨w.heap.size,3,none⟩ = some (.slice vka t.kids.length vkc):=Qab HG1.out 3 _ rfl))
 cases hlq:((t.leads.length:Int) == leadsP t.kind t.kids.length)
 ·have hlq':((t.leads.length:Int) != leadsP t.kind t.kids.length) = true:=by simpa using hlq
  have HR:=hQ (show ledT t = false from by rw [HSE.out,hlq];rfl)
  go_wp2
  go_ret
  exact ⟨by rw [HR.out];rfl,HB1.out⟩
 ·have hlq':((t.leads.length:Int) != leadsP t.kind t.kids.length) = false:=by simpa using hlq
  have HR:=hQ (show ledT t = (trivL t.kind 0 t.leads && ledL t.kids) from by rw [HSE.out,hlq,Bool.true_and])
  clear hlq
  go_wp2_with fail
  rw [hlq']
  clear f0 f2 f3 hlq'
  go_loopg [21] t.leads.length (fun g u21 wr=>∃ i:Nat,u21 = .int .i64 i ∧ i + g = t.leads.length ∧ ledT t = (trivL t.kind i (t.leads.drop i) && ledL t.kids) ∧ wr = w1)
  case atStart=>exact ⟨0,rfl,by omega,HR.out,rfl⟩
  case round =>
   obtain ⟨i,rfl,hi,hsi,rfl⟩:=hrel
   have HI:=hQ hi
   have HSI:=hQ hsi
   clear hi hsi
   have hil:¬ i < t.leads.length:=by have:=HLE.out;omega
   have HKR:=hQ (show ledT t = ledL t.kids from by rw [HSI.out,trivL_end t.kind t.leads i (by omega),Bool.true_and])
   have f3:wr.cell? ⟨w.heap.size,3,none⟩ = some (.slice vka t.kids.length vkc):=Qab HG1.out 3 _ rfl
   go_wp2_with fail
   clear f3
   go_loopg [41] t.kids.length (fun g u41 wi=>∃ j:Nat,u41 = .int .i64 j ∧ j + g = t.kids.length ∧ ledT t = ledL (t.kids.drop j) ∧ Below wr.heap.size wr wi)
   case atStart=>exact ⟨0,rfl,by omega,HKR.out,xC _ _⟩
   case round =>
    obtain ⟨j,rfl,hj,hsj,hb⟩:=hrel
    have HJ:=hQ hj
    have HSJ:=hQ hsj
    have HB:=hQ hb
    clear hj hsj hb
    have hlt:¬ j < t.kids.length:=by have:=HKE.out;omega
    have HRR:=hQ (HSJ.out.trans (ledL_end t.kids j (by omega)))
    go_wp2
    go_ret
    exact ⟨by rw [HRR.out];rfl,HB1.out.trans (HB.out.mono HB1.out.size)⟩
theorem led_ef {N:Nat} (ih:∀ (S:Nat → Prop) (t:Tr) (v:TV) (w:World),SizeOf.sizeOf t ≤ N → TrAt S w t v → Qcn t = true → Qdb t = true →
   Calls Tryz.prog 105 #[.agg #[.int .i64 v.kind,.string v.text,.slice v.la v.ll v.lc,.slice v.ka v.kl v.kc]] w fun e w'=>e = .returned (.bool (ledT t)) ∧ Below w.heap.size w w')
  (S:Nat → Prop) (t:Tr) (vla:Option Addr) (vlc:Nat) (kb ko:Nat) (vkc:Nat) (w:World) (hN:SizeOf.sizeOf t ≤ N + 1) (h:TrAt S w t ⟨t.kind,t.text,vla,t.leads.length,vlc,(some ⟨kb,ko,none⟩),t.kids.length,vkc⟩) (hs:Qcn t = true) (hw:Qdb t = true) (hle:t.leads.length = 0) :
  Calls Tryz.prog 105 #[.agg #[.int .i64 t.kind,.string t.text,.slice vla t.leads.length vlc,.slice (some ⟨kb,ko,none⟩) t.kids.length vkc]] w fun e w'=>e = .returned (.bool (ledT t)) ∧ Below w.heap.size w w':=by
 obtain ⟨hk0,hk1,hk2⟩:=Qec hs
 obtain ⟨htx,hly,hkw⟩:=Qcr hw
 have HT:=hQ h
 have HK2:=hQ hk2
 have HKW:=hQ hkw
 have HLY:=hQ hly
 have HKI:=hQ (show (t.kids.length:Int) ≤ 140737488355328 from by omega)
 have HIH:=hQ ih
 have HSZ:=hQ hN
 have HLE:=hQ hle
 have HKE:=hQ True.intro
 have HW0:=hQ ((xC w.heap.size w).alloc (xA _) (.cells #[.int .i64 t.kind,.string t.text,.slice vla t.leads.length vlc,.slice (some ⟨kb,ko,none⟩) t.kids.length vkc] 25))
 have HG0:=hQ (xH w (.cells #[.int .i64 t.kind,.string t.text,.slice vla t.leads.length vlc,.slice (some ⟨kb,ko,none⟩) t.kids.length vkc] 25))
 have HT0:=hQ (h.keep ((xC w.heap.size w).alloc (xA _) (.cells #[.int .i64 t.kind,.string t.text,.slice vla t.leads.length vlc,.slice (some ⟨kb,ko,none⟩) t.kids.length vkc] 25)))
 have HSE:=hQ (ledT_eq t)
 have hkk:(t.kids.length:Int) ≤ 140737488355328:=by omega
 have hll:(t.leads.length:Int) ≤ 140737488355328:=by omega
 clear h hs hw hk0 hk1 hk2 htx hly hkw ih hN hle
 go_enter Tryz.func105,Tryz.ntmps105
 go_wp2_with fail
 generalize w.alloc (.cells #[.int .i64 t.kind,.string t.text,.slice vla t.leads.length vlc,.slice (some ⟨kb,ko,none⟩) t.kids.length vkc] 25) = W0 at HW0 HG0 HT0 ⊢
 have f0:W0.cell? ⟨w.heap.size,0,none⟩ = some (.int .i64 t.kind):=Qab HG0.out 0 _ rfl
 have f2:W0.cell? ⟨w.heap.size,2,none⟩ = some (.slice vla t.leads.length vlc):=Qab HG0.out 2 _ rfl
 have f3:W0.cell? ⟨w.heap.size,3,none⟩ = some (.slice (some ⟨kb,ko,none⟩) t.kids.length vkc):=Qab HG0.out 3 _ rfl
 go_region_held3 (fun w'=>w'.cell? ⟨w.heap.size,0,none⟩ = some (.int .i64 t.kind) ∧ w'.cell? ⟨w.heap.size,2,none⟩ = some (.slice vla t.leads.length vlc) ∧ w'.cell? ⟨w.heap.size,3,none⟩ = some (.slice (some ⟨kb,ko,none⟩) t.kids.length vkc)) (go_keep)
  (first | (go_at_call 69;refine (leads_syn t.kind t.kids.length _ HKI.out).mono ?_;rintro e w1 ⟨rfl,hb1⟩;have HB1:=hQ (HW0.out.drew.trans (hb1.mono HW0.out.size));have HG1:=hQ ((hb1.block w.heap.size (Qaa HG0.out)).trans HG0.out);have HT1:=hQ (HT0.out.keep ((xC W0.heap.size W0).drew.trans hb1));clear f0 f2 f3 hb1;have f0:w1.cell? ⟨w.heap.size,0,none⟩ = some (.int .i64 t.kind):=Qab HG1.out 0 _ rfl;have f2:w1.cell? ⟨w.heap.size,2,none⟩ = some (.slice vla t.leads.length vlc):=Qab HG1.out 2 _ rfl;have f3:w1.cell? ⟨w.heap.size,3,none⟩ = some (.slice (some ⟨kb,ko,none⟩) t.kids.length vkc):=Qab HG1.out 3 _ rfl))
 cases hlq:((t.leads.length:Int) == leadsP t.kind t.kids.length)
 ·have hlq':((t.leads.length:Int) != leadsP t.kind t.kids.length) = true:=by simpa using hlq
  have HR:=hQ (show ledT t = false from by rw [HSE.out,hlq];rfl)
  go_wp2
  go_ret
  exact ⟨by rw [HR.out];rfl,HB1.out⟩
 ·have hlq':((t.leads.length:Int) != leadsP t.kind t.kids.length) = false:=by simpa using hlq
  have HR:=hQ (show ledT t = (trivL t.kind 0 t.leads && ledL t.kids) from by rw [HSE.out,hlq,Bool.true_and])
  clear hlq
  go_wp2_with fail
  rw [hlq']
  clear f0 f2 f3 hlq'
  go_loopg [21] t.leads.length (fun g u21 wr=>∃ i:Nat,u21 = .int .i64 i ∧ i + g = t.leads.length ∧ ledT t = (trivL t.kind i (t.leads.drop i) && ledL t.kids) ∧ wr = w1)
  case atStart=>exact ⟨0,rfl,by omega,HR.out,rfl⟩
  case round =>
   obtain ⟨i,rfl,hi,hsi,rfl⟩:=hrel
   have HI:=hQ hi
   have HSI:=hQ hsi
   clear hi hsi
   have hil:¬ i < t.leads.length:=by have:=HLE.out;omega
   have HKR:=hQ (show ledT t = ledL t.kids from by rw [HSI.out,trivL_end t.kind t.leads i (by omega),Bool.true_and])
   have f3:wr.cell? ⟨w.heap.size,3,none⟩ = some (.slice (some ⟨kb,ko,none⟩) t.kids.length vkc):=Qab HG1.out 3 _ rfl
   go_wp2_with fail
   clear f3
   go_loopg [41] t.kids.length (fun g u41 wi=>∃ j:Nat,u41 = .int .i64 j ∧ j + g = t.kids.length ∧ ledT t = ledL (t.kids.drop j) ∧ Below wr.heap.size wr wi)
   case atStart=>exact ⟨0,rfl,by omega,HKR.out,xC _ _⟩
   case round =>
    obtain ⟨j,rfl,hj,hsj,hb⟩:=hrel
    have HJ:=hQ hj
    have HSJ:=hQ hsj
    have HB:=hQ hb
    clear hj hsj hb
    by_cases hlt:j < t.kids.length
    ·obtain ⟨k,hk⟩:∃ k,t.kids[j]? = some k:=⟨_,xF hlt⟩
     obtain ⟨u,c0,c1,c2,c3,hu⟩:=(HT1.out.keep HB.out).at rfl hk
     have HU:=hQ hu
     have HSK:=hQ (HK2.out j k hk)
     have HWK:=hQ (HKW.out j k hk)
     have HZK:=hQ (show SizeOf.sizeOf k ≤ N from by have:=kid_size hk;have:=HSZ.out;omega)
     have HLT:=hQ hlt
     have HAT:=hQ (HSJ.out.trans (ledL_at t.kids j k hk))
     have hj0:(0:Int) ≤ (j:Int):=by omega
     have hj1:(j:Int) < (t.kids.length:Int):=by omega
     have hj2:(j:Int) + 1 ≤ 140737488355328:=by omega
     clear hk hu
     cases hwk:ledT k
     ·have HRR:=hQ (show ledT t = false from by rw [HAT.out,hwk];rfl)
      go_wp2_with (go_at_call 105;refine (HIH.out S k u _ HZK.out (HU.out.keep ((xC _ _).alloc (xA _) _)) HSK.out HWK.out).mono ?_;rintro e w2 ⟨rfl,hb2⟩;have HB2:=hQ ((HB.out.alloc HB.out.size (.cells #[.int .i64 u.kind,.string u.text,.slice u.la u.ll u.lc,.slice u.ka u.kl u.kc] 25)).trans (hb2.mono (by have:=HB.out.size;simp;omega)));clear hb2)
      go_ret
      exact ⟨by rw [HRR.out];rfl,HB1.out.trans (HB2.out.mono HB1.out.size)⟩
     ·have HRR:=hQ (show ledT t = ledL (t.kids.drop (j + 1)) from by rw [HAT.out,hwk,Bool.true_and])
      go_wp2_with (go_at_call 105;refine (HIH.out S k u _ HZK.out (HU.out.keep ((xC _ _).alloc (xA _) _)) HSK.out HWK.out).mono ?_;rintro e w2 ⟨rfl,hb2⟩;have HB2:=hQ ((HB.out.alloc HB.out.size (.cells #[.int .i64 u.kind,.string u.text,.slice u.la u.ll u.lc,.slice u.ka u.kl u.kc] 25)).trans (hb2.mono (by have:=HB.out.size;simp;omega)));clear hb2)
      go_roundg (gk - 1)
      case measure=>have:=HJ.out;have:=HLT.out;omega
      case rel=>exact ⟨j + 1,by go_num,by have:=HJ.out;have:=HLT.out;omega,HRR.out,HB2.out⟩
    ·have HRR:=hQ (HSJ.out.trans (ledL_end t.kids j (by omega)))
     go_wp2
     go_ret
     exact ⟨by rw [HRR.out];rfl,HB1.out.trans (HB.out.mono HB1.out.size)⟩
theorem led_fe {N:Nat} (ih:∀ (S:Nat → Prop) (t:Tr) (v:TV) (w:World),SizeOf.sizeOf t ≤ N → TrAt S w t v → Qcn t = true → Qdb t = true →
   Calls Tryz.prog 105 #[.agg #[.int .i64 v.kind,.string v.text,.slice v.la v.ll v.lc,.slice v.ka v.kl v.kc]] w fun e w'=>e = .returned (.bool (ledT t)) ∧ Below w.heap.size w w')
  (S:Nat → Prop) (t:Tr) (lb lo:Nat) (vlc:Nat) (vka:Option Addr) (vkc:Nat) (w:World) (hN:SizeOf.sizeOf t ≤ N + 1) (h:TrAt S w t ⟨t.kind,t.text,(some ⟨lb,lo,none⟩),t.leads.length,vlc,vka,t.kids.length,vkc⟩) (hs:Qcn t = true) (hw:Qdb t = true) (hke:t.kids.length = 0) :
  Calls Tryz.prog 105 #[.agg #[.int .i64 t.kind,.string t.text,.slice (some ⟨lb,lo,none⟩) t.leads.length vlc,.slice vka t.kids.length vkc]] w fun e w'=>e = .returned (.bool (ledT t)) ∧ Below w.heap.size w w':=by
 obtain ⟨hk0,hk1,hk2⟩:=Qec hs
 obtain ⟨htx,hly,hkw⟩:=Qcr hw
 have HT:=hQ h
 have HK2:=hQ hk2
 have HKW:=hQ hkw
 have HLY:=hQ hly
 have HKI:=hQ (show (t.kids.length:Int) ≤ 140737488355328 from by omega)
 have HIH:=hQ ih
 have HSZ:=hQ hN
 have HLE:=hQ True.intro
 have HKE:=hQ hke
 have HW0:=hQ ((xC w.heap.size w).alloc (xA _) (.cells #[.int .i64 t.kind,.string t.text,.slice (some ⟨lb,lo,none⟩) t.leads.length vlc,.slice vka t.kids.length vkc] 25))
 have HG0:=hQ (xH w (.cells #[.int .i64 t.kind,.string t.text,.slice (some ⟨lb,lo,none⟩) t.leads.length vlc,.slice vka t.kids.length vkc] 25))
 have HT0:=hQ (h.keep ((xC w.heap.size w).alloc (xA _) (.cells #[.int .i64 t.kind,.string t.text,.slice (some ⟨lb,lo,none⟩) t.leads.length vlc,.slice vka t.kids.length vkc] 25)))
 have HSE:=hQ (ledT_eq t)
 have hkk:(t.kids.length:Int) ≤ 140737488355328:=by omega
 have hll:(t.leads.length:Int) ≤ 140737488355328:=by omega
 clear h hs hw hk0 hk1 hk2 htx hly hkw ih hN hke
 go_enter Tryz.func105,Tryz.ntmps105
 go_wp2_with fail
 generalize w.alloc (.cells #[.int .i64 t.kind,.string t.text,.slice (some ⟨lb,lo,none⟩) t.leads.length vlc,.slice vka t.kids.length vkc] 25) = W0 at HW0 HG0 HT0 ⊢
 have f0:W0.cell? ⟨w.heap.size,0,none⟩ = some (.int .i64 t.kind):=Qab HG0.out 0 _ rfl
 have f2:W0.cell? ⟨w.heap.size,2,none⟩ = some (.slice (some ⟨lb,lo,none⟩) t.leads.length vlc):=Qab HG0.out 2 _ rfl
 have f3:W0.cell? ⟨w.heap.size,3,none⟩ = some (.slice vka t.kids.length vkc):=Qab HG0.out 3 _ rfl
 go_region_held3 (fun w'=>w'.cell? ⟨w.heap.size,0,none⟩ = some (.int .i64 t.kind) ∧ w'.cell? ⟨w.heap.size,2,none⟩ = some (.slice (some ⟨lb,lo,none⟩) t.leads.length vlc) ∧ w'.cell? ⟨w.heap.size,3,none⟩ = some (.slice vka t.kids.length vkc)) (go_keep)
  (first | (go_at_call 69;refine (leads_syn t.kind t.kids.length _ HKI.out).mono ?_;rintro e w1 ⟨rfl,hb1⟩;have HB1:=hQ (HW0.out.drew.trans (hb1.mono HW0.out.size));have HG1:=hQ ((hb1.block w.heap.size (Qaa HG0.out)).trans HG0.out);have HT1:=hQ (HT0.out.keep ((xC W0.heap.size W0).drew.trans hb1));clear f0 f2 f3 hb1;have f0:w1.cell? ⟨w.heap.size,0,none⟩ = some (.int .i64 t.kind):=Qab HG1.out 0 _ rfl;have f2:w1.cell? ⟨w.heap.size,2,none⟩ = some (.slice (some ⟨lb,lo,none⟩) t.leads.length vlc):=Qab HG1.out 2 _ rfl;have f3:w1.cell? ⟨w.heap.size,3,none⟩ = some (.slice vka t.kids.length vkc):=Qab HG1.out 3 _ rfl))
 cases hlq:((t.leads.length:Int) == leadsP t.kind t.kids.length)
 ·have hlq':((t.leads.length:Int) != leadsP t.kind t.kids.length) = true:=by simpa using hlq
  have HR:=hQ (show ledT t = false from by rw [HSE.out,hlq];rfl)
  go_wp2
  go_ret
  exact ⟨by rw [HR.out];rfl,HB1.out⟩
 ·have hlq':((t.leads.length:Int) != leadsP t.kind t.kids.length) = false:=by simpa using hlq
  have HR:=hQ (show ledT t = (trivL t.kind 0 t.leads && ledL t.kids) from by rw [HSE.out,hlq,Bool.true_and])
  clear hlq
  go_wp2_with fail
  rw [hlq']
  clear f0 f2 f3 hlq'
  go_loopg [21] t.leads.length (fun g u21 wr=>∃ i:Nat,u21 = .int .i64 i ∧ i + g = t.leads.length ∧ ledT t = (trivL t.kind i (t.leads.drop i) && ledL t.kids) ∧ wr = w1)
  case atStart=>exact ⟨0,rfl,by omega,HR.out,rfl⟩
  case round =>
   obtain ⟨i,rfl,hi,hsi,rfl⟩:=hrel
   have HI:=hQ hi
   have HSI:=hQ hsi
   clear hi hsi
   by_cases hil:i < t.leads.length
   ·obtain ⟨y,hy⟩:∃ y,t.leads[i]? = some y:=⟨_,xF hil⟩
    have cy:=HT1.out.lat rfl hy
    have HYS:=hQ (Nat.le_of_lt (HLY.out y (List.mem_of_getElem? hy)))
    have HAT:=hQ (HSI.out.trans (by rw [trivL_at t.kind t.leads i y hy]))
    have HIL:=hQ hil
    have hi0:(0:Int) ≤ (i:Int):=by omega
    have hi1:(i:Int) < (t.leads.length:Int):=by omega
    have hi2:(i:Int) + 1 ≤ 140737488355328:=by omega
    have f0:wr.cell? ⟨w.heap.size,0,none⟩ = some (.int .i64 t.kind):=Qab HG1.out 0 _ rfl
    clear hy
    cases hkd:(t.kind == 1)
    ·have hbb:(t.kind == 1 && (i:Int) == 2) = false:=by rw [hkd];rfl
     cases hty:Qfp y (t.kind == 1 && (i:Int) == 2)
     ·have HRR:=hQ (show ledT t = false from by rw [HAT.out,hty];rfl)
      rw [hbb] at hty
      go_wp2_with (go_at_call 150;refine (trivia_any y _ _ HYS.out).mono ?_;rintro e w2 ⟨rfl,rfl⟩)
      go_ret
      exact ⟨by rw [HRR.out];rfl,HB1.out⟩
     ·have HRR:=hQ (show ledT t = (trivL t.kind (i + 1) (t.leads.drop (i + 1)) && ledL t.kids) from by rw [HAT.out,hty,Bool.true_and])
      rw [hbb] at hty
      go_wp2_with (go_at_call 150;refine (trivia_any y _ _ HYS.out).mono ?_;rintro e w2 ⟨rfl,rfl⟩)
      go_roundg (gk - 1)
      case measure=>have:=HI.out;have:=HIL.out;omega
      case rel=>exact ⟨i + 1,by go_num,by have:=HI.out;have:=HIL.out;omega,HRR.out,rfl⟩
    ·have hbb:(t.kind == 1 && (i:Int) == 2) = ((i:Int) == 2):=by rw [hkd,Bool.true_and]
     cases hty:Qfp y (t.kind == 1 && (i:Int) == 2)
     ·have HRR:=hQ (show ledT t = false from by rw [HAT.out,hty];rfl)
      rw [hbb] at hty
      go_wp2_with (go_at_call 150;refine (trivia_any y _ _ HYS.out).mono ?_;rintro e w2 ⟨rfl,rfl⟩)
      go_ret
      exact ⟨by rw [HRR.out];rfl,HB1.out⟩
     ·have HRR:=hQ (show ledT t = (trivL t.kind (i + 1) (t.leads.drop (i + 1)) && ledL t.kids) from by rw [HAT.out,hty,Bool.true_and])
      rw [hbb] at hty
      go_wp2_with (go_at_call 150;refine (trivia_any y _ _ HYS.out).mono ?_;rintro e w2 ⟨rfl,rfl⟩)
      go_roundg (gk - 1)
      case measure=>have:=HI.out;have:=HIL.out;omega
      case rel=>exact ⟨i + 1,by go_num,by have:=HI.out;have:=HIL.out;omega,HRR.out,rfl⟩
   ·have HKR:=hQ (show ledT t = ledL t.kids from by rw [HSI.out,trivL_end t.kind t.leads i (by omega),Bool.true_and])
    have f3:wr.cell? ⟨w.heap.size,3,none⟩ = some (.slice vka t.kids.length vkc):=Qab HG1.out 3 _ rfl
    go_wp2_with fail
    clear f3
    go_loopg [41] t.kids.length (fun g u41 wi=>∃ j:Nat,u41 = .int .i64 j ∧ j + g = t.kids.length ∧ ledT t = ledL (t.kids.drop j) ∧ Below wr.heap.size wr wi)
    case atStart=>exact ⟨0,rfl,by omega,HKR.out,xC _ _⟩
    case round =>
     obtain ⟨j,rfl,hj,hsj,hb⟩:=hrel
     have HJ:=hQ hj
     have HSJ:=hQ hsj
     have HB:=hQ hb
     clear hj hsj hb
     have hlt:¬ j < t.kids.length:=by have:=HKE.out;omega
     have HRR:=hQ (HSJ.out.trans (ledL_end t.kids j (by omega)))
     go_wp2
     go_ret
     exact ⟨by rw [HRR.out];rfl,HB1.out.trans (HB.out.mono HB1.out.size)⟩
theorem led_ff {N:Nat} (ih:∀ (S:Nat → Prop) (t:Tr) (v:TV) (w:World),SizeOf.sizeOf t ≤ N → TrAt S w t v → Qcn t = true → Qdb t = true →
   Calls Tryz.prog 105 #[.agg #[.int .i64 v.kind,.string v.text,.slice v.la v.ll v.lc,.slice v.ka v.kl v.kc]] w fun e w'=>e = .returned (.bool (ledT t)) ∧ Below w.heap.size w w')
  (S:Nat → Prop) (t:Tr) (lb lo:Nat) (vlc:Nat) (kb ko:Nat) (vkc:Nat) (w:World) (hN:SizeOf.sizeOf t ≤ N + 1) (h:TrAt S w t ⟨t.kind,t.text,(some ⟨lb,lo,none⟩),t.leads.length,vlc,(some ⟨kb,ko,none⟩),t.kids.length,vkc⟩) (hs:Qcn t = true) (hw:Qdb t = true) :
  Calls Tryz.prog 105 #[.agg #[.int .i64 t.kind,.string t.text,.slice (some ⟨lb,lo,none⟩) t.leads.length vlc,.slice (some ⟨kb,ko,none⟩) t.kids.length vkc]] w fun e w'=>e = .returned (.bool (ledT t)) ∧ Below w.heap.size w w':=by
 obtain ⟨hk0,hk1,hk2⟩:=Qec hs
 obtain ⟨htx,hly,hkw⟩:=Qcr hw
 have HT:=hQ h
 have HK2:=hQ hk2
 have HKW:=hQ hkw
 have HLY:=hQ hly
 have HKI:=hQ (show (t.kids.length:Int) ≤ 140737488355328 from by omega)
 have HIH:=hQ ih
 have HSZ:=hQ hN
 have HLE:=hQ True.intro
 have HKE:=hQ True.intro
 have HW0:=hQ ((xC w.heap.size w).alloc (xA _) (.cells #[.int .i64 t.kind,.string t.text,.slice (some ⟨lb,lo,none⟩) t.leads.length vlc,.slice (some ⟨kb,ko,none⟩) t.kids.length vkc] 25))
 have HG0:=hQ (xH w (.cells #[.int .i64 t.kind,.string t.text,.slice (some ⟨lb,lo,none⟩) t.leads.length vlc,.slice (some ⟨kb,ko,none⟩) t.kids.length vkc] 25))
 have HT0:=hQ (h.keep ((xC w.heap.size w).alloc (xA _) (.cells #[.int .i64 t.kind,.string t.text,.slice (some ⟨lb,lo,none⟩) t.leads.length vlc,.slice (some ⟨kb,ko,none⟩) t.kids.length vkc] 25)))
 have HSE:=hQ (ledT_eq t)
 have hkk:(t.kids.length:Int) ≤ 140737488355328:=by omega
 have hll:(t.leads.length:Int) ≤ 140737488355328:=by omega
 clear h hs hw hk0 hk1 hk2 htx hly hkw ih hN
 go_enter Tryz.func105,Tryz.ntmps105
 go_wp2_with fail
 generalize w.alloc (.cells #[.int .i64 t.kind,.string t.text,.slice (some ⟨lb,lo,none⟩) t.leads.length vlc,.slice (some ⟨kb,ko,none⟩) t.kids.length vkc] 25) = W0 at HW0 HG0 HT0 ⊢
 have f0:W0.cell? ⟨w.heap.size,0,none⟩ = some (.int .i64 t.kind):=Qab HG0.out 0 _ rfl
 have f2:W0.cell? ⟨w.heap.size,2,none⟩ = some (.slice (some ⟨lb,lo,none⟩) t.leads.length vlc):=Qab HG0.out 2 _ rfl
 have f3:W0.cell? ⟨w.heap.size,3,none⟩ = some (.slice (some ⟨kb,ko,none⟩) t.kids.length vkc):=Qab HG0.out 3 _ rfl
 go_region_held3 (fun w'=>w'.cell? ⟨w.heap.size,0,none⟩ = some (.int .i64 t.kind) ∧ w'.cell? ⟨w.heap.size,2,none⟩ = some (.slice (some ⟨lb,lo,none⟩) t.leads.length vlc) ∧ w'.cell? ⟨w.heap.size,3,none⟩ = some (.slice (some ⟨kb,ko,none⟩) t.kids.length vkc)) (go_keep)
  (first | (go_at_call 69;refine (leads_syn t.kind t.kids.length _ HKI.out).mono ?_;rintro e w1 ⟨rfl,hb1⟩;have HB1:=hQ (HW0.out.drew.trans (hb1.mono HW0.out.size));have HG1:=hQ ((hb1.block w.heap.size (Qaa HG0.out)).trans HG0.out);have HT1:=hQ (HT0.out.keep ((xC W0.heap.size W0).drew.trans hb1));clear f0 f2 f3 hb1;have f0:w1.cell? ⟨w.heap.size,0,none⟩ = some (.int .i64 t.kind):=Qab HG1.out 0 _ rfl;have f2:w1.cell? ⟨w.heap.size,2,none⟩ = some (.slice (some ⟨lb,lo,none⟩) t.leads.length vlc):=Qab HG1.out 2 _ rfl;have f3:w1.cell? ⟨w.heap.size,3,none⟩ = some (.slice (some ⟨kb,ko,none⟩) t.kids.length vkc):=Qab HG1.out 3 _ rfl))
 cases hlq:((t.leads.length:Int) == leadsP t.kind t.kids.length)
 ·have hlq':((t.leads.length:Int) != leadsP t.kind t.kids.length) = true:=by simpa using hlq
  have HR:=hQ (show ledT t = false from by rw [HSE.out,hlq];rfl)
  go_wp2
  go_ret
  exact ⟨by rw [HR.out];rfl,HB1.out⟩
 ·have hlq':((t.leads.length:Int) != leadsP t.kind t.kids.length) = false:=by simpa using hlq
  have HR:=hQ (show ledT t = (trivL t.kind 0 t.leads && ledL t.kids) from by rw [HSE.out,hlq,Bool.true_and])
  clear hlq
  go_wp2_with fail
  rw [hlq']
  clear f0 f2 f3 hlq'
  go_loopg [21] t.leads.length (fun g u21 wr=>∃ i:Nat,u21 = .int .i64 i ∧ i + g = t.leads.length ∧ ledT t = (trivL t.kind i (t.leads.drop i) && ledL t.kids) ∧ wr = w1)
  case atStart=>exact ⟨0,rfl,by omega,HR.out,rfl⟩
  case round =>
   obtain ⟨i,rfl,hi,hsi,rfl⟩:=hrel
   have HI:=hQ hi
   have HSI:=hQ hsi
   clear hi hsi
   by_cases hil:i < t.leads.length
   ·obtain ⟨y,hy⟩:∃ y,t.leads[i]? = some y:=⟨_,xF hil⟩
    have cy:=HT1.out.lat rfl hy
    have HYS:=hQ (Nat.le_of_lt (HLY.out y (List.mem_of_getElem? hy)))
    have HAT:=hQ (HSI.out.trans (by rw [trivL_at t.kind t.leads i y hy]))
    have HIL:=hQ hil
    have hi0:(0:Int) ≤ (i:Int):=by omega
    have hi1:(i:Int) < (t.leads.length:Int):=by omega
    have hi2:(i:Int) + 1 ≤ 140737488355328:=by omega
    have f0:wr.cell? ⟨w.heap.size,0,none⟩ = some (.int .i64 t.kind):=Qab HG1.out 0 _ rfl
    clear hy
    cases hkd:(t.kind == 1)
    ·have hbb:(t.kind == 1 && (i:Int) == 2) = false:=by rw [hkd];rfl
     cases hty:Qfp y (t.kind == 1 && (i:Int) == 2)
     ·have HRR:=hQ (show ledT t = false from by rw [HAT.out,hty];rfl)
      rw [hbb] at hty
      go_wp2_with (go_at_call 150;refine (trivia_any y _ _ HYS.out).mono ?_;rintro e w2 ⟨rfl,rfl⟩)
      go_ret
      exact ⟨by rw [HRR.out];rfl,HB1.out⟩
     ·have HRR:=hQ (show ledT t = (trivL t.kind (i + 1) (t.leads.drop (i + 1)) && ledL t.kids) from by rw [HAT.out,hty,Bool.true_and])
      rw [hbb] at hty
      go_wp2_with (go_at_call 150;refine (trivia_any y _ _ HYS.out).mono ?_;rintro e w2 ⟨rfl,rfl⟩)
      go_roundg (gk - 1)
      case measure=>have:=HI.out;have:=HIL.out;omega
      case rel=>exact ⟨i + 1,by go_num,by have:=HI.out;have:=HIL.out;omega,HRR.out,rfl⟩
    ·have hbb:(t.kind == 1 && (i:Int) == 2) = ((i:Int) == 2):=by rw [hkd,Bool.true_and]
     cases hty:Qfp y (t.kind == 1 && (i:Int) == 2)
     ·have HRR:=hQ (show ledT t = false from by rw [HAT.out,hty];rfl)
      rw [hbb] at hty
      go_wp2_with (go_at_call 150;refine (trivia_any y _ _ HYS.out).mono ?_;rintro e w2 ⟨rfl,rfl⟩)
      go_ret
      exact ⟨by rw [HRR.out];rfl,HB1.out⟩
     ·have HRR:=hQ (show ledT t = (trivL t.kind (i + 1) (t.leads.drop (i + 1)) && ledL t.kids) from by rw [HAT.out,hty,Bool.true_and])
      rw [hbb] at hty
      go_wp2_with (go_at_call 150;refine (trivia_any y _ _ HYS.out).mono ?_;rintro e w2 ⟨rfl,rfl⟩)
      go_roundg (gk - 1)
      case measure=>have:=HI.out;have:=HIL.out;omega
      case rel=>exact ⟨i + 1,by go_num,by have:=HI.out;have:=HIL.out;omega,HRR.out,rfl⟩
   ·have HKR:=hQ (show ledT t = ledL t.kids from by rw [HSI.out,trivL_end t.kind t.leads i (by omega),Bool.true_and])
    have f3:wr.cell? ⟨w.heap.size,3,none⟩ = some (.slice (some ⟨kb,ko,none⟩) t.kids.length vkc):=Qab HG1.out 3 _ rfl
    go_wp2_with fail
    clear f3
    go_loopg [41] t.kids.length (fun g u41 wi=>∃ j:Nat,u41 = .int .i64 j ∧ j + g = t.kids.length ∧ ledT t = ledL (t.kids.drop j) ∧ Below wr.heap.size wr wi)
    case atStart=>exact ⟨0,rfl,by omega,HKR.out,xC _ _⟩
    case round =>
     obtain ⟨j,rfl,hj,hsj,hb⟩:=hrel
     have HJ:=hQ hj
     have HSJ:=hQ hsj
     have HB:=hQ hb
     clear hj hsj hb
     by_cases hlt:j < t.kids.length
     ·obtain ⟨k,hk⟩:∃ k,t.kids[j]? = some k:=⟨_,xF hlt⟩
      obtain ⟨u,c0,c1,c2,c3,hu⟩:=(HT1.out.keep HB.out).at rfl hk
      have HU:=hQ hu
      have HSK:=hQ (HK2.out j k hk)
      have HWK:=hQ (HKW.out j k hk)
      have HZK:=hQ (show SizeOf.sizeOf k ≤ N from by have:=kid_size hk;have:=HSZ.out;omega)
      have HLT:=hQ hlt
      have HAT:=hQ (HSJ.out.trans (ledL_at t.kids j k hk))
      have hj0:(0:Int) ≤ (j:Int):=by omega
      have hj1:(j:Int) < (t.kids.length:Int):=by omega
      have hj2:(j:Int) + 1 ≤ 140737488355328:=by omega
      clear hk hu
      cases hwk:ledT k
      ·have HRR:=hQ (show ledT t = false from by rw [HAT.out,hwk];rfl)
       go_wp2_with (go_at_call 105;refine (HIH.out S k u _ HZK.out (HU.out.keep ((xC _ _).alloc (xA _) _)) HSK.out HWK.out).mono ?_;rintro e w2 ⟨rfl,hb2⟩;have HB2:=hQ ((HB.out.alloc HB.out.size (.cells #[.int .i64 u.kind,.string u.text,.slice u.la u.ll u.lc,.slice u.ka u.kl u.kc] 25)).trans (hb2.mono (by have:=HB.out.size;simp;omega)));clear hb2)
       go_ret
       exact ⟨by rw [HRR.out];rfl,HB1.out.trans (HB2.out.mono HB1.out.size)⟩
      ·have HRR:=hQ (show ledT t = ledL (t.kids.drop (j + 1)) from by rw [HAT.out,hwk,Bool.true_and])
       go_wp2_with (go_at_call 105;refine (HIH.out S k u _ HZK.out (HU.out.keep ((xC _ _).alloc (xA _) _)) HSK.out HWK.out).mono ?_;rintro e w2 ⟨rfl,hb2⟩;have HB2:=hQ ((HB.out.alloc HB.out.size (.cells #[.int .i64 u.kind,.string u.text,.slice u.la u.ll u.lc,.slice u.ka u.kl u.kc] 25)).trans (hb2.mono (by have:=HB.out.size;simp;omega)));clear hb2)
       go_roundg (gk - 1)
       case measure=>have:=HJ.out;have:=HLT.out;omega
       case rel=>exact ⟨j + 1,by go_num,by have:=HJ.out;have:=HLT.out;omega,HRR.out,HB2.out⟩
     ·have HRR:=hQ (HSJ.out.trans (ledL_end t.kids j (by omega)))
      go_wp2
      go_ret
      exact ⟨by rw [HRR.out];rfl,HB1.out.trans (HB.out.mono HB1.out.size)⟩
theorem led_syn (N:Nat):∀ (S:Nat → Prop) (t:Tr) (v:TV) (w:World),SizeOf.sizeOf t ≤ N → TrAt S w t v → Qcn t = true → Qdb t = true →
   Calls Tryz.prog 105 #[.agg #[.int .i64 v.kind,.string v.text,.slice v.la v.ll v.lc,.slice v.ka v.kl v.kc]] w fun e w'=>e = .returned (.bool (ledT t)) ∧ Below w.heap.size w w':=by
 induction N with
 | zero =>
  intro S t v w hN
  exfalso
  cases t with
  | mk kd tx ls ks=>rw [Tr.mk.sizeOf_spec] at hN;omega
 | succ N ih =>
  intro S t v w hN h hs hw
  obtain ⟨hkl,hll,hkd,htx⟩:=h.kl
  have hka:=h.addr
  have hla:=h.laddr
  obtain ⟨vk,vx,vla,vll,vlc,vka,vkl,vkc⟩:=v
  simp only at hkl hll hkd htx hka hla
  subst hkl hll hkd htx
  rcases hla with hl | ⟨lb,lo,rfl⟩
  ·rcases hka with hk | ⟨kb,ko,rfl⟩
   ·exact led_ee ih S t vla vlc vka vkc w hN h hs hw hl hk
   ·exact led_ef ih S t vla vlc kb ko vkc w hN h hs hw hl
  ·rcases hka with hk | ⟨kb,ko,rfl⟩
   ·exact led_fe ih S t lb lo vlc vka vkc w hN h hs hw hk
   ·exact led_ff ih S t lb lo vlc kb ko vkc w hN h hs hw
theorem printable_syn (S:Nat → Prop) (t:Tr) (v:TV) (w:World) (h:TrAt S w t v) (hs:Qcn t = true) (hw:Qdb t = true):Calls Tryz.prog 72 #[.agg #[.int .i64 v.kind,.string v.text,.slice v.la v.ll v.lc,.slice v.ka v.kl v.kc]] w fun e w'=>e = .returned (.bool (Qao t && ledT t)) ∧ Below w.heap.size w w':=by
 have HW0:=hQ ((xC w.heap.size w).alloc (xA _) (.cells #[.int .i64 v.kind,.string v.text,.slice v.la v.ll v.lc,.slice v.ka v.kl v.kc] 25))
 have HG0:=hQ (xH w (.cells #[.int .i64 v.kind,.string v.text,.slice v.la v.ll v.lc,.slice v.ka v.kl v.kc] 25))
 have HT:=hQ h
 have HS:=hQ hs
 have HW:=hQ hw
 clear h hs hw
 cases hsh:Qao t
 ·go_enter Tryz.func72,Tryz.ntmps72
  go_wp2_with fail
  go_at_call 83
  refine (shaped_syn _ S t v _ (xA _) (HT.out.keep HW0.out) HS.out HW.out).mono ?_
  rw [hsh]
  rintro e w1 ⟨rfl,hb⟩
  have HB:=hQ (HW0.out.trans (hb.mono HW0.out.size))
  clear hb
  go_wp2
  go_ret
  exact ⟨rfl,HB.out⟩
 ·go_enter Tryz.func72,Tryz.ntmps72
  go_wp2_with fail
  go_at_call 83
  refine (shaped_syn _ S t v _ (xA _) (HT.out.keep HW0.out) HS.out HW.out).mono ?_
  rw [hsh]
  rintro e w1 ⟨rfl,hb⟩
  have HB:=hQ (HW0.out.trans (hb.mono HW0.out.size))
  have HG1:=hQ ((hb.block w.heap.size (by simp)).trans HG0.out)
  clear hb
  have k0:w1.cell? ⟨w.heap.size,0,none⟩ = some (.int .i64 v.kind):=Qab HG1.out 0 _ rfl
  have k1:w1.cell? ⟨w.heap.size,1,none⟩ = some (.string v.text):=Qab HG1.out 1 _ rfl
  have k2:w1.cell? ⟨w.heap.size,2,none⟩ = some (.slice v.la v.ll v.lc):=Qab HG1.out 2 _ rfl
  have k3:w1.cell? ⟨w.heap.size,3,none⟩ = some (.slice v.ka v.kl v.kc):=Qab HG1.out 3 _ rfl
  go_wp2_with fail
  go_at_call 105
  refine (led_syn _ S t v _ (xA _) (HT.out.keep HB.out) HS.out HW.out).mono ?_
  rintro e w2 ⟨rfl,hb2⟩
  have HB2:=hQ (HB.out.trans (hb2.mono HB.out.size))
  clear hb2 k0 k1 k2 k3
  go_wp2
  go_ret
  exact ⟨rfl,HB2.out⟩
end Go.Proofs.YtnnfdbmanamfdaaGreat
