/- Part 28: The contracts of program of package link and of Program of its reference. The contracts of Lookup of package link and of its reference: they answer alike. -/
import Derived.Test.YtnnfdbmanamfdaaGreatLw1
import Derived.Test.YtnnfdbmanamfdaaGreatLw21
import Derived.Test.YtnnfdbmanamfdaaGreatLw16
import Derived.Test.YtnnfdbmanamfdaaGreatLw27
set_option maxRecDepth 100000
set_option maxHeartbeats 4000000
namespace Go.Proofs.YtnnfdbmanamfdaaGreat
open Go.RowKit
def progG (ps:List Tr):Bool:=ps.all fun t=>decide (t.kind = 1) && Qao t
def ProgTo (ps:List Tr) (k:Nat):Prop:=∀ (j:Nat) (t:Tr),j < k → ps[j]? = some t → t.kind = 1 ∧ Qao t = true
theorem prog_more {ps:List Tr} {k:Nat} {t:Tr} (h:ProgTo ps k) (ht:ps[k]? = some t) (hk:t.kind = 1) (hs:Qao t = true):ProgTo ps (k + 1):=fun j u hj hu=>by
 by_cases e:j = k
 ·subst e
  rw [ht] at hu
  injection hu with hu
  rw [← hu]
  exact ⟨hk,hs⟩
 ·exact h j u (by omega) hu
theorem prog_yes {ps:List Tr} (h:ProgTo ps ps.length):progG ps = true:=by
 unfold progG
 rw [List.all_eq_true]
 intro t ht
 obtain ⟨j,hj,he⟩:=List.getElem_of_mem ht
 have:=h j t hj (by rw [xF hj,he])
 simp [this.1,this.2]
theorem prog_not {ps:List Tr} {k:Nat} {t:Tr} (ht:ps[k]? = some t) (h:¬ (t.kind = 1 ∧ Qao t = true)):progG ps = false:=by
 cases e:progG ps with
 | false=>rfl
 | true =>
  unfold progG at e
  rw [List.all_eq_true] at e
  have:=e t (List.mem_of_getElem? ht)
  simp at this
  exact absurd this h
theorem program_lnk (S:Nat → Prop) (A:Option Addr) (c:Nat) (ps:List Tr) (w:World) (hp:TrAt S w (Qbx ps) ⟨0,⟨#[]⟩,none,0,0,A,ps.length,c⟩) (hf:Qcn (Qbx ps) = true) (hw:Qdb (Qbx ps) = true) :
  Calls Tryz.prog 64 #[.slice A ps.length c] w fun e w'=>e = .returned (.bool (progG ps)) ∧ Below w.heap.size w w':=by
 have HP:=hQ hp
 have HF:=hQ (Qec hf).2.2
 have HWD:=hQ (Qcr hw).2.2
 have hl:ps.length ≤ 140737488355328:=(Qec hf).2.1
 clear hp hf hw
 go_enter Tryz.func64,Tryz.ntmps64
 go_wp2
 go_loopw [7] (fun i wr=>∃ k:Nat,i = .int .i64 k ∧ k ≤ ps.length ∧ Hid (ProgTo ps k) ∧ Below w.heap.size w wr) (fun i _=>ps.length - (intOf i).toNat)
 case atStart=>exact ⟨0,rfl,Nat.zero_le _,hQ fun j t hj=>absurd hj (by omega),xC _ _⟩
 case round =>
  obtain ⟨k,rfl,hk,hn,hb⟩:=hrel
  have HN:=hn
  have HBR:=hQ hb
  clear hn hb
  by_cases hlt:k < ps.length
  ·obtain ⟨t,ht⟩:∃ t,ps[k]? = some t:=⟨_,xF hlt⟩
   obtain ⟨b,off,hka⟩:∃ b off,A = some ⟨b,off,none⟩:=HP.out.addr.resolve_left (by show ¬ ps.length = 0;omega)
   subst hka
   obtain ⟨u,c0,c1,c2,c3,hu⟩:=(HP.out.keep HBR.out).at rfl (show (Qbx ps).kids[k]? = some t from ht)
   have HU:=hQ hu
   have HTX:=hQ hu.kl.2.2.1
   have HK:=hQ ht
   have cl:=xK wr _ c0
   have hk0:(0:Int) ≤ (k:Int):=by omega
   have hk1:(k:Int) < (ps.length:Int):=by omega
   have hk2:(k:Int) + 1 ≤ 1900000000000001:=by omega
   have HA:=hQ ((xC wr.heap.size wr).alloc (xA _) (trO u))
   have HC:=hQ (shaped_syn _ S t u (wr.alloc (trO u)) (xA _) (HU.out.keep HA.out) (HF.out k t HK.out) (HWD.out k t HK.out))
   clear hu ht
   obtain ⟨vk,vx,vla,vll,vlc,vka,vkl,vkc⟩:=u
   by_cases hx:vk = 1
   ·subst hx
    have HX:=hQ (show t.kind = 1 from HTX.out.symm)
    by_cases hs:Qao t = true
    ·have HS:=hQ hs
     rw [hs] at HC
     clear hs
     go_wp2_with (go_at_call 83;refine HC.out.mono ?_;rintro e w1 ⟨rfl,hb⟩;have HB1:=hQ (HA.out.trans (hb.mono HA.out.size));clear hb)
     go_roundw
     case measure=>first | (simp [intOf];done) | (simp [intOf];omega)
     case rel=>exact ⟨k + 1,by go_num,by omega,hQ (prog_more HN.out HK.out HX.out HS.out),HBR.out.trans (HB1.out.mono HBR.out.size)⟩
    ·have hs':Qao t = false:=by simpa using hs
     have HV:=hQ (prog_not HK.out (fun h=>hs h.2))
     rw [hs'] at HC
     clear hs hs'
     go_wp2_with (go_at_call 83;refine HC.out.mono ?_;rintro e w1 ⟨rfl,hb⟩;have HB1:=hQ (HA.out.trans (hb.mono HA.out.size));clear hb)
     refine bodyPost_ret (v:=.bool false) (by simp [results,Tryz.results64,go_sem, *]) rfl ?_
     rw [HV.out]
     exact ⟨rfl,HBR.out.trans (HB1.out.mono HBR.out.size)⟩
   ·have q1:=Qcf hx
    have HV:=hQ (prog_not HK.out (fun h=>hx (HTX.out.trans h.1)))
    go_wp2
    refine bodyPost_ret (v:=.bool false) (by simp [results,Tryz.results64,go_sem, *]) rfl ?_
    rw [HV.out]
    exact ⟨rfl,HBR.out.trans (HA.out.mono HBR.out.size)⟩
  ·obtain rfl:k = ps.length:=by omega
   have HV:=hQ (prog_yes HN.out)
   go_wp2
   try rw [Exit.noGoto_ret]
   first | go_ret3 | go_ret
   rw [HV.out]
   exact ⟨rfl,HBR.out⟩
theorem program_r06 (S:Nat → Prop) (A:Option Addr) (c:Nat) (ps:List Tr) (w:World) (hp:TrAt S w (Qbx ps) ⟨0,⟨#[]⟩,none,0,0,A,ps.length,c⟩) (hf:Qcn (Qbx ps) = true) (hz:∀ t ∈ ps,Qan t ≤ 1000) (hw:Qdb (Qbx ps) = true) :
  Calls Tryz.prog 66 #[.slice A ps.length c] w fun e w'=>e = .returned (.bool (progG ps)) ∧ Below w.heap.size w w':=by
 have HP:=hQ hp
 have HF:=hQ (Qec hf).2.2
 have HWD:=hQ (Qcr hw).2.2
 have hl:ps.length ≤ 140737488355328:=(Qec hf).2.1
 have HZ:=hQ hz
 clear hp hf hw hz
 go_enter Tryz.func66,Tryz.ntmps66
 go_wp2
 go_loopw [3] (fun i wr=>∃ k:Nat,i = .int .i64 k ∧ k ≤ ps.length ∧ Hid (ProgTo ps k) ∧ Below w.heap.size w wr) (fun i _=>ps.length - (intOf i).toNat)
 case atStart=>exact ⟨0,rfl,Nat.zero_le _,hQ fun j t hj=>absurd hj (by omega),xC _ _⟩
 case round =>
  obtain ⟨k,rfl,hk,hn,hb⟩:=hrel
  have HN:=hn
  have HBR:=hQ hb
  clear hn hb
  by_cases hlt:k < ps.length
  ·obtain ⟨t,ht⟩:∃ t,ps[k]? = some t:=⟨_,xF hlt⟩
   obtain ⟨b,off,hka⟩:∃ b off,A = some ⟨b,off,none⟩:=HP.out.addr.resolve_left (by show ¬ ps.length = 0;omega)
   subst hka
   obtain ⟨u,c0,c1,c2,c3,hu⟩:=(HP.out.keep HBR.out).at rfl (show (Qbx ps).kids[k]? = some t from ht)
   have HU:=hQ hu
   have HTX:=hQ hu.kl.2.2.1
   have HK:=hQ ht
   have cl:=xK wr _ c0
   have hk0:(0:Int) ≤ (k:Int):=by omega
   have hk1:(k:Int) < (ps.length:Int):=by omega
   have hk2:(k:Int) + 1 ≤ 1900000000000001:=by omega
   have HE:=hQ (Qfb _ t (xA _) (HZ.out t (List.mem_of_getElem? ht)))
   have HC:=hQ (fun w' (hb:Below wr.heap.size wr w')=>Qgc _ S t u w' (xA _) (HU.out.keep hb) (HZ.out t (List.mem_of_getElem? ht)) (HWD.out k t HK.out))
   clear hu ht
   obtain ⟨vk,vx,vla,vll,vlc,vka,vkl,vkc⟩:=u
   by_cases hx:vk = 1
   ·subst hx
    have HX:=hQ (show t.kind = 1 from HTX.out.symm)
    by_cases hs:Qao t = true
    ·have HS:=hQ hs
     rw [HE.out,hs] at HC
     clear hs
     go_wp2_with (go_at_call 82;refine (HC.out _ (xC _ _)).mono ?_;rintro e w1 ⟨rfl,hb⟩;have HB1:=hQ hb;clear hb)
     go_roundw
     case measure=>first | (simp [intOf];done) | (simp [intOf];omega)
     case rel=>exact ⟨k + 1,by go_num,by omega,hQ (prog_more HN.out HK.out HX.out HS.out),HBR.out.trans (HB1.out.mono HBR.out.size)⟩
    ·have hs':Qao t = false:=by simpa using hs
     have HV:=hQ (prog_not HK.out (fun h=>hs h.2))
     rw [HE.out,hs'] at HC
     clear hs hs'
     go_wp2_with (go_at_call 82;refine (HC.out _ (xC _ _)).mono ?_;rintro e w1 ⟨rfl,hb⟩;have HB1:=hQ hb;clear hb)
     refine bodyPost_ret (v:=.bool false) (by simp [results,Tryz.results66,go_sem, *]) rfl ?_
     rw [HV.out]
     exact ⟨rfl,HBR.out.trans (HB1.out.mono HBR.out.size)⟩
   ·have q1:=Qcf hx
    have HV:=hQ (prog_not HK.out (fun h=>hx (HTX.out.trans h.1)))
    go_wp2
    refine bodyPost_ret (v:=.bool false) (by simp [results,Tryz.results66,go_sem, *]) rfl ?_
    rw [HV.out]
    exact ⟨rfl,HBR.out⟩
  ·obtain rfl:k = ps.length:=by omega
   have HV:=hQ (prog_yes HN.out)
   go_wp2
   try rw [Exit.noGoto_ret]
   first | go_ret3 | go_ret
   rw [HV.out]
   exact ⟨rfl,HBR.out⟩
def Qc1 (ps:List Tr) (m:Int) (s:ByteArray):Int × Int × Bool:=if progG ps = false ∨ m < 0 ∨ (ps.length:Int) ≤ m then (0,0,false) else Qb6 ps m.toNat s
theorem lookup_any (S:Nat → Prop) (A:Option Addr) (c:Nat) (ps:List Tr) (M:Nat) (s:ByteArray) (w:World) (hp:TrAt S w (Qbx ps) ⟨0,⟨#[]⟩,none,0,0,A,ps.length,c⟩) (hf:fitT (Qbx ps) = true) (hs:s.size ≤ maxLen) (_hM:M < ps.length) :
  Calls Tryz.prog 68 #[.slice A ps.length c,.int .i64 M,.string s] w fun e w'=>e = .returned (.tuple #[.int .i64 (Qb6 ps M s).1,.int .i64 (Qb6 ps M s).2.1,.bool (Qb6 ps M s).2.2]) ∧ Below w.heap.size w w':=by
 cases hd:(Qfx s).2.2 with
 | true=>exact lookup_dot S A c ps M M s w hp hf hs hd
 | false=>exact lookup_bare S A c ps M s w hp hf hs hd
theorem find_r06 (S:Nat → Prop) (A:Option Addr) (c:Nat) (ps:List Tr) (M:Nat) (s:ByteArray) (w:World) (hp:TrAt S w (Qbx ps) ⟨0,⟨#[]⟩,none,0,0,A,ps.length,c⟩) (hf:fitT (Qbx ps) = true) (hs:s.size ≤ maxLen) (hM:M < ps.length) :
  Calls Tryz.prog 67 #[.slice A ps.length c,.int .i64 M,.string s] w fun e w'=>e = .returned (.tuple #[.int .i64 (Qb6 ps M s).1,.int .i64 (Qb6 ps M s).2.1,.bool (Qb6 ps M s).2.2]) ∧ Below w.heap.size w w':=by
 cases hd:(Qfx s).2.2 with
 | true=>exact find_dot S A c ps M M s w hp hf hs hd
 | false=>exact find_bare S A c ps M s w hp hf hs hM hd
theorem lookup_lnk (S:Nat → Prop) (A:Option Addr) (c:Nat) (ps:List Tr) (m:Int) (s:ByteArray) (w:World) (hp:TrAt S w (Qbx ps) ⟨0,⟨#[]⟩,none,0,0,A,ps.length,c⟩) (hf:fitT (Qbx ps) = true) (hsm:Qcn (Qbx ps) = true) (hw:Qdb (Qbx ps) = true) (hs:s.size ≤ maxLen) :
  Calls Tryz.prog 36 #[.slice A ps.length c,.int .i64 m,.string s] w fun e w'=>e = .returned (.tuple #[.int .i64 (Qc1 ps m s).1,.int .i64 (Qc1 ps m s).2.1,.bool (Qc1 ps m s).2.2]) ∧ Below w.heap.size w w':=by
 have HC:=hQ (fun w' (hb:Below w.heap.size w w')=>program_lnk S A c ps w' (hp.keep hb) hsm hw)
 have HM:=hQ (fun (M:Nat) (hM:M < ps.length) w' (hb:Below w.heap.size w w')=>lookup_any S A c ps M s w' (hp.keep hb) hf hs hM)
 have hl:ps.length ≤ 1900000000000:=(Qco hf).2.1
 clear hp hf hsm hw hs
 cases hg:progG ps with
 | false =>
  have HV:=hQ (show Qc1 ps m s = (0,0,false) from by unfold Qc1;rw [hg];simp)
  rw [hg] at HC
  clear hg HM
  go_enter Tryz.func36,Tryz.ntmps36
  go_wp2_with (go_at_call 64;refine (HC.out _ (by first | exact xC _ _ | exact below_drewN (xC _ _) _)).mono ?_;rintro e w1 ⟨rfl,hb⟩;have HB1:=hQ hb;clear hb)
  refine bodyPost_ret (v:=.tuple #[.int .i64 0,.int .i64 0,.bool false]) (by simp [results,Tryz.results36,go_sem, *]) rfl ?_
  rw [HV.out]
  exact ⟨rfl,HB1.out⟩
 | true =>
  rw [hg] at HC
  by_cases h0:m < 0
  ·have HV:=hQ (show Qc1 ps m s = (0,0,false) from by unfold Qc1;rw [if_pos (.inr (.inl h0))])
   clear hg HM
   go_enter Tryz.func36,Tryz.ntmps36
   go_wp2_with (go_at_call 64;refine (HC.out _ (by first | exact xC _ _ | exact below_drewN (xC _ _) _)).mono ?_;rintro e w1 ⟨rfl,hb⟩;have HB1:=hQ hb;clear hb)
   refine bodyPost_ret (v:=.tuple #[.int .i64 0,.int .i64 0,.bool false]) (by simp [results,Tryz.results36,go_sem, *]) rfl ?_
   rw [HV.out]
   exact ⟨rfl,HB1.out⟩
  ·by_cases h1:(ps.length:Int) ≤ m
   ·have HV:=hQ (show Qc1 ps m s = (0,0,false) from by unfold Qc1;rw [if_pos (.inr (.inr h1))])
    clear hg HM
    go_enter Tryz.func36,Tryz.ntmps36
    go_wp2_with (go_at_call 64;refine (HC.out _ (by first | exact xC _ _ | exact below_drewN (xC _ _) _)).mono ?_;rintro e w1 ⟨rfl,hb⟩;have HB1:=hQ hb;clear hb)
    refine bodyPost_ret (v:=.tuple #[.int .i64 0,.int .i64 0,.bool false]) (by simp [results,Tryz.results36,go_sem, *]) rfl ?_
    rw [HV.out]
    exact ⟨rfl,HB1.out⟩
   ·obtain ⟨M,rfl⟩:∃ M:Nat,m = (M:Int):=⟨m.toNat,by omega⟩
    have HV:=hQ (show Qc1 ps M s = Qb6 ps M s from by unfold Qc1;rw [if_neg (by rw [hg];simp;omega)];rfl)
    have HI:=hQ (HM.out M (by omega))
    have hnn:(0:Int) ≤ (M:Int):=by omega
    have hlt:(M:Int) < (ps.length:Int):=by omega
    rw [HV.out]
    obtain ⟨r0,hr0⟩:∃ r,r = Qb6 ps M s:=⟨_,rfl⟩
    rw [← hr0] at HI ⊢
    clear hg HM hr0 HV
    go_enter Tryz.func36,Tryz.ntmps36
    go_wp2_with (first | (go_at_call 64;refine (HC.out _ (by first | exact xC _ _ | exact below_drewN (xC _ _) _)).mono ?_;rintro e w1 ⟨rfl,hb⟩;have HB1:=hQ hb;clear hb) | (go_at_call 68;refine (HI.out _ HB1.out).mono ?_;rintro e w2 ⟨rfl,hb⟩;have HB2:=hQ hb;clear hb))
    refine bodyPost_ret (v:=.tuple #[.int .i64 r0.1,.int .i64 r0.2.1,.bool r0.2.2]) (by simp [results,Tryz.results36,go_sem, *]) rfl ?_
    exact ⟨rfl,HB1.out.trans (HB2.out.mono HB1.out.size)⟩
theorem lookup_r06 (S:Nat → Prop) (A:Option Addr) (c:Nat) (ps:List Tr) (m:Int) (s:ByteArray) (w:World) (hp:TrAt S w (Qbx ps) ⟨0,⟨#[]⟩,none,0,0,A,ps.length,c⟩) (hf:fitT (Qbx ps) = true) (hsm:Qcn (Qbx ps) = true) (hz:∀ t ∈ ps,Qan t ≤ 1000) (hw:Qdb (Qbx ps) = true) (hs:s.size ≤ maxLen) :
  Calls Tryz.prog 37 #[.slice A ps.length c,.int .i64 m,.string s] w fun e w'=>e = .returned (.tuple #[.int .i64 (Qc1 ps m s).1,.int .i64 (Qc1 ps m s).2.1,.bool (Qc1 ps m s).2.2]) ∧ Below w.heap.size w w':=by
 have HC:=hQ (fun w' (hb:Below w.heap.size w w')=>program_r06 S A c ps w' (hp.keep hb) hsm hz hw)
 have HM:=hQ (fun (M:Nat) (hM:M < ps.length) w' (hb:Below w.heap.size w w')=>find_r06 S A c ps M s w' (hp.keep hb) hf hs hM)
 have hl:ps.length ≤ 1900000000000:=(Qco hf).2.1
 clear hp hf hsm hw hs hz
 cases hg:progG ps with
 | false =>
  have HV:=hQ (show Qc1 ps m s = (0,0,false) from by unfold Qc1;rw [hg];simp)
  rw [hg] at HC
  clear hg HM
  go_enter Tryz.func37,Tryz.ntmps37
  go_wp2_with (go_at_call 66;refine (HC.out _ (by first | exact xC _ _ | exact below_drewN (xC _ _) _)).mono ?_;rintro e w1 ⟨rfl,hb⟩;have HB1:=hQ hb;clear hb)
  refine bodyPost_ret (v:=.tuple #[.int .i64 0,.int .i64 0,.bool false]) (by simp [results,Tryz.results37,go_sem, *]) rfl ?_
  rw [HV.out]
  exact ⟨rfl,HB1.out⟩
 | true =>
  rw [hg] at HC
  by_cases h0:m < 0
  ·have HV:=hQ (show Qc1 ps m s = (0,0,false) from by unfold Qc1;rw [if_pos (.inr (.inl h0))])
   clear hg HM
   go_enter Tryz.func37,Tryz.ntmps37
   go_wp2_with (go_at_call 66;refine (HC.out _ (by first | exact xC _ _ | exact below_drewN (xC _ _) _)).mono ?_;rintro e w1 ⟨rfl,hb⟩;have HB1:=hQ hb;clear hb)
   refine bodyPost_ret (v:=.tuple #[.int .i64 0,.int .i64 0,.bool false]) (by simp [results,Tryz.results37,go_sem, *]) rfl ?_
   rw [HV.out]
   exact ⟨rfl,HB1.out⟩
  ·by_cases h1:(ps.length:Int) ≤ m
   ·have HV:=hQ (show Qc1 ps m s = (0,0,false) from by unfold Qc1;rw [if_pos (.inr (.inr h1))])
    clear hg HM
    go_enter Tryz.func37,Tryz.ntmps37
    go_wp2_with (go_at_call 66;refine (HC.out _ (by first | exact xC _ _ | exact below_drewN (xC _ _) _)).mono ?_;rintro e w1 ⟨rfl,hb⟩;have HB1:=hQ hb;clear hb)
    refine bodyPost_ret (v:=.tuple #[.int .i64 0,.int .i64 0,.bool false]) (by simp [results,Tryz.results37,go_sem, *]) rfl ?_
    rw [HV.out]
    exact ⟨rfl,HB1.out⟩
   ·obtain ⟨M,rfl⟩:∃ M:Nat,m = (M:Int):=⟨m.toNat,by omega⟩
    have HV:=hQ (show Qc1 ps M s = Qb6 ps M s from by unfold Qc1;rw [if_neg (by rw [hg];simp;omega)];rfl)
    have HI:=hQ (HM.out M (by omega))
    have hnn:(0:Int) ≤ (M:Int):=by omega
    have hlt:(M:Int) < (ps.length:Int):=by omega
    rw [HV.out]
    obtain ⟨r0,hr0⟩:∃ r,r = Qb6 ps M s:=⟨_,rfl⟩
    rw [← hr0] at HI ⊢
    clear hg HM hr0 HV
    go_enter Tryz.func37,Tryz.ntmps37
    go_wp2_with (first | (go_at_call 66;refine (HC.out _ (by first | exact xC _ _ | exact below_drewN (xC _ _) _)).mono ?_;rintro e w1 ⟨rfl,hb⟩;have HB1:=hQ hb;clear hb) | (go_at_call 67;refine (HI.out _ HB1.out).mono ?_;rintro e w2 ⟨rfl,hb⟩;have HB2:=hQ hb;clear hb))
    refine bodyPost_ret (v:=.tuple #[.int .i64 r0.1,.int .i64 r0.2.1,.bool r0.2.2]) (by simp [results,Tryz.results37,go_sem, *]) rfl ?_
    exact ⟨rfl,HB1.out.trans (HB2.out.mono HB1.out.size)⟩
end Go.Proofs.YtnnfdbmanamfdaaGreat
