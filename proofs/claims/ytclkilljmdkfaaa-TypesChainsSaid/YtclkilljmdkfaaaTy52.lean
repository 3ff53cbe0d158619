/- Part 52: The law TypesChains, walked. -/
import Derived.Test.YtclkilljmdkfaaaTy1
import Derived.Test.YtclkilljmdkfaaaTy51
set_option maxRecDepth 100000
set_option maxHeartbeats 4000000
namespace Go.Proofs.Ytclkilljmdkfaaa
open Go.RowKit Go.Shelf
theorem zero64:W64 0:=by unfold W64;decide
theorem root_one {S:Nat → Prop} {w:World} {t:Tr} {u:TV} {g:Nat} (ht:TrAt S w t u) (hg:w.heap[g]? = some (oneO u)) (hS:S g):TrAt S w (Qa3 [t]) ⟨0,⟨#[]⟩,none,0,0,some ⟨g,0,none⟩,1,1⟩:=by
 refine node_in (us:=[u]) 0 ⟨#[]⟩ rfl (fun j a v ha hv=>?_) hg hS 1 rfl
 match j,ha,hv with
 | 0,ha,hv =>
  injection ha with ha
  injection hv with hv
  subst ha hv
  exact ht
 | j + 1,ha,_=>simp at ha
theorem cnt_none (ls:List Bool):(k i:Nat) → ls.length ≤ i → cntC ls i k = 0
 | 0,_,_=>rfl
 | k + 1,i,h=>by
  rw [cntC_succ,cnt_none ls k (i + 1) (by omega)]
  unfold bitC
  rw [List.getElem?_eq_none h]
  rfl
def CnL (N:Nat) (ls:List Bool) (w5:World) (i:Value) (wr:World):Prop:=∃ (j:Nat) (v:TV),i = .int .i64 (j:Int) ∧ j ≤ N + 1 ∧ TrAt (fun b=>b < w5.heap.size) w5 (wrapT (cntC ls j (N + 1 - j)) (Qcs 5)) v ∧ wr.heap[w5.heap.size]? = some (trO v) ∧ Below w5.heap.size w5 wr
theorem chain_size1 {n:Nat} (ls:List Bool) (back:Int) (hn:n ≤ 20):Qah [Qal n ls back] ≤ 61:=by
 rw [Qah,Qah]
 have:=size_chain ls back hn
 omega
theorem chains_walk (a0:Int) (A1:Option Addr) (cap1:Nat) (ls:List Bool) (w:World) (ha:BoolsAt w A1 ls) :
  Calls Try.prog 3 #[.int .i64 a0,.slice A1 ls.length cap1] w fun e w'=>e = .returned (.bool true) ∧ Below w.heap.size w w':=by
 have hbd:=modM_bd a0 (m:=20) (by decide)
 obtain ⟨N,hN⟩:∃ N:Nat,(N:Int) = modM a0 20:=⟨(modM a0 20).toNat,by omega⟩
 have hN20:N < 20:=by omega
 have HM:=hQ hN
 have HA:=hQ ha
 have HC:=hQ (show Calls Try.prog 7 #[.int .i64 (1 + (N:Int)),.slice A1 ls.length cap1,.int .i64 (-1)] w fun e w'=>∃ u:TV,e = .returned (.agg #[.int .i64 u.kind,.string u.text,.slice u.la u.ll u.lc,.slice u.ka u.kl u.kc]) ∧ TrAt (fun b=>b < w'.heap.size) w' (Qal (N + 1) ls (-1)) u ∧ Below w.heap.size w w' from by
  have h:=chain_any A1 cap1 (N + 1) ls (-1) w ha (by omega) (by decide) (by decide)
  rw [show ((N + 1:Nat):Int) = 1 + (N:Int) from by omega] at h
  exact h)
 clear hbd hN ha
 go_enter Try.func3,Try.ntmps3
 go_wp2_with fail
 go_at_call 6
 refine (mod_is _ _ N _ (by decide) (by decide) HM.out).mono ?_
 rintro e w' ⟨rfl,rfl⟩
 go_wp2_with fail
 go_at_call 7
 refine HC.out.mono ?_
 rintro e w1 ⟨u,rfl,hu,hb1⟩
 have HU:=hQ hu
 have HB1:=hQ hb1
 clear hu hb1
 go_wp2_with fail
 go_at_call 8
 have HBA:=hQ (Qbk w1 (oneO u))
 have HR:=hQ (root_one (S:=fun b=>b < (w1.alloc (oneO u)).heap.size) (TrAt.move (fun b hb=>xE hb HBA.out.size) (fun b _ hl=>HBA.out.block b hl) _ _ HU.out) (xH w1 (oneO u)) (by rw [xI];omega))
 have HB1A:=hQ (HB1.out.trans (HBA.out.mono HB1.out.size))
 have HF:=hQ (fit_chain (n:=N + 1) ls (-1) (by omega))
 have HW:=hQ (words_chain (N + 1) ls (-1))
 have HZ:=hQ (show ∀ t ∈ [Qal (N + 1) ls (-1)],Qao t ≤ 1000 from fun t ht=>by obtain rfl:=List.mem_singleton.1 ht;have:=size_chain (n:=N + 1) ls (-1) (by omega);omega)
 have HZS:=hQ (show Qah [Qal (N + 1) ls (-1)] ≤ 90000 from by have:=chain_size1 (n:=N + 1) ls (-1) (by omega);omega)
 have HFL:=hQ (flat_chain (n:=N + 1) ls (by omega) (by omega))
 have HCI:=hQ (circ_chain (n:=N + 1) ls (by omega))
 refine (expand_any _ (fun _=>False) (some ⟨w1.heap.size,0,none⟩) 1 [Qal (N + 1) ls (-1)] 0 (Qa5 (Qbg 0)) ⟨9,⟨#[84,97]⟩,none,0,0,none,0,0⟩ _ HR.out HF.out HW.out HZ.out HZS.out (Qen _ _ _ _) (name_small _) (name_words two_max) (name_size _)).mono ?_
 rintro e w5 ⟨u5,rfl,hu5,hb5⟩
 have hex:exT [Qal (N + 1) ls (-1)] 0 (Qa5 (Qbg 0)) = wrapT (cntC ls 0 (N + 1)) (Qcs 5):=by rw [exT_yes (by rw [HFL.out]),HFL.out]
 rw [hex] at hu5
 rw [HFL.out]
 have HU5:=hQ (TrAt.move (S':=fun b=>b < w5.heap.size) (fun b hb=>hb.2) (fun _ _ _=>rfl) _ _ hu5)
 have HB5:=hQ hb5
 clear hu5 hb5 hex
 have HX5:=hQ (xH w5 (trO u5))
 have HBX5:=hQ (Qbk w5 (trO u5))
 go_wp2_with fail
 go_loopw [8] (fun i wr=>CnL N ls w5 i wr) (fun i _=>N + 1 - (intOf i).toNat)
 case atStart=>exact ⟨0,u5,rfl,by omega,HU5.out,HX5.out,HBX5.out⟩
 case round =>
  obtain ⟨j,v,rfl,hj,hv,hx,hb⟩:=hrel
  have HV:=hQ hv
  have HX:=hQ hx
  have HB:=hQ hb
  clear hv hx hb
  obtain ⟨vk,vx,vla,vll,vlc,vka,vkl,vkc⟩:=v
  have k0:wr.cell? ⟨w5.heap.size,0,none⟩ = some (.int .i64 vk):=Qaa HX.out 0 _ rfl
  have k1:wr.cell? ⟨w5.heap.size,1,none⟩ = some (.string vx):=Qaa HX.out 1 _ rfl
  have k2:wr.cell? ⟨w5.heap.size,2,none⟩ = some (.slice vla vll vlc):=Qaa HX.out 2 _ rfl
  have k3:wr.cell? ⟨w5.heap.size,3,none⟩ = some (.slice vka vkl vkc):=Qaa HX.out 3 _ rfl
  have kl:=Qab HX.out
  have kf:=Lib.frozen_of_heap HX.out
  by_cases hlt:j < N + 1
  ·have j0:(0:Int) ≤ (j:Int):=by omega
   have j1:(j:Int) < 1 + (N:Int):=by omega
   have j2:(j:Int) + 1 ≤ 21:=by omega
   by_cases hil:j < ls.length
   ·have j3:(j:Int) < (ls.length:Int):=by omega
    obtain ⟨x,hx⟩:∃ x,ls[j]? = some x:=⟨_,xF hil⟩
    have hbit:bitC ls j = x:=by unfold bitC;rw [hx];rfl
    obtain ⟨ab,ao,hA,_,hc⟩:=(HA.out.keep (HB1A.out.trans ((HB5.out.mono HB1A.out.size).trans (HB.out.mono (Nat.le_trans HB1A.out.size HB5.out.size))))) (by intro h;rw [h] at hil;simp at hil)
    subst hA
    have e0:=hc j x hx
    have el:=xK wr _ e0
    have HCS:=hQ (show cntC ls j (N + 1 - j) = (if x = true then 1 else 0) + cntC ls (j + 1) (N + 1 - (j + 1)) from by
     rw [show N + 1 - j = (N + 1 - (j + 1)) + 1 from by omega,cntC_succ,hbit])
    clear hc hx hbit
    cases x
    ·go_wp2_with fail
     go_roundw
     case measure=>first | (simp [intOf];done) | (simp [intOf];omega)
     case rel=>exact ⟨j + 1,_,rfl,by omega,by have h:=HCS.out;rw [if_neg (by decide),Nat.zero_add] at h;rw [← h];exact HV.out,HX.out,HB.out⟩
    ·have hw:wrapT (cntC ls j (N + 1 - j)) (Qcs 5) = .mk 8 ⟨#[]⟩ [] [wrapT (cntC ls (j + 1) (N + 1 - (j + 1))) (Qcs 5)]:=by
      rw [HCS.out,if_pos rfl,Nat.add_comm 1]
      rfl
     have hv2:=HV.out
     rw [hw] at hv2
     have q1:=hv2.kl.1
     have q3:=hv2.kl.2.2.1
     obtain ⟨g,o,hka⟩:∃ b off,vka = some ⟨b,off,none⟩:=hv2.addr.resolve_left (by simp [Tr.kids])
     obtain ⟨kv,c0,c1,c2,c3,hkv⟩:=hv2.at (j:=0) hka rfl
     simp only at q1 q3 hka
     subst hka
     have e1:vkl = 1:=q1
     have e3:vk = 8:=q3
     subst e1 e3
     simp only [Nat.zero_mul,Nat.add_zero] at c0 c1 c2 c3
     have c0:=(HB.out.cell (xK w5 _ c0)).trans c0
     have c1:=(HB.out.cell (xK w5 _ c1)).trans c1
     have c2:=(HB.out.cell (xK w5 _ c2)).trans c2
     have c3:=(HB.out.cell (xK w5 _ c3)).trans c3
     have cl:=xK wr _ c0
     have HKV0:=hQ hkv
     clear hv2 q1 q3 hw hkv
     go_wp2_with fail
     go_roundw
     case measure=>first | (simp [intOf];done) | (simp [intOf];omega)
     case rel=>exact ⟨j + 1,kv,rfl,by omega,HKV0.out,setT_heap _ HX.out,HB.out.trans (Qcp _ _ _)⟩
   ·have j3:¬ ((j:Int) < (ls.length:Int)):=by omega
    have HCN:=hQ (cnt_none ls (N + 1 - j) j (by omega))
    have hv2:=HV.out
    rw [HCN.out] at hv2
    obtain rfl:vk = 5:=hv2.kl.2.2.1
    clear hv2
    go_wp2_with fail
    go_at_call 9
    refine (awake_typ _).mono ?_
    rintro e w7 ⟨rfl,hb7⟩
    have HX7:=hQ ((hb7.block _ kl).trans HX.out)
    have HBB:=hQ (HB5.out.trans ((HB.out.trans (hb7.mono HB.out.size)).mono HB5.out.size))
    clear k0 k1 k2 k3 kl kf hb7
    have k0:w7.cell? ⟨w5.heap.size,0,none⟩ = some (.int .i64 5):=Qaa HX7.out 0 _ rfl
    have kl:=Qab HX7.out
    go_wp2_with fail
    go_at_call 10
    refine (Qdn _ (some ⟨w1.heap.size,0,none⟩) 1 [Qal (N + 1) ls (-1)] 0 0 w7 (HR.out.keep HBB.out) HF.out HW.out HZ.out HZS.out zero64 zero64).mono ?_
    rintro e w8 ⟨rfl,hb8⟩
    rw [HCI.out]
    have HB8:=hQ (HB1A.out.trans (HBB.out.trans (hb8.mono HBB.out.size) |>.mono HB1A.out.size))
    clear hb8
    go_wp2_with fail
    go_ret
    exact ⟨rfl,HB8.out⟩
  ·obtain rfl:j = N + 1:=by omega
   have j1:¬ ((((N + 1:Nat):Int)) < 1 + (N:Int)):=by omega
   have HCN:=hQ (show cntC ls (N + 1) (N + 1 - (N + 1)) = 0 by rw [Nat.sub_self];rfl)
   have hv2:=HV.out
   rw [HCN.out] at hv2
   obtain rfl:vk = 5:=hv2.kl.2.2.1
   clear hv2
   go_wp2_with fail
   go_at_call 9
   refine (awake_typ _).mono ?_
   rintro e w7 ⟨rfl,hb7⟩
   have HX7:=hQ ((hb7.block _ kl).trans HX.out)
   have HBB:=hQ (HB5.out.trans ((HB.out.trans (hb7.mono HB.out.size)).mono HB5.out.size))
   clear k0 k1 k2 k3 kl kf hb7
   have k0:w7.cell? ⟨w5.heap.size,0,none⟩ = some (.int .i64 5):=Qaa HX7.out 0 _ rfl
   have kl:=Qab HX7.out
   go_wp2_with fail
   go_at_call 10
   refine (Qdn _ (some ⟨w1.heap.size,0,none⟩) 1 [Qal (N + 1) ls (-1)] 0 0 w7 (HR.out.keep HBB.out) HF.out HW.out HZ.out HZS.out zero64 zero64).mono ?_
   rintro e w8 ⟨rfl,hb8⟩
   rw [HCI.out]
   have HB8:=hQ (HB1A.out.trans (HBB.out.trans (hb8.mono HBB.out.size) |>.mono HB1A.out.size))
   clear hb8
   go_wp2_with fail
   go_ret
   exact ⟨rfl,HB8.out⟩
end Go.Proofs.Ytclkilljmdkfaaa
