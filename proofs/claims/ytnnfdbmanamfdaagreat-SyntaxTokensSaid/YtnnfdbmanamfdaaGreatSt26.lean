/- Part 26: The contract of (*writer).tree. -/
import Derived.Test.YtnnfdbmanamfdaaGreatSt1
import Derived.Test.YtnnfdbmanamfdaaGreatSt25
import Derived.Deep.RegionHeld3
set_option maxRecDepth 100000
set_option maxHeartbeats 4000000
namespace Go.Proofs.YtnnfdbmanamfdaaGreat
open Go.RowKit
def KSlA (B:Nat) (w:World) (A:Option Addr) (ks:List Tr):Prop:=ks ≠ [] → ∃ kb ko,A = some ⟨kb,ko,none⟩ ∧ kb < B ∧ TrsAt (fun k=>k < B) w kb ko ks
theorem KSlA.lows {B:Nat} {w w':World} {A:Option Addr} {ks:List Tr} (h:KSlA B w A ks) (hb:Below B w w'):KSlA B w' A ks:=fun hne=>by
 obtain ⟨kb,ko,hA,hk,ht⟩:=h hne
 exact ⟨kb,ko,hA,hk,ht.lows hk hb⟩
theorem TrAt.ksl {B:Nat} {w:World} {t:Tr} {v:TV} (h:TrAt (fun k=>k < B) w t v):KSlA B w v.ka t.kids ∧ StrsAt (fun k=>k < B) w v.la t.leads:=by
 cases t with
 | mk kd tx ls ks =>
  unfold TrAt at h
  exact ⟨h.2.2.2.2.2.1,h.2.2.2.2.1⟩
theorem leads_nat {t:Tr} (h:ledT t = true):(Qb0 (Qae t.kind) t.kids.length).2 = true ∧ (t.leads.length:Int) = (Qb9 (Qae t.kind):Int) + commasP (Qae t.kind) (Qb0 (Qae t.kind) t.kids.length).1 ∧ ∀ k ∈ t.kids,ledT k = true:=by
 rw [ledT_eq,Bool.and_eq_true,Bool.and_eq_true,beq_iff_eq] at h
 obtain ⟨⟨h1,_⟩,h3⟩:=h
 unfold leadsP at h1
 split at h1
 ·rename_i hf
  refine ⟨hf,h1,?_⟩
  intro k hk
  obtain ⟨j,hj⟩:=List.getElem?_of_mem hk
  have:∀ (l:List Tr) (j:Nat),ledL l = true → l[j]? = some k → ledT k = true:=by
   intro l
   induction l with
   | nil=>intro j _ h;simp at h
   | cons a r ih =>
    intro j h hj
    rw [ledL,Bool.and_eq_true] at h
    cases j with
    | zero=>simp at hj;subst hj;exact h.1
    | succ j=>exact ih j h.2 (by simpa using hj)
  exact this _ j h3 hj
 ·omega
theorem commasP_nonneg (l:List Part) (n:Int):0 ≤ commasP l n:=by
 induction l with
 | nil=>exact Int.le_refl _
 | cons x r ih =>
  rw [commasP]
  split
  ·rename_i h
   rw [Bool.and_eq_true,decide_eq_true_eq] at h
   omega
  ·omega
theorem comma_room (l:List Part) (n:Int) (hn:0 ≤ n) (j:Nat) (x:Part) (hx:l[j]? = some x) (hc:x.commas = true):Qbz x n ≤ commasP l n + 1:=by
 induction l generalizing j with
 | nil=>simp at hx
 | cons a r ih =>
  rw [commasP]
  have h0:=commasP_nonneg r n
  cases j with
  | zero =>
   simp at hx
   subst hx
   have h1:Qbz a n ≤ n ∨ Qbz a n ≤ 1:=by unfold Qbz;split;exact .inl (Int.le_refl _);split <;> exact .inr (by omega)
   by_cases h:1 < n
   ·rw [if_pos (by rw [hc,Bool.true_and];exact decide_eq_true h)]
    omega
   ·rw [if_neg (by rw [hc,Bool.true_and];simpa using h)]
    omega
  | succ j =>
   have h2:=ih j (by simpa using hx)
   have h3:0 ≤ (if (a.commas && decide (1 < n)) = true then n - 1 else 0):=by
    split
    ·rename_i h
     rw [Bool.and_eq_true,decide_eq_true_eq] at h
     omega
    ·exact Int.le_refl _
   omega
theorem StrsAt.resl {S:Nat → Prop} {w:World} {A:Option Addr} {l:List ByteArray} (h:StrsAt S w A l) (c:Nat):StrsAt S w (A.map (fun x=>x.add c)) (l.drop c):=fun hne=>by
 obtain ⟨b,o,hA,hb,hc⟩:=h (fun e=>hne (by rw [e,List.drop_nil]))
 subst hA
 refine ⟨b,o + c,by simp [Addr.add],hb,fun i x hx=>?_⟩
 rw [List.getElem?_drop] at hx
 rw [show o + c + i = o + (c + i) from by omega]
 exact hc _ _ hx
theorem KSlA.resl {B:Nat} {w:World} {A:Option Addr} {l:List Tr} (h:KSlA B w A l) (c:Nat):KSlA B w (A.map (fun x=>x.add (c * 4))) (l.drop c):=fun hne=>by
 obtain ⟨b,o,hA,hb,ht⟩:=h (fun e=>hne (by rw [e,List.drop_nil]))
 subst hA
 exact ⟨b,o + c * 4,by simp [Addr.add],hb,TrsAt.drop _ _ c ht⟩
theorem partsP_fin3:∀ n:Fin 23,∀ x ∈ Qae ((n.val:Nat):Int),x.kids = 0 → x.series = false:=by decide
theorem partsP_ser (k:Int):∀ x ∈ Qae k,x.kids = 0 → x.series = false:=by
 by_cases h:k ≤ 0 ∨ 23 ≤ k
 ·rw [Qdy h]
  exact fun x hx=>by simp at hx
 ·have:=partsP_fin3 ⟨k.toNat,by omega⟩
  rw [show (((⟨k.toNat,by omega⟩:Fin 23).val:Nat):Int) = k from by show ((k.toNat:Nat):Int) = k;omega] at this
  exact this
theorem KSlA.take {B:Nat} {w:World} {A:Option Addr} {l:List Tr} (h:KSlA B w A l) (c:Nat):KSlA B w A (l.take c):=fun hne=>by
 obtain ⟨b,o,hA,hb,ht⟩:=h (fun e=>hne (by rw [e,List.take_nil]))
 refine ⟨b,o,hA,hb,TrsAt.of _ _ fun i k hk=>TrsAt.get _ _ ht i k ?_⟩
 rw [List.getElem?_take] at hk
 split at hk
 ·exact hk
 ·cases hk
theorem kids_any {N:Nat} (ih:TreeWr N) (B b:Nat) (s:List UInt8 × ByteArray) (ks:List Tr) (cn:Nat) (Ka:Option Addr) (kc:Nat) (cs:List ByteArray) (cm:Nat) (cA:Option Addr) (cc:Nat) (x:Part) (w:World) (hcn:ks.length = cn) (hcm:cs.length = cm)
  (hk:KidsSt N ks) (ht:KSlA B w Ka ks) (hlen:ks.length ≤ 140737488355328) (hc:StrsAt (fun k=>k < B) w cA cs) (hcl:x.commas = true → ks.length ≤ cs.length + 1) (h:WrS B b s w) (hB:B ≤ w.heap.size) (hsz:s.1.length + Qf7 (Qa6 x.commas cs 0 (ks.map Qaf)) < 140737488355328) :
  Calls Tryz.prog 151 #[.pointer (some ⟨b,0,none⟩),.slice Ka cn kc,.slice cA cm cc,.agg #[.string x.word,fnV x.nm,.int .i64 x.kids,.int .i64 x.least,.int .i64 x.most,.bool x.series,.bool x.commas]] w
   fun e w'=>e = .returned (.tuple #[]) ∧ WrS B b (Qhf s (Qa6 x.commas cs 0 (ks.map Qaf))) w' ∧ Below B w w' ∧ Kept b w w':=by
 subst hcn hcm
 cases ks with
 | nil=>exact kids_none B b s Ka kc _ x w h hB
 | cons a r =>
  obtain ⟨kb,ko,rfl,hkb,htr⟩:=ht (by simp)
  exact kids_wr ih B b s (a :: r) kb ko kc cs cA cc x w hk htr hkb hlen hc hcl h hB hsz
theorem tree_step {N:Nat} (ih:TreeWr N):TreeWr (N + 1):=by
 intro B b s t v w hN h hw hB hs hl hsz
 obtain ⟨hk0,hk1,hk2⟩:=Qec hs
 obtain ⟨hfr,hll,hkl⟩:=leads_nat hl
 obtain ⟨e1,e2,e3,e4⟩:=h.kl
 obtain ⟨hka,hla⟩:=h.ksl
 have hcap:=h.caps
 obtain ⟨vk,vx,vla,vll,vlc,vka,vkl,vkc⟩:=v
 simp only at e1 e2 e3 e4 hka hla hcap
 subst e1 e2 e3 e4
 have HT:=hQ h
 have HKA:=hQ hka
 have HLA:=hQ hla
 have HIH:=hQ ih
 have HKW:=hQ (show KidsSt N t.kids from fun i k hk=>⟨by have:=kid_size hk;omega,hk2 i k hk,hkl k (List.mem_of_getElem? hk)⟩)
 have HPL:=hQ (partsP_len t.kind)
 have HNM:=hQ (partsP_nm t.kind)
 have HKI:=hQ (show (t.kids.length:Int) ≤ 140737488355328 from by omega)
 have HCAP:=hQ hcap
 have HBW:=hQ hB
 have HXB:=hQ (show w.heap.size ≠ b from by have:=hw.1.lt;omega)
 have HW:=hQ hw
 have HI0:=hQ (hw.alloc (.cells #[.int .i64 t.kind,.string t.text,.slice vla t.leads.length vlc,.slice vka t.kids.length vkc] 25))
 have HB0:=hQ ((xC B w).alloc hB (.cells #[.int .i64 t.kind,.string t.text,.slice vla t.leads.length vlc,.slice vka t.kids.length vkc] 25))
 have HKP0:=hQ (Kept.alloc b w (.cells #[.int .i64 t.kind,.string t.text,.slice vla t.leads.length vlc,.slice vka t.kids.length vkc] 25))
 have HG0:=hQ (xH w (.cells #[.int .i64 t.kind,.string t.text,.slice vla t.leads.length vlc,.slice vka t.kids.length vkc] 25))
 have hfs:=free_sum hfr
 have hpe:=Qdc t
 have hne:=(freeP_le _ _ hfr).2.2
 generalize hfp:Qb0 (Qae t.kind) t.kids.length = fr at hfr hll hfs hpe
 obtain ⟨n,ok⟩:=fr
 simp only at hfr hll hfs hpe
 subst hfr
 have HFE:=hQ hfp
 have HLL:=hQ hll
 have HFS:=hQ hfs
 have HPE:=hQ hpe
 have HPN:=hQ hne
 have HSZ:=hQ hsz
 have hlen0:=hk0
 clear hk1 hk2 hkl hka hla hcap h hw hB hs hl hsz hfs hpe hne hfp ih hN hll
 go_enter Tryz.func106,Tryz.ntmps106
 go_wp2_with fail
 go_at_call 99
 refine (Qf3 t.kind _).mono ?_
 rintro e w1 ⟨A,c,rfl,hp,hb⟩
 have HP:=hQ hp
 have HB1:=hQ (HB0.out.trans (hb.mono (Nat.le_trans HBW.out HB0.out.size)))
 have HKP1:=hQ (HKP0.out.trans (Kept.below hb))
 have HI1:=hQ (HI0.out.keep hb)
 have HG1:=hQ ((hb.block w.heap.size (by simp)).trans HG0.out)
 clear hp hb
 have k0:w1.cell? ⟨w.heap.size,0,none⟩ = some (.int .i64 t.kind):=Qab HG1.out 0 _ rfl
 have k1:w1.cell? ⟨w.heap.size,1,none⟩ = some (.string t.text):=Qab HG1.out 1 _ rfl
 have k2:w1.cell? ⟨w.heap.size,2,none⟩ = some (.slice vla t.leads.length vlc):=Qab HG1.out 2 _ rfl
 have k3:w1.cell? ⟨w.heap.size,3,none⟩ = some (.slice vka t.kids.length vkc):=Qab HG1.out 3 _ rfl
 go_wp2_with fail
 go_at_call 100
 refine (free_syn A c _ t.kids.length _ HP.out HPL.out HKI.out).mono ?_
 rw [HFE.out]
 rintro e w2 ⟨rfl,hb2⟩
 have HB2:=hQ (HB1.out.trans (hb2.mono (Nat.le_trans HBW.out HB1.out.size)))
 have HKP2:=hQ (HKP1.out.trans (Kept.below hb2))
 have HI2:=hQ (HI1.out.keep hb2)
 have HG2:=hQ ((hb2.block w.heap.size (Qaa HG1.out)).trans HG1.out)
 have HP2:=hQ (HP.out.keep hb2)
 clear hb2 k0 k1 k2 k3
 have k0:w2.cell? ⟨w.heap.size,0,none⟩ = some (.int .i64 t.kind):=Qab HG2.out 0 _ rfl
 have k1:w2.cell? ⟨w.heap.size,1,none⟩ = some (.string t.text):=Qab HG2.out 1 _ rfl
 have k2:w2.cell? ⟨w.heap.size,2,none⟩ = some (.slice vla t.leads.length vlc):=Qab HG2.out 2 _ rfl
 have k3:w2.cell? ⟨w.heap.size,3,none⟩ = some (.slice vka t.kids.length vkc):=Qab HG2.out 3 _ rfl
 go_wp2_with fail
 have d2:w2.drew.cell? ⟨w.heap.size,2,none⟩ = some (.slice vla t.leads.length vlc):=k2
 have d3:w2.drew.cell? ⟨w.heap.size,3,none⟩ = some (.slice vka t.kids.length vkc):=k3
 have mixed:Tryz.prog.follows Departure.mixedOrders = true:=stringLays.mixed
 go_region_o
 go_wp2_with fail
 go_at_call 101
 refine (tokens_syn A c _ _ (HP2.out.keep ((xC _ _).drew)) HPL.out).mono ?_
 rintro e w3 ⟨rfl,hb3⟩
 have HB3:=hQ (HB2.out.trans ((((xC _ _).drew).trans hb3).mono (Nat.le_trans HBW.out HB2.out.size)))
 have HKP3:=hQ (HKP2.out.trans (Kept.below (((xC _ _).drew).trans hb3)))
 have HI3:=hQ (HI2.out.keep (((xC _ _).drew).trans hb3))
 have HG3:=hQ ((hb3.block w.heap.size (Qaa HG2.out)).trans HG2.out)
 have HP3:=hQ (HP2.out.keep (((xC _ _).drew).trans hb3))
 clear hb3 k0 k1 k2 k3 d2 d3
 have HTN:=hQ (show Qb9 (Qae t.kind) ≤ t.leads.length from by have h1:=HLL.out;have h2:=commasP_nonneg (Qae t.kind) n;omega)
 generalize htn:Qb9 (Qae t.kind) = T at HLL HPE HTN ⊢
 have HTE:=hQ htn
 clear htn
 obtain ⟨pk,pcs,rfl,hpk,hph,hpc⟩:=HP3.out HPN.out
 have HPH:=hQ hph
 have HPC:=hQ hpc
 have HPB:=hQ (show pk ≠ b from by have h1:=HW.out.1.lt;have h2:w.heap.size ≤ pk:=Nat.le_trans (by simp) hpk;omega)
 have HLA3:=hQ (HLA.out.lows HB3.out)
 have HKA3:=hQ (HKA.out.lows HB3.out)
 clear hph hpc mixed hlen0 hpk
 have htl:(T:Int) ≤ (t.leads.length:Int):=by have:=HTN.out;omega
 have hlc:(t.leads.length:Int) ≤ (vlc:Int):=by have:=HCAP.out.1;omega
 by_cases hv:vlc = T
 ·have hv2:=hv.symm
  subst hv2
  have HCS:=hQ (show StrsAt (fun k=>k < B) w3 vla (t.leads.drop T) from fun hne=>absurd (List.drop_eq_nil_of_le HCAP.out.1) hne)
  go_wp2_with fail
  clear hv htl hlc
  have HS0:=hQ (show Qhf s (Qaf t) = Qhf s (Qbo n t.text (t.leads.drop T) (Qae t.kind) t.leads (t.kids.map Qaf)) from by rw [HPE.out])
  have HZ0:=hQ (show s.1.length + Qf7 (Qbo n t.text (t.leads.drop T) (Qae t.kind) t.leads (t.kids.map Qaf)) < 140737488355328 from by rw [← HPE.out];exact HSZ.out)
  go_loopg [7,8,33] (Qae t.kind).length (fun g u7 u8 u33 wr=>∃ (j d m cap e ml lcap:Nat) (Ka La:Option Addr) (si:List UInt8 × ByteArray),u7 = .slice Ka m cap ∧ u8 = .slice La ml lcap ∧ u33 = .int .i64 j ∧ j + g = (Qae t.kind).length ∧ d + m = t.kids.length ∧ m ≤ cap ∧ e + ml = t.leads.length ∧ ml ≤ lcap ∧ KSlA B w3 Ka (t.kids.drop d) ∧ StrsAt (fun k=>k < B) w3 La (t.leads.drop e) ∧ sumP ((Qae t.kind).drop j) n = m ∧ Qb9 ((Qae t.kind).drop j) ≤ ml ∧ Qhf s (Qaf t) = Qhf si (Qbo n t.text (t.leads.drop T) ((Qae t.kind).drop j) (t.leads.drop e) ((t.kids.drop d).map Qaf)) ∧ WrS B b si wr ∧ si.1.length + Qf7 (Qbo n t.text (t.leads.drop T) ((Qae t.kind).drop j) (t.leads.drop e) ((t.kids.drop d).map Qaf)) < 140737488355328 ∧ Below B w3 wr ∧ Kept b w3 wr)
  case atStart=>exact ⟨0,0,_,_,0,_,_,_,_,s,rfl,rfl,rfl,by omega,by omega,HCAP.out.2,by omega,HCAP.out.1,HKA3.out,HLA3.out,HFS.out.2,by rw [List.drop_zero,HTE.out];exact HTN.out,HS0.out,HI3.out,HZ0.out,xC _ _,Kept.refl _ _⟩
  case round =>
   obtain ⟨j,d,m,cap,e,ml,lcap,Ka,La,si,rfl,rfl,rfl,hj,hd,hm,he,hml,hks,hls,hsm,htk,hf,hwr,hsz,hb,hkp⟩:=hrel
   have HJ:=hQ hj
   have HD:=hQ hd
   have HM:=hQ hm
   have HE:=hQ he
   have HML:=hQ hml
   have HKS:=hQ hks
   have HLS:=hQ hls
   have HSM:=hQ hsm
   have HTK:=hQ htk
   have HF:=hQ hf
   have HWR:=hQ hwr
   have HZ:=hQ hsz
   have HBR:=hQ hb
   have HKR:=hQ hkp
   clear hj hd hm he hml hks hls hsm htk hf hwr hsz hb hkp
   have hbsz:B ≤ wr.heap.size:=Nat.le_trans HBW.out (Nat.le_trans HB3.out.size HBR.out.size)
   have HBS:=hQ hbsz
   by_cases hlt:j < (Qae t.kind).length
   ·obtain ⟨x,hx⟩:∃ x,(Qae t.kind)[j]? = some x:=⟨_,xF hlt⟩
    have hph:=HKR.out _ _ _ _ HPH.out HPB.out (by decide)
    have hpc:=parts_at hph HPC.out j x hx
    obtain ⟨hjl,hje⟩:=List.getElem?_eq_some_iff.1 hx
    have hsm:=HSM.out
    have htk:=HTK.out
    have hf:=HF.out
    have hz:=HZ.out
    rw [List.drop_eq_getElem_cons hjl,hje] at hsm htk hf hz
    rw [sumP] at hsm
    rw [Qb9] at htk
    rw [Qbo] at hf hz
    have hc0:=countP_nonneg x n HFS.out.1
    have hr0:=sumP_nonneg ((Qae t.kind).drop (j + 1)) n HFS.out.1
    obtain ⟨cn,hcn⟩:∃ cn:Nat,Qbz x n = cn:=⟨(Qbz x n).toNat,by omega⟩
    have HRM:=hQ (fun hc=>comma_room (Qae t.kind) n HFS.out.1 j x hx hc)
    rw [hcn] at hsm hf hz
    rw [Int.toNat_natCast] at hf hz
    have hx0:=hx
    have hj0:(0:Int) ≤ (j:Int):=by omega
    have hj1:(j:Int) < ((Qae t.kind).length:Int):=by omega
    have hj2:(j:Int) + 1 ≤ 10:=by have:=HPL.out;omega
    have HLT:=hQ hlt
    have HCN:=hQ hcn
    have HSUM2:=hQ hsm
    have HCM:=hQ (show cn ≤ m from by omega)
    clear hx hjl hje hc0 hr0 hcn hph hsm
    obtain ⟨wd,nm,kd,lst,mst,se,co⟩:=x
    obtain ⟨p0,p1,p2,p3,p4,p5,p6⟩:=hpc
    have HX0:=hQ (xH wr (.cells #[.string wd,fnV nm,.int .i64 kd,.int .i64 lst,.int .i64 mst,.bool se,.bool co] 129))
    have HBX:=hQ (HBR.out.trans ((xC B wr).alloc hbsz (.cells #[.string wd,fnV nm,.int .i64 kd,.int .i64 lst,.int .i64 mst,.bool se,.bool co] 129)))
    have HKX:=hQ (HKR.out.trans (Kept.alloc b wr (.cells #[.string wd,fnV nm,.int .i64 kd,.int .i64 lst,.int .i64 mst,.bool se,.bool co] 129)))
    have HWX:=hQ (HWR.out.alloc (.cells #[.string wd,fnV nm,.int .i64 kd,.int .i64 lst,.int .i64 mst,.bool se,.bool co] 129))
    have HXB2:=hQ (show wr.heap.size ≠ b from by have:=HWR.out.1.lt;omega)
    clear hbsz
    by_cases hkd:kd = 0
    ·rw [if_neg (fun h=>h hkd)] at hf hz
     rw [if_pos hkd] at htk
     have hcn0:cn = 0:=by
      have h1:=HCN.out
      have h2:se = false:=partsP_ser t.kind _ (List.mem_of_getElem? hx0) hkd
      unfold Qbz at h1
      simp only at h1
      rw [h2,if_neg (by decide),if_neg (fun h=>h hkd)] at h1
      omega
     have hkd':(kd != 0) = false:=by simp [hkd]
     have hcap:=fn_cmp nm (HNM.out _ (List.mem_of_getElem? hx0))
     have hgrd:=fn_guard nm
     have hml0:(0:Int) < (ml:Int):=by omega
     have hmln:0 < ml:=by omega
     have hmlz:ml ≠ 0:=by omega
     have hml1:(ml:Int) ≤ (lcap:Int):=by have:=HML.out;omega
     obtain ⟨y,hy⟩:∃ y,(t.leads.drop e)[0]? = some y:=⟨_,xF (by rw [List.length_drop];have:=HE.out;omega)⟩
     obtain ⟨lb,lo,hLa,hlb,hlcs⟩:=HLS.out (by intro h;rw [h] at hy;simp at hy)
     have hly:=(xJ (w:=w3) (a:=⟨lb,lo + 0,none⟩) (HBX.out.block lb hlb)).trans (hlcs 0 y hy)
     rw [Nat.add_zero] at hly
     subst hLa
     rw [hy,Option.getD_some] at hf hz
     have HF2:=(show Qhf s (Qaf t) = Qhf (tokW si y (if nm ≠ 0 then t.text else wd)) (Qbo n t.text (t.leads.drop T) ((Qae t.kind).drop (j + 1)) (t.leads.drop (e + 1)) ((t.kids.drop d).map Qaf)) from by rw [hf,List.drop_drop];rfl)
     have HZ2:=(show si.1.length + y.size + (if nm ≠ 0 then t.text else wd).size + 1 < 140737488355328 ∧ (tokW si y (if nm ≠ 0 then t.text else wd)).1.length + Qf7 (Qbo n t.text (t.leads.drop T) ((Qae t.kind).drop (j + 1)) (t.leads.drop (e + 1)) ((t.kids.drop d).map Qaf)) < 140737488355328 from by
      rw [List.drop_drop,Qf7] at hz
      have h2:=foldW_le [(y,if nm ≠ 0 then t.text else wd)] si
      rw [foldW_one] at h2
      simp only [Qf7] at hz h2
      exact ⟨by omega,by omega⟩)
     have HTK2:=hQ (show Qb9 ((Qae t.kind).drop (j + 1)) ≤ ml - 1 from by omega)
     have HM0:=hQ hml0
     have HSUM3:=hQ (show sumP ((Qae t.kind).drop (j + 1)) n = m from by have:=HSUM2.out;rw [hcn0] at this;omega)
     have HLS2:=hQ (show StrsAt (fun k=>k < B) w3 (some ⟨lb,lo + 1,none⟩) (t.leads.drop (e + 1)) from by have:=HLS.out.resl 1;rw [List.drop_drop] at this;simpa [Addr.add] using this)
     have hG:=HKR.out _ _ _ _ HG3.out HXB.out (by decide)
     have k1:=Qab ((Below.heap_alloc wr (.cells #[.string wd,fnV nm,.int .i64 kd,.int .i64 lst,.int .i64 mst,.bool se,.bool co] 129) _ (Qaa hG)).trans hG) 1 _ rfl
     clear hx0 hkd hcn0 hy hlcs hf hz htk hG
     cases hnm:(nm != 0)
     ·have HNZ:=hQ (show (if nm ≠ 0 then t.text else wd) = wd from by simp at hnm;simp [hnm])
      have HF2':=HF2
      have HZ2':=HZ2
      rw [HNZ.out] at HF2' HZ2'
      clear HF2 HZ2
      have HF2:=hQ HF2'
      have HZ2:=hQ HZ2'
      clear HF2' HZ2'
      go_wp2_with fail
      clear p0 p1 p2 p3 p4 p5 p6
      generalize wr.alloc (.cells #[.string wd,fnV nm,.int .i64 kd,.int .i64 lst,.int .i64 mst,.bool se,.bool co] 129) = WX at HX0 HBX HKX HWX hly k1 ⊢
      generalize hxb:wr.heap.size = xb at HX0 HXB2 ⊢
      clear hxb
      obtain ⟨x0,x1,x2,x3,x4,x5,x6⟩:=Qbp (x:=⟨wd,nm,kd,lst,mst,se,co⟩) HX0.out
      have xlt:=Qaa HX0.out
      have HBWX:=hQ (Nat.le_trans HBW.out (Nat.le_trans HB3.out.size HBX.out.size))
      go_region_law (go_simp;go_at_call 152;refine (token_wr B b si y wd _ (HWX.out.keep (xC _ _).drew) HZ2.out.1 HBWX.out).mono ?_;rintro e w5 ⟨rfl,g1,g2,g3⟩;have HW5:=hQ g1;have HB5:=hQ (HBX.out.trans (((xC _ _).drew).trans g2));have HK5:=hQ ((HKX.out.trans (Kept.below (xC _ _).drew)).trans g3);clear g1 g2 g3 x0 x1 x2 x3 x4 x5 x6 xlt k1 hly)
      all_goals
       by_cases hcc:lcap = 1
       ·have HCC:=hQ hcc
        have hcc':(lcap:Int) = 1:=by omega
        have HLN:=hQ (show StrsAt (fun k=>k < B) w3 (some ⟨lb,lo,none⟩) (t.leads.drop (e + 1)) from fun hne=>absurd (List.drop_eq_nil_of_le (by have:=HE.out;have:=HML.out;have:=HM0.out;omega)) hne)
        go_wp2
        go_roundg (gk - 1)
        case measure=>have:=HJ.out;have:=HLT.out;omega
        case rel=>exact ⟨j + 1,d,m,cap,e + 1,ml - 1,_,Ka,_,_,rfl,rfl,by go_num,by have:=HJ.out;have:=HLT.out;omega,HD.out,HM.out,by have:=HE.out;have:=HM0.out;omega,by have:=HML.out;have:=HM0.out;have:=HCC.out;omega,HKS.out,HLN.out,HSUM3.out,HTK2.out,HF2.out,HW5.out,HZ2.out.2,HB5.out,HK5.out⟩
       ·go_wp2
        go_roundg (gk - 1)
        case measure=>have:=HJ.out;have:=HLT.out;omega
        case rel=>exact ⟨j + 1,d,m,cap,e + 1,ml - 1,_,Ka,_,_,rfl,rfl,by go_num,by have:=HJ.out;have:=HLT.out;omega,HD.out,HM.out,by have:=HE.out;have:=HM0.out;omega,by have:=HML.out;have:=HM0.out;omega,HKS.out,HLS2.out,HSUM3.out,HTK2.out,HF2.out,HW5.out,HZ2.out.2,HB5.out,HK5.out⟩
     ·have HNZ:=hQ (show (if nm ≠ 0 then t.text else wd) = t.text from by simp at hnm;simp [hnm])
      have HF2':=HF2
      have HZ2':=HZ2
      rw [HNZ.out] at HF2' HZ2'
      clear HF2 HZ2
      have HF2:=hQ HF2'
      have HZ2:=hQ HZ2'
      clear HF2' HZ2'
      go_wp2_with fail
      clear p0 p1 p2 p3 p4 p5 p6
      generalize wr.alloc (.cells #[.string wd,fnV nm,.int .i64 kd,.int .i64 lst,.int .i64 mst,.bool se,.bool co] 129) = WX at HX0 HBX HKX HWX hly k1 ⊢
      generalize hxb:wr.heap.size = xb at HX0 HXB2 ⊢
      clear hxb
      obtain ⟨x0,x1,x2,x3,x4,x5,x6⟩:=Qbp (x:=⟨wd,nm,kd,lst,mst,se,co⟩) HX0.out
      have xlt:=Qaa HX0.out
      have HBWX:=hQ (Nat.le_trans HBW.out (Nat.le_trans HB3.out.size HBX.out.size))
      go_region_law (go_simp;go_at_call 152;refine (token_wr B b si y t.text _ (HWX.out.keep (xC _ _).drew) HZ2.out.1 HBWX.out).mono ?_;rintro e w5 ⟨rfl,g1,g2,g3⟩;have HW5:=hQ g1;have HB5:=hQ (HBX.out.trans (((xC _ _).drew).trans g2));have HK5:=hQ ((HKX.out.trans (Kept.below (xC _ _).drew)).trans g3);clear g1 g2 g3 x0 x1 x2 x3 x4 x5 x6 xlt k1 hly)
      all_goals
       by_cases hcc:lcap = 1
       ·have HCC:=hQ hcc
        have hcc':(lcap:Int) = 1:=by omega
        have HLN:=hQ (show StrsAt (fun k=>k < B) w3 (some ⟨lb,lo,none⟩) (t.leads.drop (e + 1)) from fun hne=>absurd (List.drop_eq_nil_of_le (by have:=HE.out;have:=HML.out;have:=HM0.out;omega)) hne)
        go_wp2
        go_roundg (gk - 1)
        case measure=>have:=HJ.out;have:=HLT.out;omega
        case rel=>exact ⟨j + 1,d,m,cap,e + 1,ml - 1,_,Ka,_,_,rfl,rfl,by go_num,by have:=HJ.out;have:=HLT.out;omega,HD.out,HM.out,by have:=HE.out;have:=HM0.out;omega,by have:=HML.out;have:=HM0.out;have:=HCC.out;omega,HKS.out,HLN.out,HSUM3.out,HTK2.out,HF2.out,HW5.out,HZ2.out.2,HB5.out,HK5.out⟩
       ·go_wp2
        go_roundg (gk - 1)
        case measure=>have:=HJ.out;have:=HLT.out;omega
        case rel=>exact ⟨j + 1,d,m,cap,e + 1,ml - 1,_,Ka,_,_,rfl,rfl,by go_num,by have:=HJ.out;have:=HLT.out;omega,HD.out,HM.out,by have:=HE.out;have:=HM0.out;omega,by have:=HML.out;have:=HM0.out;omega,HKS.out,HLS2.out,HSUM3.out,HTK2.out,HF2.out,HW5.out,HZ2.out.2,HB5.out,HK5.out⟩
    ·have hkd':(kd != 0) = true:=by simpa using hkd
     rw [if_pos hkd] at hf hz
     rw [if_neg hkd,Nat.zero_add] at htk
     have HF2:=hQ hf
     have HZ2:=hQ hz
     have HTK2:=hQ htk
     clear hf hz htk hkd
     have hcc0:(0:Int) ≤ (cn:Int):=by omega
     have hcc2:(cn:Int) ≤ (cap:Int):=by have:=HM.out;have:=HCM.out;omega
     have HSA:=hQ (show si.1.length + Qf7 (Qa6 co (t.leads.drop T) 0 (((t.kids.drop d).take cn).map Qaf)) < 140737488355328 from by have:=HZ2.out;rw [sizeP_append,← List.map_take] at this;simp only at this;omega)
     have HFA:=hQ (show Qhf s (Qaf t) = Qhf (Qhf si (Qa6 co (t.leads.drop T) 0 (((t.kids.drop d).take cn).map Qaf))) (Qbo n t.text (t.leads.drop T) ((Qae t.kind).drop (j + 1)) (t.leads.drop e) ((t.kids.drop (d + cn)).map Qaf)) from by rw [HF2.out,← List.map_take,← List.map_drop,foldW_append,List.drop_drop])
     have HZA:=hQ (show (Qhf si (Qa6 co (t.leads.drop T) 0 (((t.kids.drop d).take cn).map Qaf))).1.length + Qf7 (Qbo n t.text (t.leads.drop T) ((Qae t.kind).drop (j + 1)) (t.leads.drop e) ((t.kids.drop (d + cn)).map Qaf)) < 140737488355328 from by have:=HZ2.out;have h2:=foldW_le (Qa6 co (t.leads.drop T) 0 (((t.kids.drop d).take cn).map Qaf)) si;rw [sizeP_append,← List.map_take,← List.map_drop,List.drop_drop] at this;simp only at this;omega)
     have HKT:=hQ (HKS.out.take cn)
     have HTL:=hQ (show ((t.kids.drop d).take cn).length = cn from by rw [List.length_take,List.length_drop];have:=HD.out;have:=HCM.out;omega)
     have HCML:=hQ (show (t.leads.drop T).length = t.leads.length - T from List.length_drop)
     have HKS2:=hQ (show KidsSt N ((t.kids.drop d).take cn) from fun i k hk=>by
      rw [List.getElem?_take] at hk
      split at hk
      ·rw [List.getElem?_drop] at hk
       exact HKW.out _ k hk
      ·cases hk)
     have HRC:=hQ (show co = true → ((t.kids.drop d).take cn).length ≤ (t.leads.drop T).length + 1 from fun hc=>by
      have h1:=HRM.out hc
      rw [HCN.out] at h1
      rw [HTL.out,HCML.out]
      have:=HLL.out
      have:=HTN.out
      omega)
     go_wp2_with fail
     clear p0 p1 p2 p3 p4 p5 p6
     generalize wr.alloc (.cells #[.string wd,fnV nm,.int .i64 kd,.int .i64 lst,.int .i64 mst,.bool se,.bool co] 129) = WX at HX0 HBX HKX HWX ⊢
     generalize hxb:wr.heap.size = xb at HX0 HXB2 ⊢
     clear hxb
     obtain ⟨x0,x1,x2,x3,x4,x5,x6⟩:=Qbp (x:=⟨wd,nm,kd,lst,mst,se,co⟩) HX0.out
     have xlt:=Qaa HX0.out
     have HBWX:=hQ (Nat.le_trans HBW.out (Nat.le_trans HB3.out.size HBX.out.size))
     have HTLE:=hQ (show ((t.kids.drop d).take cn).length ≤ 140737488355328 from by have:=HTL.out;have:=HCM.out;have:=HD.out;have:=HKI.out;omega)
     go_region_law (first
      | (go_simp;go_at_call 108;refine (count_syn ⟨wd,nm,kd,lst,mst,se,co⟩ n _).mono ?_;rw [HCN.out];rintro e w4 ⟨rfl,hb4⟩;have HB4:=hQ (((xC _ _).drew).trans hb4);have HX4:=hQ ((HB4.out.block xb (Qaa HX0.out)).trans HX0.out);clear hb4 x0 x1 x2 x3 x4 x5 x6 xlt;obtain ⟨x0,x1,x2,x3,x4,x5,x6⟩:=Qbp (x:=⟨wd,nm,kd,lst,mst,se,co⟩) HX4.out;have xlt:=Qaa HX4.out)
      | (go_simp;go_at_call 151;refine (kids_any HIH.out B b si ((t.kids.drop d).take cn) cn Ka cap (t.leads.drop T) _ vla 0 ⟨wd,nm,kd,lst,mst,se,co⟩ _ HTL.out HCML.out HKS2.out (HKT.out.lows (HBX.out.trans (HB4.out.mono HBWX.out))) HTLE.out (HCS.out.lows (HBX.out.trans (HB4.out.mono HBWX.out))) HRC.out (HWX.out.keep HB4.out) (Nat.le_trans HBWX.out HB4.out.size) HSA.out).mono ?_;rintro e w5 ⟨rfl,g1,g2,g3⟩;have HW5:=hQ g1;have HB5:=hQ ((HBX.out.trans (HB4.out.mono HBWX.out)).trans g2);have HK5:=hQ ((HKX.out.trans (Kept.below HB4.out)).trans g3);have HX5:=hQ (g3 _ _ _ _ HX4.out HXB2.out (by decide));clear g1 g2 g3 x0 x1 x2 x3 x4 x5 x6 xlt;obtain ⟨x0,x1,x2,x3,x4,x5,x6⟩:=Qbp (x:=⟨wd,nm,kd,lst,mst,se,co⟩) HX5.out;have xlt:=Qaa HX5.out))
     all_goals
      go_wp2_with fail
      go_at_call 108
      refine (count_syn ⟨wd,nm,kd,lst,mst,se,co⟩ n _).mono ?_
      rw [HCN.out]
      rintro e w6 ⟨rfl,hb6⟩
      have HW6:=hQ (HW5.out.keep hb6)
      have HB6:=hQ (HB5.out.trans (hb6.mono (Nat.le_trans HBW.out (Nat.le_trans HB3.out.size HB5.out.size))))
      have HK6:=hQ (HK5.out.trans (Kept.below hb6))
      clear hb6 x0 x1 x2 x3 x4 x5 x6 xlt
      have hcc1:(cn:Int) ≤ (m:Int):=by have:=HCM.out;omega
      have hcc3:(m:Int) ≤ (cap:Int):=by have:=HM.out;omega
      by_cases hcc:cap = cn
      ·have HCC:=hQ hcc
       have hcc':(cap:Int) = (cn:Int):=by omega
       have HKN:=hQ (show KSlA B w3 Ka (t.kids.drop (d + cn)) from fun hne=>absurd (List.drop_eq_nil_of_le (by have:=HM.out;have:=HCM.out;have:=HD.out;omega)) hne)
       go_wp2
       go_roundg (gk - 1)
       case measure=>have:=HJ.out;have:=HLT.out;omega
       case rel=>exact ⟨j + 1,d + cn,m - cn,_,e,ml,lcap,Ka,La,_,rfl,rfl,by go_num,by have:=HJ.out;have:=HLT.out;omega,by have:=HD.out;have:=HCM.out;omega,by have:=HM.out;have:=HCM.out;omega,HE.out,HML.out,HKN.out,HLS.out,by have:=HSUM2.out;have:=HCM.out;omega,HTK2.out,HFA.out,HW6.out,HZA.out,HB6.out,HK6.out⟩
      ·have HKN:=hQ (show KSlA B w3 (Ka.map (fun x=>x.add (cn * 4))) (t.kids.drop (d + cn)) from by have:=HKS.out.resl cn;rwa [List.drop_drop] at this)
       go_wp2
       go_roundg (gk - 1)
       case measure=>have:=HJ.out;have:=HLT.out;omega
       case rel=>exact ⟨j + 1,d + cn,m - cn,_,e,ml,lcap,_,La,_,rfl,rfl,by go_num,by have:=HJ.out;have:=HLT.out;omega,by have:=HD.out;have:=HCM.out;omega,by have:=HM.out;have:=HCM.out;omega,HE.out,HML.out,HKN.out,HLS.out,by have:=HSUM2.out;have:=HCM.out;omega,HTK2.out,HFA.out,HW6.out,HZA.out,HB6.out,HK6.out⟩
   ·have HEND:=hQ (show Qhf s (Qaf t) = si from by rw [HF.out,List.drop_eq_nil_of_le (show (Qae t.kind).length ≤ j by omega),Qbo];rfl)
    have hj1:¬ (j:Int) < ((Qae t.kind).length:Int):=by omega
    go_wp2
    go_end0
    rw [HEND.out]
    exact ⟨rfl,HWR.out,HB3.out.trans HBR.out,HKP3.out.trans HKR.out⟩
 ·have HCS:=hQ (HLA3.out.resl T)
  have hv':(vlc == T) = false:=by simpa using hv
  go_wp2_with fail
  clear hv hv' htl hlc
  generalize (vla.map (fun x=>x.add T)) = cA at HCS ⊢
  generalize vlc - T = cc
  have HS0:=hQ (show Qhf s (Qaf t) = Qhf s (Qbo n t.text (t.leads.drop T) (Qae t.kind) t.leads (t.kids.map Qaf)) from by rw [HPE.out])
  have HZ0:=hQ (show s.1.length + Qf7 (Qbo n t.text (t.leads.drop T) (Qae t.kind) t.leads (t.kids.map Qaf)) < 140737488355328 from by rw [← HPE.out];exact HSZ.out)
  go_loopg [7,8,33] (Qae t.kind).length (fun g u7 u8 u33 wr=>∃ (j d m cap e ml lcap:Nat) (Ka La:Option Addr) (si:List UInt8 × ByteArray),u7 = .slice Ka m cap ∧ u8 = .slice La ml lcap ∧ u33 = .int .i64 j ∧ j + g = (Qae t.kind).length ∧ d + m = t.kids.length ∧ m ≤ cap ∧ e + ml = t.leads.length ∧ ml ≤ lcap ∧ KSlA B w3 Ka (t.kids.drop d) ∧ StrsAt (fun k=>k < B) w3 La (t.leads.drop e) ∧ sumP ((Qae t.kind).drop j) n = m ∧ Qb9 ((Qae t.kind).drop j) ≤ ml ∧ Qhf s (Qaf t) = Qhf si (Qbo n t.text (t.leads.drop T) ((Qae t.kind).drop j) (t.leads.drop e) ((t.kids.drop d).map Qaf)) ∧ WrS B b si wr ∧ si.1.length + Qf7 (Qbo n t.text (t.leads.drop T) ((Qae t.kind).drop j) (t.leads.drop e) ((t.kids.drop d).map Qaf)) < 140737488355328 ∧ Below B w3 wr ∧ Kept b w3 wr)
  case atStart=>exact ⟨0,0,_,_,0,_,_,_,_,s,rfl,rfl,rfl,by omega,by omega,HCAP.out.2,by omega,HCAP.out.1,HKA3.out,HLA3.out,HFS.out.2,by rw [List.drop_zero,HTE.out];exact HTN.out,HS0.out,HI3.out,HZ0.out,xC _ _,Kept.refl _ _⟩
  case round =>
   obtain ⟨j,d,m,cap,e,ml,lcap,Ka,La,si,rfl,rfl,rfl,hj,hd,hm,he,hml,hks,hls,hsm,htk,hf,hwr,hsz,hb,hkp⟩:=hrel
   have HJ:=hQ hj
   have HD:=hQ hd
   have HM:=hQ hm
   have HE:=hQ he
   have HML:=hQ hml
   have HKS:=hQ hks
   have HLS:=hQ hls
   have HSM:=hQ hsm
   have HTK:=hQ htk
   have HF:=hQ hf
   have HWR:=hQ hwr
   have HZ:=hQ hsz
   have HBR:=hQ hb
   have HKR:=hQ hkp
   clear hj hd hm he hml hks hls hsm htk hf hwr hsz hb hkp
   have hbsz:B ≤ wr.heap.size:=Nat.le_trans HBW.out (Nat.le_trans HB3.out.size HBR.out.size)
   have HBS:=hQ hbsz
   by_cases hlt:j < (Qae t.kind).length
   ·obtain ⟨x,hx⟩:∃ x,(Qae t.kind)[j]? = some x:=⟨_,xF hlt⟩
    have hph:=HKR.out _ _ _ _ HPH.out HPB.out (by decide)
    have hpc:=parts_at hph HPC.out j x hx
    obtain ⟨hjl,hje⟩:=List.getElem?_eq_some_iff.1 hx
    have hsm:=HSM.out
    have htk:=HTK.out
    have hf:=HF.out
    have hz:=HZ.out
    rw [List.drop_eq_getElem_cons hjl,hje] at hsm htk hf hz
    rw [sumP] at hsm
    rw [Qb9] at htk
    rw [Qbo] at hf hz
    have hc0:=countP_nonneg x n HFS.out.1
    have hr0:=sumP_nonneg ((Qae t.kind).drop (j + 1)) n HFS.out.1
    obtain ⟨cn,hcn⟩:∃ cn:Nat,Qbz x n = cn:=⟨(Qbz x n).toNat,by omega⟩
    have HRM:=hQ (fun hc=>comma_room (Qae t.kind) n HFS.out.1 j x hx hc)
    rw [hcn] at hsm hf hz
    rw [Int.toNat_natCast] at hf hz
    have hx0:=hx
    have hj0:(0:Int) ≤ (j:Int):=by omega
    have hj1:(j:Int) < ((Qae t.kind).length:Int):=by omega
    have hj2:(j:Int) + 1 ≤ 10:=by have:=HPL.out;omega
    have HLT:=hQ hlt
    have HCN:=hQ hcn
    have HSUM2:=hQ hsm
    have HCM:=hQ (show cn ≤ m from by omega)
    clear hx hjl hje hc0 hr0 hcn hph hsm
    obtain ⟨wd,nm,kd,lst,mst,se,co⟩:=x
    obtain ⟨p0,p1,p2,p3,p4,p5,p6⟩:=hpc
    have HX0:=hQ (xH wr (.cells #[.string wd,fnV nm,.int .i64 kd,.int .i64 lst,.int .i64 mst,.bool se,.bool co] 129))
    have HBX:=hQ (HBR.out.trans ((xC B wr).alloc hbsz (.cells #[.string wd,fnV nm,.int .i64 kd,.int .i64 lst,.int .i64 mst,.bool se,.bool co] 129)))
    have HKX:=hQ (HKR.out.trans (Kept.alloc b wr (.cells #[.string wd,fnV nm,.int .i64 kd,.int .i64 lst,.int .i64 mst,.bool se,.bool co] 129)))
    have HWX:=hQ (HWR.out.alloc (.cells #[.string wd,fnV nm,.int .i64 kd,.int .i64 lst,.int .i64 mst,.bool se,.bool co] 129))
    have HXB2:=hQ (show wr.heap.size ≠ b from by have:=HWR.out.1.lt;omega)
    clear hbsz
    by_cases hkd:kd = 0
    ·rw [if_neg (fun h=>h hkd)] at hf hz
     rw [if_pos hkd] at htk
     have hcn0:cn = 0:=by
      have h1:=HCN.out
      have h2:se = false:=partsP_ser t.kind _ (List.mem_of_getElem? hx0) hkd
      unfold Qbz at h1
      simp only at h1
      rw [h2,if_neg (by decide),if_neg (fun h=>h hkd)] at h1
      omega
     have hkd':(kd != 0) = false:=by simp [hkd]
     have hcap:=fn_cmp nm (HNM.out _ (List.mem_of_getElem? hx0))
     have hgrd:=fn_guard nm
     have hml0:(0:Int) < (ml:Int):=by omega
     have hmln:0 < ml:=by omega
     have hmlz:ml ≠ 0:=by omega
     have hml1:(ml:Int) ≤ (lcap:Int):=by have:=HML.out;omega
     obtain ⟨y,hy⟩:∃ y,(t.leads.drop e)[0]? = some y:=⟨_,xF (by rw [List.length_drop];have:=HE.out;omega)⟩
     obtain ⟨lb,lo,hLa,hlb,hlcs⟩:=HLS.out (by intro h;rw [h] at hy;simp at hy)
     have hly:=(xJ (w:=w3) (a:=⟨lb,lo + 0,none⟩) (HBX.out.block lb hlb)).trans (hlcs 0 y hy)
     rw [Nat.add_zero] at hly
     subst hLa
     rw [hy,Option.getD_some] at hf hz
     have HF2:=(show Qhf s (Qaf t) = Qhf (tokW si y (if nm ≠ 0 then t.text else wd)) (Qbo n t.text (t.leads.drop T) ((Qae t.kind).drop (j + 1)) (t.leads.drop (e + 1)) ((t.kids.drop d).map Qaf)) from by rw [hf,List.drop_drop];rfl)
     have HZ2:=(show si.1.length + y.size + (if nm ≠ 0 then t.text else wd).size + 1 < 140737488355328 ∧ (tokW si y (if nm ≠ 0 then t.text else wd)).1.length + Qf7 (Qbo n t.text (t.leads.drop T) ((Qae t.kind).drop (j + 1)) (t.leads.drop (e + 1)) ((t.kids.drop d).map Qaf)) < 140737488355328 from by
      rw [List.drop_drop,Qf7] at hz
      have h2:=foldW_le [(y,if nm ≠ 0 then t.text else wd)] si
      rw [foldW_one] at h2
      simp only [Qf7] at hz h2
      exact ⟨by omega,by omega⟩)
     have HTK2:=hQ (show Qb9 ((Qae t.kind).drop (j + 1)) ≤ ml - 1 from by omega)
     have HM0:=hQ hml0
     have HSUM3:=hQ (show sumP ((Qae t.kind).drop (j + 1)) n = m from by have:=HSUM2.out;rw [hcn0] at this;omega)
     have HLS2:=hQ (show StrsAt (fun k=>k < B) w3 (some ⟨lb,lo + 1,none⟩) (t.leads.drop (e + 1)) from by have:=HLS.out.resl 1;rw [List.drop_drop] at this;simpa [Addr.add] using this)
     have hG:=HKR.out _ _ _ _ HG3.out HXB.out (by decide)
     have k1:=Qab ((Below.heap_alloc wr (.cells #[.string wd,fnV nm,.int .i64 kd,.int .i64 lst,.int .i64 mst,.bool se,.bool co] 129) _ (Qaa hG)).trans hG) 1 _ rfl
     clear hx0 hkd hcn0 hy hlcs hf hz htk hG
     cases hnm:(nm != 0)
     ·have HNZ:=hQ (show (if nm ≠ 0 then t.text else wd) = wd from by simp at hnm;simp [hnm])
      have HF2':=HF2
      have HZ2':=HZ2
      rw [HNZ.out] at HF2' HZ2'
      clear HF2 HZ2
      have HF2:=hQ HF2'
      have HZ2:=hQ HZ2'
      clear HF2' HZ2'
      go_wp2_with fail
      clear p0 p1 p2 p3 p4 p5 p6
      generalize wr.alloc (.cells #[.string wd,fnV nm,.int .i64 kd,.int .i64 lst,.int .i64 mst,.bool se,.bool co] 129) = WX at HX0 HBX HKX HWX hly k1 ⊢
      generalize hxb:wr.heap.size = xb at HX0 HXB2 ⊢
      clear hxb
      obtain ⟨x0,x1,x2,x3,x4,x5,x6⟩:=Qbp (x:=⟨wd,nm,kd,lst,mst,se,co⟩) HX0.out
      have xlt:=Qaa HX0.out
      have HBWX:=hQ (Nat.le_trans HBW.out (Nat.le_trans HB3.out.size HBX.out.size))
      go_region_law (go_simp;go_at_call 152;refine (token_wr B b si y wd _ (HWX.out.keep (xC _ _).drew) HZ2.out.1 HBWX.out).mono ?_;rintro e w5 ⟨rfl,g1,g2,g3⟩;have HW5:=hQ g1;have HB5:=hQ (HBX.out.trans (((xC _ _).drew).trans g2));have HK5:=hQ ((HKX.out.trans (Kept.below (xC _ _).drew)).trans g3);clear g1 g2 g3 x0 x1 x2 x3 x4 x5 x6 xlt k1 hly)
      all_goals
       by_cases hcc:lcap = 1
       ·have HCC:=hQ hcc
        have hcc':(lcap:Int) = 1:=by omega
        have HLN:=hQ (show StrsAt (fun k=>k < B) w3 (some ⟨lb,lo,none⟩) (t.leads.drop (e + 1)) from fun hne=>absurd (List.drop_eq_nil_of_le (by have:=HE.out;have:=HML.out;have:=HM0.out;omega)) hne)
        go_wp2
        go_roundg (gk - 1)
        case measure=>have:=HJ.out;have:=HLT.out;omega
        case rel=>exact ⟨j + 1,d,m,cap,e + 1,ml - 1,_,Ka,_,_,rfl,rfl,by go_num,by have:=HJ.out;have:=HLT.out;omega,HD.out,HM.out,by have:=HE.out;have:=HM0.out;omega,by have:=HML.out;have:=HM0.out;have:=HCC.out;omega,HKS.out,HLN.out,HSUM3.out,HTK2.out,HF2.out,HW5.out,HZ2.out.2,HB5.out,HK5.out⟩
       ·go_wp2
        go_roundg (gk - 1)
        case measure=>have:=HJ.out;have:=HLT.out;omega
        case rel=>exact ⟨j + 1,d,m,cap,e + 1,ml - 1,_,Ka,_,_,rfl,rfl,by go_num,by have:=HJ.out;have:=HLT.out;omega,HD.out,HM.out,by have:=HE.out;have:=HM0.out;omega,by have:=HML.out;have:=HM0.out;omega,HKS.out,HLS2.out,HSUM3.out,HTK2.out,HF2.out,HW5.out,HZ2.out.2,HB5.out,HK5.out⟩
     ·have HNZ:=hQ (show (if nm ≠ 0 then t.text else wd) = t.text from by simp at hnm;simp [hnm])
      have HF2':=HF2
      have HZ2':=HZ2
      rw [HNZ.out] at HF2' HZ2'
      clear HF2 HZ2
      have HF2:=hQ HF2'
      have HZ2:=hQ HZ2'
      clear HF2' HZ2'
      go_wp2_with fail
      clear p0 p1 p2 p3 p4 p5 p6
      generalize wr.alloc (.cells #[.string wd,fnV nm,.int .i64 kd,.int .i64 lst,.int .i64 mst,.bool se,.bool co] 129) = WX at HX0 HBX HKX HWX hly k1 ⊢
      generalize hxb:wr.heap.size = xb at HX0 HXB2 ⊢
      clear hxb
      obtain ⟨x0,x1,x2,x3,x4,x5,x6⟩:=Qbp (x:=⟨wd,nm,kd,lst,mst,se,co⟩) HX0.out
      have xlt:=Qaa HX0.out
      have HBWX:=hQ (Nat.le_trans HBW.out (Nat.le_trans HB3.out.size HBX.out.size))
      go_region_law (go_simp;go_at_call 152;refine (token_wr B b si y t.text _ (HWX.out.keep (xC _ _).drew) HZ2.out.1 HBWX.out).mono ?_;rintro e w5 ⟨rfl,g1,g2,g3⟩;have HW5:=hQ g1;have HB5:=hQ (HBX.out.trans (((xC _ _).drew).trans g2));have HK5:=hQ ((HKX.out.trans (Kept.below (xC _ _).drew)).trans g3);clear g1 g2 g3 x0 x1 x2 x3 x4 x5 x6 xlt k1 hly)
      all_goals
       by_cases hcc:lcap = 1
       ·have HCC:=hQ hcc
        have hcc':(lcap:Int) = 1:=by omega
        have HLN:=hQ (show StrsAt (fun k=>k < B) w3 (some ⟨lb,lo,none⟩) (t.leads.drop (e + 1)) from fun hne=>absurd (List.drop_eq_nil_of_le (by have:=HE.out;have:=HML.out;have:=HM0.out;omega)) hne)
        go_wp2
        go_roundg (gk - 1)
        case measure=>have:=HJ.out;have:=HLT.out;omega
        case rel=>exact ⟨j + 1,d,m,cap,e + 1,ml - 1,_,Ka,_,_,rfl,rfl,by go_num,by have:=HJ.out;have:=HLT.out;omega,HD.out,HM.out,by have:=HE.out;have:=HM0.out;omega,by have:=HML.out;have:=HM0.out;have:=HCC.out;omega,HKS.out,HLN.out,HSUM3.out,HTK2.out,HF2.out,HW5.out,HZ2.out.2,HB5.out,HK5.out⟩
       ·go_wp2
        go_roundg (gk - 1)
        case measure=>have:=HJ.out;have:=HLT.out;omega
        case rel=>exact ⟨j + 1,d,m,cap,e + 1,ml - 1,_,Ka,_,_,rfl,rfl,by go_num,by have:=HJ.out;have:=HLT.out;omega,HD.out,HM.out,by have:=HE.out;have:=HM0.out;omega,by have:=HML.out;have:=HM0.out;omega,HKS.out,HLS2.out,HSUM3.out,HTK2.out,HF2.out,HW5.out,HZ2.out.2,HB5.out,HK5.out⟩
    ·have hkd':(kd != 0) = true:=by simpa using hkd
     rw [if_pos hkd] at hf hz
     rw [if_neg hkd,Nat.zero_add] at htk
     have HF2:=hQ hf
     have HZ2:=hQ hz
     have HTK2:=hQ htk
     clear hf hz htk hkd
     have hcc0:(0:Int) ≤ (cn:Int):=by omega
     have hcc2:(cn:Int) ≤ (cap:Int):=by have:=HM.out;have:=HCM.out;omega
     have HSA:=hQ (show si.1.length + Qf7 (Qa6 co (t.leads.drop T) 0 (((t.kids.drop d).take cn).map Qaf)) < 140737488355328 from by have:=HZ2.out;rw [sizeP_append,← List.map_take] at this;simp only at this;omega)
     have HFA:=hQ (show Qhf s (Qaf t) = Qhf (Qhf si (Qa6 co (t.leads.drop T) 0 (((t.kids.drop d).take cn).map Qaf))) (Qbo n t.text (t.leads.drop T) ((Qae t.kind).drop (j + 1)) (t.leads.drop e) ((t.kids.drop (d + cn)).map Qaf)) from by rw [HF2.out,← List.map_take,← List.map_drop,foldW_append,List.drop_drop])
     have HZA:=hQ (show (Qhf si (Qa6 co (t.leads.drop T) 0 (((t.kids.drop d).take cn).map Qaf))).1.length + Qf7 (Qbo n t.text (t.leads.drop T) ((Qae t.kind).drop (j + 1)) (t.leads.drop e) ((t.kids.drop (d + cn)).map Qaf)) < 140737488355328 from by have:=HZ2.out;have h2:=foldW_le (Qa6 co (t.leads.drop T) 0 (((t.kids.drop d).take cn).map Qaf)) si;rw [sizeP_append,← List.map_take,← List.map_drop,List.drop_drop] at this;simp only at this;omega)
     have HKT:=hQ (HKS.out.take cn)
     have HTL:=hQ (show ((t.kids.drop d).take cn).length = cn from by rw [List.length_take,List.length_drop];have:=HD.out;have:=HCM.out;omega)
     have HCML:=hQ (show (t.leads.drop T).length = t.leads.length - T from List.length_drop)
     have HKS2:=hQ (show KidsSt N ((t.kids.drop d).take cn) from fun i k hk=>by
      rw [List.getElem?_take] at hk
      split at hk
      ·rw [List.getElem?_drop] at hk
       exact HKW.out _ k hk
      ·cases hk)
     have HRC:=hQ (show co = true → ((t.kids.drop d).take cn).length ≤ (t.leads.drop T).length + 1 from fun hc=>by
      have h1:=HRM.out hc
      rw [HCN.out] at h1
      rw [HTL.out,HCML.out]
      have:=HLL.out
      have:=HTN.out
      omega)
     go_wp2_with fail
     clear p0 p1 p2 p3 p4 p5 p6
     generalize wr.alloc (.cells #[.string wd,fnV nm,.int .i64 kd,.int .i64 lst,.int .i64 mst,.bool se,.bool co] 129) = WX at HX0 HBX HKX HWX ⊢
     generalize hxb:wr.heap.size = xb at HX0 HXB2 ⊢
     clear hxb
     obtain ⟨x0,x1,x2,x3,x4,x5,x6⟩:=Qbp (x:=⟨wd,nm,kd,lst,mst,se,co⟩) HX0.out
     have xlt:=Qaa HX0.out
     have HBWX:=hQ (Nat.le_trans HBW.out (Nat.le_trans HB3.out.size HBX.out.size))
     have HTLE:=hQ (show ((t.kids.drop d).take cn).length ≤ 140737488355328 from by have:=HTL.out;have:=HCM.out;have:=HD.out;have:=HKI.out;omega)
     go_region_law (first
      | (go_simp;go_at_call 108;refine (count_syn ⟨wd,nm,kd,lst,mst,se,co⟩ n _).mono ?_;rw [HCN.out];rintro e w4 ⟨rfl,hb4⟩;have HB4:=hQ (((xC _ _).drew).trans hb4);have HX4:=hQ ((HB4.out.block xb (Qaa HX0.out)).trans HX0.out);clear hb4 x0 x1 x2 x3 x4 x5 x6 xlt;obtain ⟨x0,x1,x2,x3,x4,x5,x6⟩:=Qbp (x:=⟨wd,nm,kd,lst,mst,se,co⟩) HX4.out;have xlt:=Qaa HX4.out)
      | (go_simp;go_at_call 151;refine (kids_any HIH.out B b si ((t.kids.drop d).take cn) cn Ka cap (t.leads.drop T) _ cA cc ⟨wd,nm,kd,lst,mst,se,co⟩ _ HTL.out HCML.out HKS2.out (HKT.out.lows (HBX.out.trans (HB4.out.mono HBWX.out))) HTLE.out (HCS.out.lows (HBX.out.trans (HB4.out.mono HBWX.out))) HRC.out (HWX.out.keep HB4.out) (Nat.le_trans HBWX.out HB4.out.size) HSA.out).mono ?_;rintro e w5 ⟨rfl,g1,g2,g3⟩;have HW5:=hQ g1;have HB5:=hQ ((HBX.out.trans (HB4.out.mono HBWX.out)).trans g2);have HK5:=hQ ((HKX.out.trans (Kept.below HB4.out)).trans g3);have HX5:=hQ (g3 _ _ _ _ HX4.out HXB2.out (by decide));clear g1 g2 g3 x0 x1 x2 x3 x4 x5 x6 xlt;obtain ⟨x0,x1,x2,x3,x4,x5,x6⟩:=Qbp (x:=⟨wd,nm,kd,lst,mst,se,co⟩) HX5.out;have xlt:=Qaa HX5.out))
     all_goals
      go_wp2_with fail
      go_at_call 108
      refine (count_syn ⟨wd,nm,kd,lst,mst,se,co⟩ n _).mono ?_
      rw [HCN.out]
      rintro e w6 ⟨rfl,hb6⟩
      have HW6:=hQ (HW5.out.keep hb6)
      have HB6:=hQ (HB5.out.trans (hb6.mono (Nat.le_trans HBW.out (Nat.le_trans HB3.out.size HB5.out.size))))
      have HK6:=hQ (HK5.out.trans (Kept.below hb6))
      clear hb6 x0 x1 x2 x3 x4 x5 x6 xlt
      have hcc1:(cn:Int) ≤ (m:Int):=by have:=HCM.out;omega
      have hcc3:(m:Int) ≤ (cap:Int):=by have:=HM.out;omega
      by_cases hcc:cap = cn
      ·have HCC:=hQ hcc
       have hcc':(cap:Int) = (cn:Int):=by omega
       have HKN:=hQ (show KSlA B w3 Ka (t.kids.drop (d + cn)) from fun hne=>absurd (List.drop_eq_nil_of_le (by have:=HM.out;have:=HCM.out;have:=HD.out;omega)) hne)
       go_wp2
       go_roundg (gk - 1)
       case measure=>have:=HJ.out;have:=HLT.out;omega
       case rel=>exact ⟨j + 1,d + cn,m - cn,_,e,ml,lcap,Ka,La,_,rfl,rfl,by go_num,by have:=HJ.out;have:=HLT.out;omega,by have:=HD.out;have:=HCM.out;omega,by have:=HM.out;have:=HCM.out;omega,HE.out,HML.out,HKN.out,HLS.out,by have:=HSUM2.out;have:=HCM.out;omega,HTK2.out,HFA.out,HW6.out,HZA.out,HB6.out,HK6.out⟩
      ·have HKN:=hQ (show KSlA B w3 (Ka.map (fun x=>x.add (cn * 4))) (t.kids.drop (d + cn)) from by have:=HKS.out.resl cn;rwa [List.drop_drop] at this)
       go_wp2
       go_roundg (gk - 1)
       case measure=>have:=HJ.out;have:=HLT.out;omega
       case rel=>exact ⟨j + 1,d + cn,m - cn,_,e,ml,lcap,_,La,_,rfl,rfl,by go_num,by have:=HJ.out;have:=HLT.out;omega,by have:=HD.out;have:=HCM.out;omega,by have:=HM.out;have:=HCM.out;omega,HE.out,HML.out,HKN.out,HLS.out,by have:=HSUM2.out;have:=HCM.out;omega,HTK2.out,HFA.out,HW6.out,HZA.out,HB6.out,HK6.out⟩
   ·have HEND:=hQ (show Qhf s (Qaf t) = si from by rw [HF.out,List.drop_eq_nil_of_le (show (Qae t.kind).length ≤ j by omega),Qbo];rfl)
    have hj1:¬ (j:Int) < ((Qae t.kind).length:Int):=by omega
    go_wp2
    go_end0
    rw [HEND.out]
    exact ⟨rfl,HWR.out,HB3.out.trans HBR.out,HKP3.out.trans HKR.out⟩
end Go.Proofs.YtnnfdbmanamfdaaGreat
