/- Part 50: Plain: the modules of the laws TypesChains and TypesCycles, and what package types answers of them. -/
import Derived.Test.YtclkilljmdkfaaaTy1
import Derived.Test.YtclkilljmdkfaaaTy49
set_option maxRecDepth 100000
set_option maxHeartbeats 4000000
namespace Go.Proofs.Ytclkilljmdkfaaa
open Go.RowKit
def Qbg (i:Nat):ByteArray:=⟨#[84,UInt8.ofNat (97 + i)]⟩
def Qak (n:Nat) (back:Int) (i:Nat):Tr:=if i + 1 = n then (if 0 ≤ back then Qa5 (Qbg back.toNat) else Qcs 5) else Qa5 (Qbg (i + 1))
def bitC (ls:List Bool) (i:Nat):Bool:=(ls[i]?).getD false
def Qea (n:Nat) (ls:List Bool) (back:Int) (i:Nat):Tr:=if bitC ls i = true then .mk 8 ⟨#[]⟩ [] [Qak n back i] else Qak n back i
def Qc2 (n:Nat) (ls:List Bool) (back:Int) (i:Nat):Tr:=.mk 3 (Qbg i) [] [Qea n ls back i]
def Qal (n:Nat) (ls:List Bool) (back:Int):Tr:=.mk 1 ⟨#[77]⟩ [] ((List.range n).map (Qc2 n ls back))
theorem nameC_inj {i j:Nat} (hi:i < 100) (hj:j < 100) (h:Qbg i = Qbg j):i = j:=by
 have e:UInt8.ofNat (97 + i) = UInt8.ofNat (97 + j):=by
  unfold Qbg at h
  injection h with h
  have h2:=congrArg (fun a:Array UInt8=>a[1]?) h
  simpa using h2
 have e2:=congrArg UInt8.toNat e
 simp only [UInt8.toNat_ofNat'] at e2
 omega
theorem tab_names:((List.range 21).all fun i=>Qa6 (Qae 3) (Qbg i) && Qa6 (Qae 9) (Qbg i) && !(divP (Qbg i)).2.2) = true:=by kernel_rfl
theorem nameC_tab {i:Nat} (h:i < 21):Qa6 (Qae 3) (Qbg i) = true ∧ Qa6 (Qae 9) (Qbg i) = true ∧ (divP (Qbg i)).2.2 = false:=by
 have:=List.all_eq_true.1 tab_names i (List.mem_range.2 h)
 simp only [Bool.and_eq_true,Bool.not_eq_true'] at this
 exact ⟨this.1.1,this.1.2,this.2⟩
theorem nameC_div {i:Nat} (h:i < 21):(divP (Qbg i)).2.1 = Qbg i:=by
 have h1:=(nameC_tab h).2.2
 unfold divP at h1 ⊢
 split
 ·rename_i hd
  rw [if_pos hd] at h1
  cases h1
 ·rfl
theorem chain_get {n:Nat} {ls:List Bool} {back:Int} {i:Nat} (h:i < n):(Qal n ls back).kids[i]? = some (Qc2 n ls back i):=by
 show ((List.range n).map (Qc2 n ls back))[i]? = _
 rw [List.getElem?_map,List.getElem?_range h]
 rfl
theorem Qe2 (n:Nat) (ls:List Bool) (back:Int):(Qal n ls back).kids.length = n:=by
 show ((List.range n).map (Qc2 n ls back)).length = n
 rw [List.length_map,List.length_range]
theorem Qe3 {n:Nat} {ls:List Bool} {back:Int} {i:Nat} (hn:n ≤ 20) (h:i < n):Qaw [Qal n ls back] 0 (Qbg i) = (0,(i:Int),true):=by
 have hk:kidG (Qal n ls back).kids (Qbg i) = i:=by
  refine kid_here _ _ i (Qc2 n ls back i) (fun j t hj ht e=>?_) (chain_get h) rfl
  rw [chain_get (by omega)] at ht
  injection ht with ht
  rw [← ht] at e
  have:=nameC_inj (by omega) (by omega) (show Qbg j = Qbg i from e)
  omega
 unfold Qaw
 rw [if_neg (by rw [(nameC_tab (i:=i) (by omega)).2.2];decide),nameC_div (by omega)]
 unfold Qc9
 have hx:([Qal n ls back][0]?).getD noTr = Qal n ls back:=rfl
 rw [hx,hk,Qe2,if_pos h]
 rfl
theorem defT_chain {n:Nat} {ls:List Bool} {back:Int} {i:Nat} (h:i < n):defT [Qal n ls back] 0 i = Qc2 n ls back i:=defT_get (t:=Qal n ls back) rfl (chain_get h)
theorem inner_kind (n:Nat) (back:Int) (i:Nat):(Qak n back i).kind = 9 ∨ (Qak n back i).kind = 5:=by
 unfold Qak
 split
 ·split
  ·exact .inl rfl
  ·exact .inr rfl
 ·exact .inl rfl
theorem Qe4 (n:Nat) (ls:List Bool) (back:Int) (i:Nat):Qa2 (Qea n ls back i) = Qak n back i ∧ Qa7 (Qea n ls back i) = if bitC ls i = true then 1 else 0:=by
 have h8:(Qak n back i).kind ≠ 8:=by rcases inner_kind n back i with h | h <;> rw [h] <;> decide
 unfold Qea
 split
 ·have:=core_list (t:=.mk 8 ⟨#[]⟩ [] [Qak n back i]) (k:=Qak n back i) (r:=[]) rfl rfl
  rw [this.1,this.2,(Qdm h8).1,(Qdm h8).2]
  exact ⟨rfl,rfl⟩
 ·exact Qdm h8
theorem typeD_chain {n:Nat} {ls:List Bool} {back:Int} {i:Nat} (h:i < n):typeD [Qal n ls back] 0 i = Qea n ls back i:=by unfold typeD;rw [defT_chain h];rfl
theorem leafD_chain {n:Nat} {ls:List Bool} {back:Int} {i:Nat} (h:i < n):Qcq (defT [Qal n ls back] 0 i) = Qak n back i:=by rw [defT_chain h];exact (Qe4 n ls back i).1
theorem shr_name {j:Nat} (h:j < 21):Qa1 (Qa5 (Qbg j)) = true:=by
 have h1:=(nameC_tab h).2.1
 rw [Qb7]
 have e1:(Qa5 (Qbg j)).kind = 9:=rfl
 have e2:(Qa5 (Qbg j)).kids = []:=rfl
 have e3:(Qa5 (Qbg j)).text = Qbg j:=rfl
 rw [e1,e2,e3,h1,Qa0]
 rfl
theorem shr_inner {n:Nat} {back:Int} {i:Nat} (hn:n ≤ 20) (hi:i < n) (hb:back < 20):Qa1 (Qak n back i) = true:=by
 unfold Qak
 split
 ·split
  ·exact shr_name (by omega)
  ·kernel_rfl
 ·exact shr_name (by omega)
theorem hasB_inner (n:Nat) (back:Int) (i:Nat):Qde 3 (Qak n back i).kind = true:=by rcases inner_kind n back i with h | h <;> rw [h] <;> rfl
theorem shr_type {n:Nat} {ls:List Bool} {back:Int} {i:Nat} (hn:n ≤ 20) (hi:i < n) (hb:back < 20):Qa1 (Qea n ls back i) = true:=by
 unfold Qea
 split
 ·rw [Qb7]
  have e1:(Tr.mk 8 ⟨#[]⟩ [] [Qak n back i]).kind = 8:=rfl
  have e2:(Tr.mk 8 ⟨#[]⟩ [] [Qak n back i]).kids = [Qak n back i]:=rfl
  have e3:(Tr.mk 8 ⟨#[]⟩ [] [Qak n back i]).text = ⟨#[]⟩:=rfl
  rw [e1,e2,e3,Qa0,Qa0,shr_inner hn hi hb]
  have e4:kidR 8 [Qak n back i].length 0 (Qak n back i).kind = Qde 3 (Qak n back i).kind:=rfl
  rw [e4,hasB_inner]
  rfl
 ·exact shr_inner hn hi hb
theorem hasB_typeC (n:Nat) (ls:List Bool) (back:Int) (i:Nat):Qde 3 (Qea n ls back i).kind = true:=by
 unfold Qea
 split
 ·rfl
 ·exact hasB_inner n back i
theorem shr_alias {n:Nat} {ls:List Bool} {back:Int} {i:Nat} (hn:n ≤ 20) (hi:i < n) (hb:back < 20):Qa1 (Qc2 n ls back i) = true:=by
 rw [Qb7]
 have e1:(Qc2 n ls back i).kind = 3:=rfl
 have e2:(Qc2 n ls back i).kids = [Qea n ls back i]:=rfl
 have e3:(Qc2 n ls back i).text = Qbg i:=rfl
 rw [e1,e2,e3,(nameC_tab (i:=i) (by omega)).1,Qa0,Qa0,shr_type hn hi hb]
 have e4:kidR 3 [Qea n ls back i].length 0 (Qea n ls back i).kind = Qde 3 (Qea n ls back i).kind:=rfl
 rw [e4,hasB_typeC]
 rfl
theorem shRL_defs (n:Nat):(l:List Tr) → (i:Nat) → (∀ k ∈ l,k.kind = 3 ∧ Qa1 k = true) → Qa0 1 n i l = true
 | [],i,_=>by rw [Qa0]
 | a :: r,i,h=>by
  have ha:=h a (by simp)
  rw [Qa0,ha.2,shRL_defs n r (i + 1) fun k hk=>h k (by simp [hk]),ha.1]
  rfl
theorem size_inner (n:Nat) (back:Int) (i:Nat):Qao (Qak n back i) = 1:=by
 unfold Qak Qa5 Qcs
 split
 ·split <;> rw [Qao,Qah]
 ·rw [Qao,Qah]
theorem size_type (n:Nat) (ls:List Bool) (back:Int) (i:Nat):Qao (Qea n ls back i) ≤ 2:=by
 unfold Qea
 split
 ·rw [Qao,Qah,Qah,size_inner];omega
 ·rw [size_inner];omega
theorem size_alias (n:Nat) (ls:List Bool) (back:Int) (i:Nat):Qao (Qc2 n ls back i) ≤ 3:=by
 unfold Qc2
 rw [Qao,Qah,Qah]
 have:=size_type n ls back i
 omega
theorem size_maps (f:Nat → Tr) (hf:∀ i,Qao (f i) ≤ 3):(l:List Nat) → Qah (l.map f) ≤ 3 * l.length
 | []=>by rw [List.map_nil,Qah];omega
 | a :: r=>by
  rw [List.map_cons,Qah,xD]
  have h1:=hf a
  have h2:=size_maps f hf r
  omega
theorem size_chain {n:Nat} (ls:List Bool) (back:Int) (hn:n ≤ 20):Qao (Qal n ls back) ≤ 61:=by
 unfold Qal
 rw [Qao]
 have:=size_maps (Qc2 n ls back) (size_alias n ls back) (List.range n)
 rw [List.length_range] at this
 omega
theorem prog_chain {n:Nat} (ls:List Bool) {back:Int} (hn:n ≤ 20) (hb:back < 20):Qbv [Qal n ls back] = true:=by
 unfold Qbv
 rw [List.all_eq_true]
 intro t ht
 obtain rfl:=List.mem_singleton.1 ht
 have hk:(Qal n ls back).kind = 1:=rfl
 rw [← Qbq _ _ (xA _) (Nat.le_trans (size_chain ls back hn) (by decide)),Qb7,hk,shRL_defs _ _ _ (fun k hk=>by
  obtain ⟨i,hi,rfl⟩:=List.mem_map.1 hk
  exact ⟨rfl,shr_alias hn (List.mem_range.1 hi) hb⟩)]
 have e1:Qa6 (Qae 1) (Qal n ls back).text = true:=by show Qa6 (Qae 1) ⟨#[77]⟩ = true;kernel_rfl
 have e2:Qey 1 (Qal n ls back).kids.length = 3:=by
  have:Qey 1 (Qal n ls back).kids.length = if (0:Int) ≤ ((Qal n ls back).kids.length:Int) then 3 else -1:=rfl
  rw [this,if_pos (by omega)]
 rw [e1,e2]
 rfl
theorem two_max:2 < maxLen:=by unfold maxLen;omega
theorem fit_inner (n:Nat) (back:Int) (i:Nat):fitT (Qak n back i) = true:=by
 unfold Qak Qa5 Qcs
 split
 ·split <;> exact Qeo (by simp) (by simp) (fun t ht=>by simp at ht)
 ·exact Qeo (by simp) (by simp) (fun t ht=>by simp at ht)
theorem fit_chain {n:Nat} (ls:List Bool) (back:Int) (hn:n ≤ 20):fitT (Qa3 [Qal n ls back]) = true:=by
 refine Qeo (by simp) (by simp) fun t ht=>?_
 obtain rfl:=List.mem_singleton.1 ht
 refine Qeo (by simp) (by rw [List.length_map,List.length_range];omega) fun t ht=>?_
 obtain ⟨i,_,rfl⟩:=List.mem_map.1 ht
 refine Qeo (by simp) (by simp) fun t ht=>?_
 obtain rfl:=List.mem_singleton.1 ht
 unfold Qea
 split
 ·refine Qeo (by simp) (by simp) fun t ht=>?_
  obtain rfl:=List.mem_singleton.1 ht
  exact fit_inner n back i
 ·exact fit_inner n back i
theorem zero_max:(⟨#[]⟩:ByteArray).size < maxLen:=by show 0 < maxLen;unfold maxLen;omega
theorem words_inner (n:Nat) (back:Int) (i:Nat):Qa9 (Qak n back i) = true:=by
 unfold Qak Qa5 Qcs
 split
 ·split
  ·exact Qcm two_max (fun t ht=>by simp at ht)
  ·exact Qcm zero_max (fun t ht=>by simp at ht)
 ·exact Qcm two_max (fun t ht=>by simp at ht)
theorem words_chain (n:Nat) (ls:List Bool) (back:Int):Qa9 (Qa3 [Qal n ls back]) = true:=by
 refine Qcm zero_max fun t ht=>?_
 obtain rfl:=List.mem_singleton.1 ht
 refine Qcm (show 1 < maxLen by unfold maxLen;omega) fun t ht=>?_
 obtain ⟨i,_,rfl⟩:=List.mem_map.1 ht
 refine Qcm two_max fun t ht=>?_
 obtain rfl:=List.mem_singleton.1 ht
 unfold Qea
 split
 ·refine Qcm zero_max fun t ht=>?_
  obtain rfl:=List.mem_singleton.1 ht
  exact words_inner n back i
 ·exact words_inner n back i
def cntC (ls:List Bool):Nat → Nat → Nat
 | _,0=>0
 | i,k + 1=>(if bitC ls i = true then 1 else 0) + cntC ls (i + 1) k
theorem cntC_succ (ls:List Bool) (i k:Nat):cntC ls i (k + 1) = (if bitC ls i = true then 1 else 0) + cntC ls (i + 1) k:=rfl
theorem goL_chain {n:Nat} (ls:List Bool) (hn:n ≤ 20):(k f i:Nat) → (met:List (Int × Int)) → (n0:Nat) → i + k + 1 = n → k < f → (∀ j:Nat,((0:Int),(j:Int)) ∈ met → j < i) → goL [Qal n ls (-1)] f (0,(i:Int),true) met n0 = some (0,n0 + cntC ls i (k + 1),5)
 | 0,0,_,_,_,_,h,_=>by omega
 | k + 1,0,_,_,_,_,h,_=>by omega
 | 0,f + 1,i,met,n0,hi,_,hm=>by
  have hl:i < n:=by omega
  have hin:(Qak n (-1) i).kind = 5:=by unfold Qak;rw [if_pos (by omega),if_neg (by decide)];rfl
  rw [goL,if_pos rfl,if_neg (fun h=>by have:=hm i h;omega)]
  simp only [Int.toNat_natCast,Int.toNat_zero]
  rw [typeD_chain hl,(Qe4 n ls (-1) i).1,(Qe4 n ls (-1) i).2,hin,if_neg (by decide),cntC,cntC]
  rfl
 | k + 1,f + 1,i,met,n0,hi,hf,hm=>by
  have hl:i < n:=by omega
  have hin:Qak n (-1) i = Qa5 (Qbg (i + 1)):=by unfold Qak;rw [if_neg (by omega)]
  rw [goL,if_pos rfl,if_neg (fun h=>by have:=hm i h;omega)]
  simp only [Int.toNat_natCast,Int.toNat_zero]
  rw [typeD_chain hl,(Qe4 n ls (-1) i).1,(Qe4 n ls (-1) i).2,hin]
  have e1:(Qa5 (Qbg (i + 1))).kind = 9:=rfl
  have e2:(Qa5 (Qbg (i + 1))).text = Qbg (i + 1):=rfl
  rw [e1,if_pos rfl,e2,Qe3 hn (by omega),goL_chain ls hn k f (i + 1) _ _ (by omega) (by omega) (fun j hj=>by
   rcases List.mem_append.1 hj with h | h
   ·have:=hm j h;omega
   ·rw [List.mem_singleton] at h
    injection h with _ h
    omega),cntC_succ ls i (k + 1),Nat.add_assoc]
theorem flat_at {ps:List Tr} {m:Nat} {j:Nat} (hg:Qbv ps = true) (hm:m < ps.length) (hj:j < 21):Qck ps m (Qa5 (Qbg j)) = (goL ps (Qah ps + 1) (Qaw ps m (Qbg j)) [] 0).getD (0,0,0):=by
 have hz:Qai (Qa5 (Qbg j)) = true:=by rw [← Qbq _ _ (xA _) (name_size _)];exact shr_name hj
 have ht:5 ≤ (Qa5 (Qbg j)).kind ∧ (Qa5 (Qbg j)).kind ≤ 9:=by show (5:Int) ≤ 9 ∧ (9:Int) ≤ 9;omega
 rw [flat_res hg (by omega) (by omega) ht hz]
 have hc:=Qdm (t:=Qa5 (Qbg j)) (show (9:Int) ≠ 8 by decide)
 unfold resP
 rw [hc.1,hc.2]
 exact if_pos rfl
theorem size_root (n:Nat) (ls:List Bool) (back:Int):n ≤ Qah [Qal n ls back]:=by
 rw [Qah,Qah,Qbd]
 have h:=Qas (Qal n ls back).kids
 rw [Qe2] at h
 omega
theorem flat_chain {n:Nat} (ls:List Bool) (hn:n ≤ 20) (h0:0 < n):Qck [Qal n ls (-1)] 0 (Qa5 (Qbg 0)) = (0,cntC ls 0 n,5):=by
 have h:=flat_at (m:=0) (j:=0) (prog_chain (back:=-1) ls hn (by decide)) (by simp) (by omega)
 rw [show ((0:Nat):Int) = 0 from rfl] at h
 rw [h,Qe3 hn h0]
 obtain ⟨k,rfl⟩:∃ k,n = k + 1:=⟨n - 1,by omega⟩
 have h2:=goL_chain ls hn k (Qah [Qal (k + 1) ls (-1)] + 1) 0 [] 0 (by omega) (by have:=size_root (k + 1) ls (-1);omega) (fun j hj=>by simp at hj)
 rw [show ((0:Nat):Int) = 0 from rfl] at h2
 rw [show ((0:Nat):Int) = 0 from rfl,h2,Nat.zero_add]
 rfl
def nxC (n b i:Nat):Nat:=if i + 1 = n then b else i + 1
theorem inner_cyc {n b i:Nat}:Qak n (b:Int) i = Qa5 (Qbg (nxC n b i)):=by
 unfold Qak nxC
 split
 ·rw [if_pos (by omega),Int.toNat_natCast]
 ·rfl
theorem nx_lt {n b i:Nat} (hb:b < n) (hi:i < n):nxC n b i < n:=by unfold nxC;split <;> omega
theorem goL_cyc {n b:Nat} (ls:List Bool) (hn:n ≤ 20) (hb:b < n):(f i:Nat) → (met:List (Int × Int)) → (n0:Nat) → (R:Int × Nat × Int) → i < n → goL [Qal n ls (b:Int)] f (0,(i:Int),true) met n0 = some R → R = (19,0,0)
 | 0,_,_,_,_,_,h=>by rw [goL] at h;cases h
 | f + 1,i,met,n0,R,hi,h=>by
  rw [goL,if_pos rfl] at h
  split at h
  ·injection h with h
   exact h.symm
  ·simp only [Int.toNat_natCast,Int.toNat_zero] at h
   rw [typeD_chain hi,(Qe4 n ls (b:Int) i).1,inner_cyc] at h
   have e1:(Qa5 (Qbg (nxC n b i))).kind = 9:=rfl
   have e2:(Qa5 (Qbg (nxC n b i))).text = Qbg (nxC n b i):=rfl
   rw [e1,if_pos rfl,e2,Qe3 hn (nx_lt hb hi)] at h
   exact goL_cyc ls hn hb f _ _ _ R (nx_lt hb hi) h
theorem flat_cyc {n b i:Nat} (ls:List Bool) (hn:n ≤ 20) (hb:b < n) (hi:i < n):Qck [Qal n ls (b:Int)] 0 (Qa5 (Qbg i)) = (19,0,0):=by
 have h:=flat_at (m:=0) (j:=i) (prog_chain ls hn (show (b:Int) < 20 by omega)) (by simp) (by omega)
 rw [show ((0:Nat):Int) = 0 from rfl] at h
 rw [h,Qe3 hn hi]
 obtain ⟨R,hR⟩:=goL_total [Qal n ls (b:Int)] (Qah [Qal n ls (b:Int)] + 1) (0,(i:Int),true) [] 0 List.nodup_nil (by simp) (fun _=>⟨0,i,_,_,rfl,rfl,chain_get hi⟩) (by simp)
 rw [hR,goL_cyc ls hn hb _ _ _ _ _ hi hR]
 rfl
theorem step_chain {n:Nat} {ls:List Bool} {back:Int} {i j:Nat} (hn:n ≤ 20) (hi:i < n) (hj:j < n) (h:Qak n back i = Qa5 (Qbg j)):Qca [Qal n ls back] (0,(i:Int)) = some (0,(j:Int)):=by
 unfold Qca
 simp only [Int.toNat_natCast,Int.toNat_zero]
 rw [leafD_chain hi,h]
 have e2:(Qa5 (Qbg j)).text = Qbg j:=rfl
 rw [e2,Qe3 hn hj,defT_chain hi]
 rfl
theorem step_end {n:Nat} {ls:List Bool} {i:Nat} (hi:i + 1 = n):Qca [Qal n ls (-1)] (0,(i:Int)) = none:=by
 unfold Qca
 simp only [Int.toNat_natCast,Int.toNat_zero]
 have hin:(Qak n (-1) i).kind = 5:=by unfold Qak;rw [if_pos hi,if_neg (by decide)];rfl
 rw [leafD_chain (by omega),hin]
 exact if_neg (fun h=>by have:=h.2.2.2.1;omega)
theorem circ_above {n:Nat} {ls:List Bool} {back:Int} {i:Nat} (hs:∀ (j:Nat) (a:Pr),i ≤ j → Qca [Qal n ls back] (0,(j:Int)) = some a → ∃ k:Nat,a = (0,(k:Int)) ∧ i < k):(f:Nat) → (oa:Option Pr) → (met L:List Pr) → (∀ a,oa = some a → ∃ k:Nat,a = (0,(k:Int)) ∧ i < k) → (∀ a ∈ met,∃ k:Nat,a = (0,(k:Int)) ∧ i < k) → Qep (Qca [Qal n ls back]) f oa met = some L → ∀ a ∈ L,∃ k:Nat,a = (0,(k:Int)) ∧ i < k
 | 0,_,_,_,_,_,h=>by rw [Qep] at h;cases h
 | f + 1,none,met,L,_,hm,h=>by rw [circL_none h];exact hm
 | f + 1,some a,met,L,ho,hm,h=>by
  by_cases hx:a ∈ met
  ·rw [circL_met h hx];exact hm
  ·obtain ⟨f',hf,h2⟩:=circL_next h hx
   obtain rfl:f' = f:=by omega
   obtain ⟨k,hk,hik⟩:=ho a rfl
   refine circ_above hs f' _ _ L (fun b hb=>?_) (fun b hb=>?_) h2
   ·rw [hk] at hb
    exact hs k b (by omega) hb
   ·rcases List.mem_append.1 hb with hb | hb
    ·exact hm b hb
    ·rw [List.mem_singleton] at hb
     rw [hb]
     exact ⟨k,hk,hik⟩
theorem circ_not {n:Nat} {ls:List Bool} {back:Int} {i:Nat} (hs:∀ (j:Nat) (a:Pr),i ≤ j → Qca [Qal n ls back] (0,(j:Int)) = some a → ∃ k:Nat,a = (0,(k:Int)) ∧ i < k):circG [Qal n ls back] 0 (i:Int) = false:=by
 unfold circG
 have h:=circ_above hs _ _ _ _ (fun a ha=>hs i a (xA _) ha) (by simp) (circP_go [Qal n ls back] (0,(i:Int)))
 rw [decide_eq_false (fun hm=>by obtain ⟨k,hk,hik⟩:=h _ hm;injection hk with _ hk;omega),Bool.and_false]
theorem step_dom {ps:List Tr} {a b:Pr} (h:Qca ps a = some b):InD ps a:=by
 unfold Qca at h
 split at h
 ·rename_i hc
  obtain ⟨c1,c2,c3,_⟩:=hc
  obtain ⟨t,k,ht,hk,_⟩:=defT_some c3
  obtain ⟨x,y⟩:=a
  simp only at c1 c2 ht hk
  exact ⟨x.toNat,y.toNat,t,k,by rw [Int.toNat_of_nonneg c1,Int.toNat_of_nonneg c2],ht,hk⟩
 ·cases h
theorem circ_chain {n:Nat} (ls:List Bool) (hn:n ≤ 20):circG [Qal n ls (-1)] 0 0 = false:=by
 refine circ_not (i:=0) fun j a _ h=>?_
 by_cases hj:j < n
 ·by_cases he:j + 1 = n
  ·rw [step_end he] at h;cases h
  ·rw [step_chain hn hj (j:=j + 1) (by omega) (by unfold Qak;rw [if_neg he])] at h
   injection h with h
   exact ⟨j + 1,h.symm,by omega⟩
 ·obtain ⟨m,d,t,k,ha,h1,h2⟩:=step_dom h
  injection ha with e1 e2
  have e1:m = 0:=by omega
  have e2:d = j:=by omega
  subst e1 e2
  injection h1 with h1
  rw [← h1] at h2
  have:=(List.getElem?_eq_some_iff.1 h2).1
  rw [Qe2] at this
  omega
theorem circ_closed (g:Pr → Option Pr):(f:Nat) → (oa:Option Pr) → (met L:List Pr) → (∀ x ∈ met,∀ y,g x = some y → y ∈ met ∨ oa = some y) → Qep g f oa met = some L → (∀ a,oa = some a → a ∈ L) ∧ (∀ x ∈ met,x ∈ L) ∧ (∀ x ∈ L,∀ y,g x = some y → y ∈ L)
 | 0,_,_,_,_,h=>by rw [Qep] at h;cases h
 | f + 1,none,met,L,hv,h=>by
  rw [circL_none h]
  exact ⟨fun a ha=>(by cases ha),fun _ hx=>hx,fun x hx y hy=>(hv x hx y hy).resolve_right fun h=>(by cases h)⟩
 | f + 1,some a,met,L,hv,h=>by
  by_cases hx:a ∈ met
  ·rw [circL_met h hx]
   refine ⟨fun b hb=>(by injection hb with hb;exact hb ▸ hx),fun _ h=>h,fun x hx' y hy=>?_⟩
   rcases hv x hx' y hy with h1 | h1
   ·exact h1
   ·injection h1 with h1
    exact h1 ▸ hx
  ·obtain ⟨f',hf,h2⟩:=circL_next h hx
   obtain rfl:f' = f:=by omega
   obtain ⟨_,q2,q3⟩:=circ_closed g f' _ _ L (fun x hxm y hy=>by
    rcases List.mem_append.1 hxm with h1 | h1
    ·rcases hv x h1 y hy with h3 | h3
     ·exact .inl (List.mem_append_left _ h3)
     ·injection h3 with h3
      exact .inl (List.mem_append_right _ (by rw [h3];exact List.mem_singleton.2 rfl))
    ·rw [List.mem_singleton] at h1
     rw [h1] at hy
     exact .inr hy) h2
   exact ⟨fun b hb=>by injection hb with hb;exact q2 b (List.mem_append_right _ (by rw [hb];exact List.mem_singleton.2 rfl)),fun x hx=>q2 x (List.mem_append_left _ hx),q3⟩
theorem step_cyc {n b i:Nat} (ls:List Bool) (hn:n ≤ 20) (hb:b < n) (hi:i < n):Qca [Qal n ls (b:Int)] (0,(i:Int)) = some (0,((nxC n b i:Nat):Int)):=step_chain hn hi (nx_lt hb hi) inner_cyc
theorem circ_up {L:List Pr} {n b:Nat} (ls:List Bool) (hn:n ≤ 20) (hb:b < n) (hc:∀ x ∈ L,∀ y,Qca [Qal n ls (b:Int)] x = some y → y ∈ L) (i:Nat) (h:((0:Int),(i:Int)) ∈ L):(k:Nat) → i + k < n → ((0:Int),((i + k:Nat):Int)) ∈ L
 | 0,_=>h
 | k + 1,hk=>by
  have h1:=circ_up ls hn hb hc i h k (by omega)
  have h2:=hc _ h1 _ (step_cyc ls hn hb (by omega))
  have e:nxC n b (i + k) = i + (k + 1):=by unfold nxC;rw [if_neg (by omega)];rfl
  rw [e] at h2
  exact h2
theorem circ_cyc {n b i:Nat} (ls:List Bool) (hn:n ≤ 20) (hb:b < n) (hi:i < n):circG [Qal n ls (b:Int)] 0 (i:Int) = decide ((b:Int) ≤ (i:Int)):=by
 by_cases hbi:b ≤ i
 ·rw [decide_eq_true (by omega)]
  unfold circG
  rw [prog_chain (back:=(b:Int)) ls hn (by omega),Bool.true_and]
  obtain ⟨q1,_,q3⟩:=circ_closed _ _ _ _ _ (fun x hx=>by simp at hx) (circP_go [Qal n ls (b:Int)] (0,(i:Int)))
  have h1:=q1 _ (step_cyc ls hn hb hi)
  have hB:((0:Int),(b:Int)) ∈ circP [Qal n ls (b:Int)] (0,(i:Int)):=by
   by_cases he:i + 1 = n
   ·have e:nxC n b i = b:=by unfold nxC;rw [if_pos he]
    rw [e] at h1
    exact h1
   ·have e:nxC n b i = i + 1:=by unfold nxC;rw [if_neg he]
    rw [e] at h1
    have h2:=circ_up ls hn hb q3 (i + 1) h1 (n - 1 - (i + 1)) (by omega)
    have e2:i + 1 + (n - 1 - (i + 1)) = n - 1:=by omega
    rw [e2] at h2
    have h3:=q3 _ h2 _ (step_cyc ls hn hb (by omega))
    have e3:nxC n b (n - 1) = b:=by unfold nxC;rw [if_pos (by omega)]
    rw [e3] at h3
    exact h3
  have h4:=circ_up ls hn hb q3 b hB (i - b) (by omega)
  rw [show b + (i - b) = i from by omega] at h4
  exact decide_eq_true h4
 ·rw [decide_eq_false (by omega)]
  refine circ_not fun j a hj h=>?_
  by_cases hjn:j < n
  ·rw [step_cyc ls hn hb hjn] at h
   injection h with h
   refine ⟨nxC n b j,h.symm,?_⟩
   unfold nxC
   split <;> omega
  ·obtain ⟨m,d,t,k,ha,h1,h2⟩:=step_dom h
   injection ha with e1 e2
   have e1:m = 0:=by omega
   have e2:d = j:=by omega
   subst e1 e2
   injection h1 with h1
   rw [← h1] at h2
   have:=(List.getElem?_eq_some_iff.1 h2).1
   rw [Qe2] at this
   omega
end Go.Proofs.Ytclkilljmdkfaaa
