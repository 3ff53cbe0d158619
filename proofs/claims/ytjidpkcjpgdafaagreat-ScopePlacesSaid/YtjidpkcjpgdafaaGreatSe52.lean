/- Part 52 -/
import Derived.Test.YtjidpkcjpgdafaaGreatSe39
set_option maxRecDepth 100000
set_option maxHeartbeats 4000000
namespace Go.Proofs.YtjidpkcjpgdafaaGreat
open Go.RowKit Go.Shelf
theorem Qup:(Tryz.prog.info? 9).map (fun i=>(i.zero,i.size,i.bytes))=some (some (.string ⟨#[]⟩),1,16):=by kernel_rfl
def AddL (l:List ByteArray) (x:ByteArray) (w:World) (i:Value) (wr:World):Prop:=∃ k:Nat,i = .int .i64 (k:Int)∧k≤Qeq l x∧wr=w
theorem Zbh (l:List ByteArray) (x y:ByteArray) (h:l[Qeq l x]? = some y):ltS y x=false:=by
 induction l with
 | nil=>simp at h
 | cons a r ih =>
  rw [Qku] at h
  split at h
  ·exact ih (by simpa using h)
  ·rename_i ha
   injection h with h;subst h
   simpa using ha
theorem Qik {w w':World} {B:Nat} {e:TypeId} {s:Nat} {v:Value} {n:Nat} {xs:List Value} (h:w.ownsRow B e s v n xs) (hb:Below w.heap.size w w'):w'.ownsRow B e s v n xs:=by
 refine ⟨h.1,?_⟩
 rcases h.2 with h0|⟨g,cap,cur,hv,hb',hh,hr⟩
 ·exact .inl h0
 ·exact .inr ⟨g,cap,cur,hv,hb',(hb.block g (Qaa hh)).trans hh,hr⟩
theorem Zdz (B g n c:Nat) (l:List ByteArray) (x:ByteArray) (w:World) (h:NRow w B (.slice (some ⟨g,0,none⟩) n c) l) (hl:l.length≤100000) (hB:B≤w.heap.size) :
  Calls Tryz.prog 74 #[.slice (some ⟨g,0,none⟩) n c,.string x] w fun e w'=>∃ u,e = .returned u∧NRow w' B u (Ql3 l x)∧Below w.heap.size w w':=by
 obtain ⟨it,hit,iz0,iz1,iz2⟩:=info_parts Qup;obtain ⟨e,_,gl,hnc,hcm,_,hc⟩:=h.cells;subst e;have HR:=hQ h;have HC:=hQ hc;have HB:=hQ hB;have HL:=hQ hl;have hli:(l.length:Int)≤100000:=by omega
 have hci:(l.length:Int)≤(c:Int):=by omega
 have hcb:(c:Int)≤9223372036854775807:=by unfold maxLen at hcm;omega
 have HSL:=hQ (Ql2 l x);clear h hc hB hl hcm
 go_enter Tryz.func74,Tryz.ntmps74
 go_wp2_with fail
 go_loopw [5] (fun i wr=>AddL l x w i wr) (fun i _=>l.length-(intOf i).toNat)
 case atStart=>exact ⟨0,rfl,xZ _,rfl⟩
 case round =>
  obtain ⟨k,rfl,hk,hw⟩:=hrel;subst hw;have k0:(0:Int)≤(k:Int):=by omega
  have k2:(k:Int)+1≤100001:=by have:=HSL.out;omega
  by_cases hlt:k<Qeq l x
  ·obtain ⟨y,hy,hyx⟩:=Qj5 l x k hlt;have c0:=HC.out k y hy;have k1:(k:Int)<(l.length:Int):=by have:=HSL.out;omega
   have e1:Op.bytesLess y.toList x.toList=true:=hyx;clear hy hyx;go_wp2_with fail
   go_roundw
   case measure=>first | (simp [intOf];done) | (simp [intOf];omega)
   case rel=>exact ⟨k+1,rfl,by omega,rfl⟩
  ·have hks:k=Qeq l x:=by omega
   have HKS:=hQ hks
   by_cases hkl:k<l.length
   ·obtain ⟨y,hy⟩:∃ y,l[k]? = some y:=⟨_,xF hkl⟩;have e1:Op.bytesLess y.toList x.toList=false:=Zbh l x y (by rw [←hks];exact hy);have c0:=HC.out k y hy;have k1:(k:Int)<(l.length:Int):=by omega
    by_cases hyx:y=x
    ·have HA:=hQ (show Ql3 l x=l from by unfold Ql3;rw [←hks,hy,hyx,xO rfl]);have e2:(y.toList==x.toList)=true:=by rw [hyx];simp
     clear hy hks hlt hyx hk hkl;go_wp2_with fail
     go_ret
     exact ⟨_,rfl,by rw [HA.out];exact HR.out,xC _ _⟩
    ·have HA:=hQ (show Ql3 l x=l.take k ++ x :: l.drop k from by unfold Ql3;rw [←hks,hy,xN (fun e=>hyx (by injection e))])
     have e2:(y.toList==x.toList)=false:=by
      rw [beq_eq_false_iff_ne];exact fun e=>hyx (Qm1 e)
     have hck:¬ (c:Int)=(k:Int):=by omega
     have hck2:¬ c=k:=by omega
     clear hy hks hlt hyx hk hkl;have HO1:=hQ (show (wr.alloc (.cells #[] 9)).ownsRow wr.heap.size 9 1 (.slice (some ⟨wr.heap.size,0,none⟩) 0 0) 0 [] from ⟨rfl,.inr ⟨wr.heap.size,0,#[],rfl,xA _,xH wr _,xA _,xZ _,rfl,rfl⟩⟩);have HA1:=hQ (Qai wr (.cells #[] 9));have HLK:=hQ (show ((l.take k).map Value.string).length=k*1 from by rw [List.length_map,List.length_take];omega);have HLD:=hQ (show ((l.drop k).map Value.string).length=(l.length-k)*1 from by rw [List.length_map,List.length_drop];omega)
     have HN1:=hQ (show ∀ (j:Nat) (u:Value),((l.take k).map Value.string)[j]? = some u→(wr.alloc (.cells #[] 9)).cell? ((⟨g,0,none⟩:Addr).add j)=some u from fun j u hu=>by
      rw [List.getElem?_map,Option.map_eq_some_iff] at hu;obtain ⟨z,hz,rfl⟩:=hu;have hj:=(xP.1 hz).1;rw [List.length_take] at hj;rw [List.getElem?_take_of_lt (by omega)] at hz;rw [Addr.add_lit,Nat.zero_add];exact (HA1.out.cell (p:=⟨g,j,none⟩) gl).trans (HC.out j z hz))
     have HM1:=hQ (show 0+k≤maxLen from by have:=HL.out;unfold maxLen;omega);have HM2:=hQ (show (0+k)*16≤140737488355328 from by have:=HL.out;omega);have HM3:=hQ (show k+1≤maxLen from by have:=HL.out;unfold maxLen;omega);have HM4:=hQ (show (k+1)*16≤140737488355328 from by have:=HL.out;omega);have HM5:=hQ (show k+1+(l.length-k)≤maxLen from by have:=HL.out;unfold maxLen;omega);have HM6:=hQ (show (k+1+(l.length-k))*16≤140737488355328 from by have:=HL.out;omega);have HS1:=hQ (show wr.heap.size≤(wr.alloc (.cells #[] 9)).heap.size from HA1.out.size);have GL:=hQ gl
     go_wp2_with (first
      | (at_builtin;refine wpList_append_own _ rfl _ _ 27 rfl wr.heap.size 9 it _ 1 16 Tryz.underlying27 hit iz0 iz1 iz2 rfl (by decide) (.slice (some ⟨wr.heap.size,0,none⟩) 0 0) 0 [] rfl HO1.out ⟨g,0,none⟩ k _ ((l.take k).map Value.string) rfl HLK.out HN1.out (Qdx _) HM1.out HM2.out HS1.out ?_;intro v1 w1 hown hgr _;simp only [Nat.zero_add,xU] at hown;have HB1:=hQ (HA1.out.grown hgr HS1.out (fun k hk=>by injection hk with hk;subst hk;exact xA _));obtain ⟨A1,c1,hv1⟩:=Qca hown;subst hv1;have HO2:=hQ (Qik hown (Qai w1 (.cells #[.string x] 9)));have HA2:=hQ (HB1.out.trans ((Qai w1 (.cells #[.string x] 9)).mono HB1.out.size));have HN2:=hQ (show ∀ (j:Nat) (u:Value),([.string x]:List Value)[j]? = some u→(w1.alloc (.cells #[.string x] 9)).cell? ((⟨w1.heap.size,0,none⟩:Addr).add j)=some u from fun j u hu=>by rw [Addr.add_lit,Nat.zero_add];exact Qab (xH w1 _) j u (by rw [←Array.getElem?_toList];exact hu));clear hown hgr)
      | (at_builtin;refine wpList_append_own _ rfl _ _ 27 rfl wr.heap.size 9 it _ 1 16 Tryz.underlying27 hit iz0 iz1 iz2 rfl (by decide) (.slice A1 k c1) k ((l.take k).map Value.string) rfl HO2.out ⟨w1.heap.size,0,none⟩ 1 1 [.string x] rfl rfl HN2.out (Qdx [x]) HM3.out HM4.out HA2.out.size ?_;intro v2 w2 hown hgr _;have HB2:=hQ (HA2.out.grown hgr HA2.out.size (fun k hk=>(World.ownsRow.lt HO2.out k hk).1));obtain ⟨A2,c2,hv2⟩:=Qca hown;subst hv2;have HO3:=hQ hown;have HN3:=hQ (show ∀ (j:Nat) (u:Value),((l.drop k).map Value.string)[j]? = some u→w2.cell? ((⟨g,k,none⟩:Addr).add j)=some u from fun j u hu=>by rw [List.getElem?_map,Option.map_eq_some_iff] at hu;obtain ⟨z,hz,rfl⟩:=hu;rw [List.getElem?_drop] at hz;rw [Addr.add_lit];exact (HB2.out.cell (p:=⟨g,k+j,none⟩) GL.out).trans (HC.out (k+j) z hz));clear hown hgr)
      | (at_builtin;refine wpList_append_own _ rfl _ _ 27 rfl wr.heap.size 9 it _ 1 16 Tryz.underlying27 hit iz0 iz1 iz2 rfl (by decide) (.slice A2 (k+1) c2) (k+1) _ rfl HO3.out ⟨g,k,none⟩ (l.length-k) _ ((l.drop k).map Value.string) rfl HLD.out HN3.out (Qdx _) HM5.out HM6.out HB2.out.size ?_;intro v3 w3 hown hgr _;have HB3:=hQ (HB2.out.grown hgr HB2.out.size (fun k hk=>(World.ownsRow.lt HO3.out k hk).1));have HO4:=hQ hown;clear hown hgr))
     go_ret
     refine ⟨_,rfl,?_,HB3.out⟩;rw [HA.out];have h:=Qfl HO4.out HB.out;have e:k+1+(l.length-k)=(l.take k ++ x :: l.drop k).length:=by rw [xB,xD,List.length_take,List.length_drop];omega
     rw [e] at h;unfold NRow;rw [show (l.take k ++ x :: l.drop k).map Value.string=(l.take k).map Value.string ++ [Value.string x] ++ (l.drop k).map Value.string from by simp];exact h
   ·have hkn:k=l.length:=by have:=HSL.out;omega
    have HA:=hQ (show Ql3 l x=l.take k ++ x :: l.drop k from by unfold Ql3;rw [←hks,hkn,List.getElem?_eq_none (xA _),xN (fun e=>by cases e)]);have k1:¬ ((k:Int)<(l.length:Int)):=by omega
    have hkl2:(k:Int)≤(l.length:Int):=by omega
    by_cases hck2:c=k
    ·obtain rfl:k=c:=hck2.symm;have HKN:=hQ hkn;clear hks hlt hk hkl hkn;have HO1:=hQ (show (wr.alloc (.cells #[] 9)).ownsRow wr.heap.size 9 1 (.slice (some ⟨wr.heap.size,0,none⟩) 0 0) 0 [] from ⟨rfl,.inr ⟨wr.heap.size,0,#[],rfl,xA _,xH wr _,xA _,xZ _,rfl,rfl⟩⟩);have HA1:=hQ (Qai wr (.cells #[] 9));have HLK:=hQ (show ((l.take k).map Value.string).length=k*1 from by rw [List.length_map,List.length_take];omega);have HLD:=hQ (show ((l.drop k).map Value.string).length=0*1 from by rw [List.length_map,List.length_drop];have:=HKN.out;omega)
     have HN1:=hQ (show ∀ (j:Nat) (u:Value),((l.take k).map Value.string)[j]? = some u→(wr.alloc (.cells #[] 9)).cell? ((⟨g,0,none⟩:Addr).add j)=some u from fun j u hu=>by
      rw [List.getElem?_map,Option.map_eq_some_iff] at hu;obtain ⟨z,hz,rfl⟩:=hu;have hj:=(xP.1 hz).1;rw [List.length_take] at hj;rw [List.getElem?_take_of_lt (by omega)] at hz;rw [Addr.add_lit,Nat.zero_add];exact (HA1.out.cell (p:=⟨g,j,none⟩) gl).trans (HC.out j z hz))
     have HM1:=hQ (show 0+k≤maxLen from by have:=HL.out;unfold maxLen;omega);have HM2:=hQ (show (0+k)*16≤140737488355328 from by have:=HL.out;omega);have HM3:=hQ (show k+1≤maxLen from by have:=HL.out;unfold maxLen;omega);have HM4:=hQ (show (k+1)*16≤140737488355328 from by have:=HL.out;omega);have HM5:=hQ (show k+1+0≤maxLen from by have:=HL.out;unfold maxLen;omega);have HM6:=hQ (show (k+1+0)*16≤140737488355328 from by have:=HL.out;omega);have HS1:=hQ (show wr.heap.size≤(wr.alloc (.cells #[] 9)).heap.size from HA1.out.size);have GL:=hQ gl
     go_wp2_with (first
      | (at_builtin;refine wpList_append_own _ rfl _ _ 27 rfl wr.heap.size 9 it _ 1 16 Tryz.underlying27 hit iz0 iz1 iz2 rfl (by decide) (.slice (some ⟨wr.heap.size,0,none⟩) 0 0) 0 [] rfl HO1.out ⟨g,0,none⟩ k _ ((l.take k).map Value.string) rfl HLK.out HN1.out (Qdx _) HM1.out HM2.out HS1.out ?_;intro v1 w1 hown hgr _;simp only [Nat.zero_add,xU] at hown;have HB1:=hQ (HA1.out.grown hgr HS1.out (fun k hk=>by injection hk with hk;subst hk;exact xA _));obtain ⟨A1,c1,hv1⟩:=Qca hown;subst hv1;have HO2:=hQ (Qik hown (Qai w1 (.cells #[.string x] 9)));have HA2:=hQ (HB1.out.trans ((Qai w1 (.cells #[.string x] 9)).mono HB1.out.size));have HN2:=hQ (show ∀ (j:Nat) (u:Value),([.string x]:List Value)[j]? = some u→(w1.alloc (.cells #[.string x] 9)).cell? ((⟨w1.heap.size,0,none⟩:Addr).add j)=some u from fun j u hu=>by rw [Addr.add_lit,Nat.zero_add];exact Qab (xH w1 _) j u (by rw [←Array.getElem?_toList];exact hu));clear hown hgr)
      | (at_builtin;refine wpList_append_own _ rfl _ _ 27 rfl wr.heap.size 9 it _ 1 16 Tryz.underlying27 hit iz0 iz1 iz2 rfl (by decide) (.slice A1 k c1) k ((l.take k).map Value.string) rfl HO2.out ⟨w1.heap.size,0,none⟩ 1 1 [.string x] rfl rfl HN2.out (Qdx [x]) HM3.out HM4.out HA2.out.size ?_;intro v2 w2 hown hgr _;have HB2:=hQ (HA2.out.grown hgr HA2.out.size (fun k hk=>(World.ownsRow.lt HO2.out k hk).1));obtain ⟨A2,c2,hv2⟩:=Qca hown;subst hv2;have HO3:=hQ hown;have HN3:=hQ (show ∀ (j:Nat) (u:Value),((l.drop k).map Value.string)[j]? = some u→w2.cell? ((⟨g,0,none⟩:Addr).add j)=some u from fun j u hu=>by rw [List.drop_eq_nil_of_le (by have:=HKN.out;omega)] at hu;simp at hu);clear hown hgr)
      | (at_builtin;refine wpList_append_own _ rfl _ _ 27 rfl wr.heap.size 9 it _ 1 16 Tryz.underlying27 hit iz0 iz1 iz2 rfl (by decide) (.slice A2 (k+1) c2) (k+1) _ rfl HO3.out ⟨g,0,none⟩ 0 _ ((l.drop k).map Value.string) rfl HLD.out HN3.out (Qdx _) HM5.out HM6.out HB2.out.size ?_;intro v3 w3 hown hgr _;have HB3:=hQ (HB2.out.grown hgr HB2.out.size (fun k hk=>(World.ownsRow.lt HO3.out k hk).1));have HO4:=hQ hown;clear hown hgr))
     go_ret
     refine ⟨_,rfl,?_,HB3.out⟩;rw [HA.out];have h:=Qfl HO4.out HB.out;have e:k+1+0=(l.take k ++ x :: l.drop k).length:=by rw [xB,xD,List.length_take,List.length_drop];have:=HKN.out;omega
     rw [e] at h;unfold NRow;rw [show (l.take k ++ x :: l.drop k).map Value.string=(l.take k).map Value.string ++ [Value.string x] ++ (l.drop k).map Value.string from by simp];exact h
    ·have hck:¬ (c:Int)=(k:Int):=by omega
     have HKN:=hQ hkn;clear hks hlt hk hkl hkn;have HO1:=hQ (show (wr.alloc (.cells #[] 9)).ownsRow wr.heap.size 9 1 (.slice (some ⟨wr.heap.size,0,none⟩) 0 0) 0 [] from ⟨rfl,.inr ⟨wr.heap.size,0,#[],rfl,xA _,xH wr _,xA _,xZ _,rfl,rfl⟩⟩);have HA1:=hQ (Qai wr (.cells #[] 9));have HLK:=hQ (show ((l.take k).map Value.string).length=k*1 from by rw [List.length_map,List.length_take];omega);have HLD:=hQ (show ((l.drop k).map Value.string).length=(l.length-k)*1 from by rw [List.length_map,List.length_drop];omega)
     have HN1:=hQ (show ∀ (j:Nat) (u:Value),((l.take k).map Value.string)[j]? = some u→(wr.alloc (.cells #[] 9)).cell? ((⟨g,0,none⟩:Addr).add j)=some u from fun j u hu=>by
      rw [List.getElem?_map,Option.map_eq_some_iff] at hu;obtain ⟨z,hz,rfl⟩:=hu;have hj:=(xP.1 hz).1;rw [List.length_take] at hj;rw [List.getElem?_take_of_lt (by omega)] at hz;rw [Addr.add_lit,Nat.zero_add];exact (HA1.out.cell (p:=⟨g,j,none⟩) gl).trans (HC.out j z hz))
     have HM1:=hQ (show 0+k≤maxLen from by have:=HL.out;unfold maxLen;omega);have HM2:=hQ (show (0+k)*16≤140737488355328 from by have:=HL.out;omega);have HM3:=hQ (show k+1≤maxLen from by have:=HL.out;unfold maxLen;omega);have HM4:=hQ (show (k+1)*16≤140737488355328 from by have:=HL.out;omega);have HM5:=hQ (show k+1+(l.length-k)≤maxLen from by have:=HL.out;unfold maxLen;omega);have HM6:=hQ (show (k+1+(l.length-k))*16≤140737488355328 from by have:=HL.out;omega);have HS1:=hQ (show wr.heap.size≤(wr.alloc (.cells #[] 9)).heap.size from HA1.out.size);have GL:=hQ gl
     go_wp2_with (first
      | (at_builtin;refine wpList_append_own _ rfl _ _ 27 rfl wr.heap.size 9 it _ 1 16 Tryz.underlying27 hit iz0 iz1 iz2 rfl (by decide) (.slice (some ⟨wr.heap.size,0,none⟩) 0 0) 0 [] rfl HO1.out ⟨g,0,none⟩ k _ ((l.take k).map Value.string) rfl HLK.out HN1.out (Qdx _) HM1.out HM2.out HS1.out ?_;intro v1 w1 hown hgr _;simp only [Nat.zero_add,xU] at hown;have HB1:=hQ (HA1.out.grown hgr HS1.out (fun k hk=>by injection hk with hk;subst hk;exact xA _));obtain ⟨A1,c1,hv1⟩:=Qca hown;subst hv1;have HO2:=hQ (Qik hown (Qai w1 (.cells #[.string x] 9)));have HA2:=hQ (HB1.out.trans ((Qai w1 (.cells #[.string x] 9)).mono HB1.out.size));have HN2:=hQ (show ∀ (j:Nat) (u:Value),([.string x]:List Value)[j]? = some u→(w1.alloc (.cells #[.string x] 9)).cell? ((⟨w1.heap.size,0,none⟩:Addr).add j)=some u from fun j u hu=>by rw [Addr.add_lit,Nat.zero_add];exact Qab (xH w1 _) j u (by rw [←Array.getElem?_toList];exact hu));clear hown hgr)
      | (at_builtin;refine wpList_append_own _ rfl _ _ 27 rfl wr.heap.size 9 it _ 1 16 Tryz.underlying27 hit iz0 iz1 iz2 rfl (by decide) (.slice A1 k c1) k ((l.take k).map Value.string) rfl HO2.out ⟨w1.heap.size,0,none⟩ 1 1 [.string x] rfl rfl HN2.out (Qdx [x]) HM3.out HM4.out HA2.out.size ?_;intro v2 w2 hown hgr _;have HB2:=hQ (HA2.out.grown hgr HA2.out.size (fun k hk=>(World.ownsRow.lt HO2.out k hk).1));obtain ⟨A2,c2,hv2⟩:=Qca hown;subst hv2;have HO3:=hQ hown;have HN3:=hQ (show ∀ (j:Nat) (u:Value),((l.drop k).map Value.string)[j]? = some u→w2.cell? ((⟨g,k,none⟩:Addr).add j)=some u from fun j u hu=>by rw [List.drop_eq_nil_of_le (by have:=HKN.out;omega)] at hu;simp at hu);clear hown hgr)
      | (at_builtin;refine wpList_append_own _ rfl _ _ 27 rfl wr.heap.size 9 it _ 1 16 Tryz.underlying27 hit iz0 iz1 iz2 rfl (by decide) (.slice A2 (k+1) c2) (k+1) _ rfl HO3.out ⟨g,k,none⟩ (l.length-k) _ ((l.drop k).map Value.string) rfl HLD.out HN3.out (Qdx _) HM5.out HM6.out HB2.out.size ?_;intro v3 w3 hown hgr _;have HB3:=hQ (HB2.out.grown hgr HB2.out.size (fun k hk=>(World.ownsRow.lt HO3.out k hk).1));have HO4:=hQ hown;clear hown hgr))
     go_ret
     refine ⟨_,rfl,?_,HB3.out⟩;rw [HA.out];have h:=Qfl HO4.out HB.out;have e:k+1+(l.length-k)=(l.take k ++ x :: l.drop k).length:=by rw [xB,xD,List.length_take,List.length_drop];omega
     rw [e] at h;unfold NRow;rw [show (l.take k ++ x :: l.drop k).map Value.string=(l.take k).map Value.string ++ [Value.string x] ++ (l.drop k).map Value.string from by simp];exact h
theorem Zgh (x:ByteArray) (w:World):Calls Tryz.prog 74 #[.slice none 0 0,.string x] w fun e w'=>∃ u,e = .returned u∧NRow w' w.heap.size u [x]∧Below w.heap.size w w':=by
 obtain ⟨it,hit,iz0,iz1,iz2⟩:=info_parts Qup;have HO1:=hQ (show ((w.alloc (.cells #[] 9)).alloc (.cells #[.string x] 9)).ownsRow w.heap.size 9 1 (.slice (some ⟨w.heap.size,0,none⟩) 0 0) 0 [] from ⟨rfl,.inr ⟨w.heap.size,0,#[],rfl,xA _,((Qai (w.alloc (.cells #[] 9)) _).block _ (by rw [xI];omega)).trans (xH w _),xA _,xZ _,rfl,rfl⟩⟩);have HA1:=hQ (show Below w.heap.size w ((w.alloc (.cells #[] 9)).alloc (.cells #[.string x] 9)) from (Qai w _).trans ((Qai _ _).mono (by rw [xI];omega)))
 have HN2:=hQ (show ∀ (j:Nat) (u:Value),([.string x]:List Value)[j]? = some u→((w.alloc (.cells #[] 9)).alloc (.cells #[.string x] 9)).cell? ((⟨w.heap.size+1,0,none⟩:Addr).add j)=some u from fun j u hu=>by
  rw [Addr.add_lit,Nat.zero_add];have h:=xH (w.alloc (.cells #[] 9)) (.cells #[.string x] 9);rw [xI] at h;exact Qab h j u (by rw [←Array.getElem?_toList];exact hu))
 have HX:=hQ (Qdx [x]);have HM:0+1≤maxLen:=by unfold maxLen;omega
 go_enter Tryz.func74,Tryz.ntmps74
 go_wp2_with fail
 go_loopw [5] (fun i wr=>i = .int .i64 0∧wr=w) (fun _ _=>0)
 case atStart=>exact ⟨rfl,rfl⟩
 case round =>
  obtain ⟨rfl,hw⟩:=hrel;subst hw
  go_wp2_with (first
   | (at_builtin;refine Qc8 rfl _ _ 27 rfl 9 it Tryz.underlying27 hit (ad:=⟨wr.heap.size,0,none⟩) (n:=0) (cap:=0) rfl (xA _) rfl rfl ?_)
   | (at_builtin;refine wpList_append_own _ rfl _ _ 27 rfl wr.heap.size 9 it _ 1 16 Tryz.underlying27 hit iz0 iz1 iz2 rfl (by decide) (.slice (some ⟨wr.heap.size,0,none⟩) 0 0) 0 [] rfl HO1.out ⟨wr.heap.size+1,0,none⟩ 1 1 [.string x] rfl rfl HN2.out HX.out HM (by omega) HA1.out.size ?_;intro v2 w2 hown hgr _;have HB2:=hQ (HA1.out.grown hgr HA1.out.size (fun k hk=>by injection hk with hk;subst hk;exact xA _));obtain ⟨g2,c2,hv2,_,_⟩:=World.ownsRow.form hown (by omega);subst hv2;have hcp:=Qgk hown;have HO3:=hQ hown;clear hown hgr)
   | (at_builtin;refine Qc8 rfl _ _ 27 rfl 9 it Tryz.underlying27 hit (ad:=⟨g2,0,none⟩) (n:=1) (cap:=c2) rfl hcp rfl rfl ?_))
  go_ret
  exact ⟨_,rfl,HO3.out,HB2.out⟩
theorem Zgi (B:Nat) (v:Value) (l:List ByteArray) (x:ByteArray) (w:World) (h:NRow w B v l) (hl:l.length≤100000) (hB:B≤w.heap.size) :
  Calls Tryz.prog 74 #[v,.string x] w fun e w'=>∃ u,e = .returned u∧NRow w' B u (Ql3 l x)∧Below w.heap.size w w':=by
 rcases h.2 with ⟨rfl,h0⟩|⟨g,cap,cur,hv,_⟩
 ·obtain rfl:=List.eq_nil_of_length_eq_zero h0;exact (Zgh x w).mono fun _ _ ⟨u,e,hu,hb⟩=>⟨u,e,Qfl hu hB,hb⟩
 ·subst hv;exact Zdz B g l.length cap l x w h hl hB
end Go.Proofs.YtjidpkcjpgdafaaGreat
