/- Part 25: The contract of the writer's token; the tokens of a tree, and its text; plain. The contract of (*writer).kids, given tree's. -/
import Derived.Test.YtnnfdbmanamfdaaGreatSt1
import Derived.Test.YtnnfdbmanamfdaaGreatSt10
import Derived.Test.YtnnfdbmanamfdaaGreatSt4
import Derived.Test.YtnnfdbmanamfdaaGreatSt24
import Derived.Deep.LoopGhost
set_option maxRecDepth 100000
set_option maxHeartbeats 4000000
namespace Go.Proofs.YtnnfdbmanamfdaaGreat
open Go.RowKit
def sepW (last lead text:ByteArray):ByteArray:=if lead.size = 0 ∧ Qfs last text = true then ⟨#[32]⟩ else lead
def tokW (s:List UInt8 × ByteArray) (lead text:ByteArray):List UInt8 × ByteArray:=(s.1 ++ (sepW s.2 lead text).data.toList ++ text.data.toList,text)
def WrS (B b:Nat) (s:List UInt8 × ByteArray) (w:World):Prop:=IsWr B b (Lib.byteCells s.1) s.2 w ∧ s.2.size ≤ s.1.length
theorem writeS {B b:Nat} {l:List UInt8} {last:ByteArray} (x:ByteArray) (w:World) (h:IsWr B b (Lib.byteCells l) last w) (hlen:l.length + x.size ≤ 140737488355328) (hBw:B ≤ w.heap.size) :
  Calls Tryz.prog 178 #[.pointer (some ⟨b,0,none⟩),.string x] w fun e w'=>e = .returned (.tuple #[.int .i64 x.size,.nilIface]) ∧ (IsWr B b (Lib.byteCells (l ++ x.data.toList)) last w' ∧ Below B w w' ∧ Kept b w w'):=by
 refine (writeString_anyW B b (Lib.byteCells l) last x w h (by rw [Lib.byteCells_length];exact hlen) hBw).mono ?_
 rintro e w' ⟨h1,h2,h3,h4⟩
 refine ⟨h1,.inr ?_,h3,h4⟩
 have:Lib.byteCells (l ++ x.data.toList) = Lib.byteCells l ++ Lib.strCells x:=by unfold Lib.byteCells Lib.strCells;rw [List.map_append]
 rw [this]
 exact h2
theorem WrAt.cell2 {B b:Nat} {p:Value} {bs:List Value} {last:ByteArray} {w:World} (h:WrAt B b p bs last w):w.cell? ⟨b,2,none⟩ = some (.string last) ∧ w.frozen? ⟨b,2,none⟩ = false:=by
 obtain ⟨_,v,hb,_⟩:=h
 exact ⟨by rw [Lib.cell_of_heap hb];rfl,Lib.frozen_of_heap hb 2⟩
theorem IsWr.cell2 {B b:Nat} {bs:List Value} {last:ByteArray} {w:World} (h:IsWr B b bs last w):w.cell? ⟨b,2,none⟩ = some (.string last) ∧ w.frozen? ⟨b,2,none⟩ = false:=h.elim (·.cell2) (·.cell2)
theorem WrAt.base {B b:Nat} {p:Value} {bs:List Value} {last:ByteArray} {w:World} (h:WrAt B b p bs last w):B ≤ b:=h.1
theorem IsWr.base {B b:Nat} {bs:List Value} {last:ByteArray} {w:World} (h:IsWr B b bs last w):B ≤ b:=h.elim (·.base) (·.base)
theorem WrAt.last {B b:Nat} {p:Value} {bs:List Value} {last:ByteArray} {w:World} (h:WrAt B b p bs last w) (x:ByteArray):WrAt B b p bs x (w.setCell ⟨b,2,none⟩ (.string x)):=by
 obtain ⟨hB,v,hb,hown,hne⟩:=h
 refine ⟨hB,v,?_,own_cell hown hne _,hne⟩
 rw [heap_cell hb]
 rfl
theorem IsWr.last {B b:Nat} {bs:List Value} {last:ByteArray} {w:World} (h:IsWr B b bs last w) (x:ByteArray):IsWr B b bs x (w.setCell ⟨b,2,none⟩ (.string x)):=h.imp (·.last x) (·.last x)
theorem WrAt.keep {B b:Nat} {p:Value} {bs:List Value} {last:ByteArray} {w w':World} (h:WrAt B b p bs last w) (hb:Below w.heap.size w w'):WrAt B b p bs last w':=by
 obtain ⟨hB,v,hh,hown,hne⟩:=h
 refine ⟨hB,v,(hb.block b (Qaa hh)).trans hh,?_,hne⟩
 obtain ⟨h1,h2⟩:=hown
 refine ⟨h1,?_⟩
 rcases h2 with h2 | ⟨g,cap,cur,hv,hg,hx,r⟩
 ·exact .inl h2
 ·exact .inr ⟨g,cap,cur,hv,hg,(hb.block g (Qaa hx)).trans hx,r⟩
theorem IsWr.keep {B b:Nat} {bs:List Value} {last:ByteArray} {w w':World} (h:IsWr B b bs last w) (hb:Below w.heap.size w w'):IsWr B b bs last w':=h.imp (·.keep hb) (·.keep hb)
theorem Kept.below {b:Nat} {w w':World} (h:Below w.heap.size w w'):Kept b w w':=fun k _ _ _ h1 _ _=>(h.block k (Qaa h1)).trans h1
theorem size_zero {x:ByteArray} (h:x.size = 0):x = ⟨#[]⟩:=by
 obtain ⟨d⟩:=x
 have:d.size = 0:=h
 rw [Array.eq_empty_of_size_eq_zero this]
theorem token_wr (B b:Nat) (s:List UInt8 × ByteArray) (lead text:ByteArray) (w:World) (h:WrS B b s w) (hlen:s.1.length + lead.size + text.size + 1 < 140737488355328) (hBw:B ≤ w.heap.size) :
  Calls Tryz.prog 152 #[.pointer (some ⟨b,0,none⟩),.string lead,.string text] w fun e w'=>e = .returned (.tuple #[]) ∧ WrS B b (tokW s lead text) w' ∧ Below B w w' ∧ Kept b w w':=by
 obtain ⟨l,last⟩:=s
 obtain ⟨h,hls⟩:=h
 simp only at h hls hlen
 obtain ⟨c2,f2⟩:=h.cell2
 have HI:=hQ h
 have HLS:=hQ hls
 have HBW:=hQ hBw
 have HLEN:=hQ hlen
 clear h hls hlen hBw
 have HFN:=hQ (show last.size + text.size < maxLen from by have:=HLEN.out;have:=HLS.out;unfold maxLen;omega)
 by_cases hz:lead.size = 0
 ·have:=size_zero hz
  subst this
  cases hf:Qfs last text
  ·have HS:=hQ (show tokW (l,last) ⟨#[]⟩ text = (l ++ (⟨#[]⟩:ByteArray).data.toList ++ text.data.toList,text) from by unfold tokW sepW;rw [hf];rfl)
   go_enter Tryz.func152,Tryz.ntmps152
   go_wp2_with fail
   go_at_call 177
   refine (fuses_any last text _ HFN.out).mono ?_
   rw [hf]
   rintro e w1 ⟨rfl,hb1⟩
   have HB1:=hQ hb1
   clear hb1 c2 f2
   go_wp2_with fail
   go_at_call 178
   refine (writeS (l:=l) ⟨#[]⟩ _ (HI.out.keep HB1.out) (by have:=HLEN.out;have:=(show (⟨#[]⟩:ByteArray).size = 0 from rfl);omega) (by have:=HB1.out.size;have:=HBW.out;omega)).mono ?_
   rintro e w2 ⟨rfl,hi2,hb2,hk2⟩
   have HI2:=hQ hi2
   have HB2:=hQ ((HB1.out.mono HBW.out).trans hb2)
   have HK2:=hQ ((Kept.below HB1.out).trans hk2)
   clear hi2 hb2 hk2
   go_wp2_with fail
   go_at_call 178
   refine (writeS text _ HI2.out (by have:=HLEN.out;have:=(show (⟨#[]⟩:ByteArray).size = 0 from rfl);simp;omega) (by have:=HB2.out.size;have:=HBW.out;omega)).mono ?_
   rintro e w3 ⟨rfl,hi3,hb3,hk3⟩
   have HI3:=hQ hi3
   have HB3:=hQ (HB2.out.trans hb3)
   have HK3:=hQ (HK2.out.trans hk3)
   obtain ⟨d2,g2⟩:=hi3.cell2
   clear hi3 hb3 hk3
   go_wp2
   go_end0
   rw [HS.out]
   exact ⟨rfl,⟨HI3.out.last text,by simp only [xB,Array.length_toList];exact Nat.le_add_left _ _⟩,HB3.out.setCell (p:=⟨b,2,none⟩) HI3.out.base _,HK3.out.trans (Kept.set _ _)⟩
  ·have HS:=hQ (show tokW (l,last) ⟨#[]⟩ text = (l ++ (⟨#[32]⟩:ByteArray).data.toList ++ text.data.toList,text) from by unfold tokW sepW;rw [hf];rfl)
   go_enter Tryz.func152,Tryz.ntmps152
   go_wp2_with fail
   go_at_call 177
   refine (fuses_any last text _ HFN.out).mono ?_
   rw [hf]
   rintro e w1 ⟨rfl,hb1⟩
   have HB1:=hQ hb1
   clear hb1 c2 f2
   go_wp2_with fail
   go_at_call 178
   refine (writeS (l:=l) ⟨#[32]⟩ _ (HI.out.keep HB1.out) (by have:=HLEN.out;have:=(show (⟨#[32]⟩:ByteArray).size = 1 from rfl);omega) (by have:=HB1.out.size;have:=HBW.out;omega)).mono ?_
   rintro e w2 ⟨rfl,hi2,hb2,hk2⟩
   have HI2:=hQ hi2
   have HB2:=hQ ((HB1.out.mono HBW.out).trans hb2)
   have HK2:=hQ ((Kept.below HB1.out).trans hk2)
   clear hi2 hb2 hk2
   go_wp2_with fail
   go_at_call 178
   refine (writeS text _ HI2.out (by have:=HLEN.out;have:=(show (⟨#[32]⟩:ByteArray).size = 1 from rfl);simp;omega) (by have:=HB2.out.size;have:=HBW.out;omega)).mono ?_
   rintro e w3 ⟨rfl,hi3,hb3,hk3⟩
   have HI3:=hQ hi3
   have HB3:=hQ (HB2.out.trans hb3)
   have HK3:=hQ (HK2.out.trans hk3)
   obtain ⟨d2,g2⟩:=hi3.cell2
   clear hi3 hb3 hk3
   go_wp2
   go_end0
   rw [HS.out]
   exact ⟨rfl,⟨HI3.out.last text,by simp only [xB,Array.length_toList];exact Nat.le_add_left _ _⟩,HB3.out.setCell (p:=⟨b,2,none⟩) HI3.out.base _,HK3.out.trans (Kept.set _ _)⟩
 ·have HS:=hQ (show tokW (l,last) lead text = (l ++ lead.data.toList ++ text.data.toList,text) from by unfold tokW sepW;rw [if_neg (fun e=>hz e.1)])
  have hz':lead.toList.isEmpty = false:=by
   rw [ByteArray.toList_eq]
   cases he:lead.data.toList with
   | nil=>exact absurd (show lead.data.size = 0 from by rw [← Array.length_toList,he];rfl) hz
   | cons a r=>rfl
  go_enter Tryz.func152,Tryz.ntmps152
  go_wp2_with fail
  go_at_call 178
  refine (writeS (l:=l) lead _ HI.out (by have:=HLEN.out;omega) HBW.out).mono ?_
  rintro e w2 ⟨rfl,hi2,hb2,hk2⟩
  have HI2:=hQ hi2
  have HB2:=hQ hb2
  have HK2:=hQ hk2
  clear hi2 hb2 hk2
  go_wp2_with fail
  go_at_call 178
  refine (writeS text _ HI2.out (by have:=HLEN.out;simp only [xB,Array.length_toList];have e:lead.data.size = lead.size:=rfl;omega) (by have:=HB2.out.size;have:=HBW.out;omega)).mono ?_
  rintro e w3 ⟨rfl,hi3,hb3,hk3⟩
  have HI3:=hQ hi3
  have HB3:=hQ (HB2.out.trans hb3)
  have HK3:=hQ (HK2.out.trans hk3)
  obtain ⟨d2,g2⟩:=hi3.cell2
  clear hi3 hb3 hk3
  go_wp2
  go_end0
  rw [HS.out]
  exact ⟨rfl,⟨HI3.out.last text,by simp only [xB,Array.length_toList];exact Nat.le_add_left _ _⟩,HB3.out.setCell (p:=⟨b,2,none⟩) HI3.out.base _,HK3.out.trans (Kept.set _ _)⟩
abbrev Qbg:=ByteArray × ByteArray
def Qhf (s:List UInt8 × ByteArray) (ps:List Qbg):List UInt8 × ByteArray:=ps.foldl (fun s p=>tokW s p.1 p.2) s
def Qf7:List Qbg → Nat
 | []=>0
 | p :: r=>p.1.size + p.2.size + 1 + Qf7 r
theorem sizeP_append (a c:List Qbg):Qf7 (a ++ c) = Qf7 a + Qf7 c:=by
 induction a with
 | nil=>simp [Qf7]
 | cons p r ih=>rw [List.cons_append,Qf7,Qf7,ih];omega
theorem foldW_append (s:List UInt8 × ByteArray) (a c:List Qbg):Qhf s (a ++ c) = Qhf (Qhf s a) c:=List.foldl_append
theorem foldW_one (s:List UInt8 × ByteArray) (p:Qbg):Qhf s [p] = tokW s p.1 p.2:=rfl
theorem sepW_le (a l x:ByteArray):(sepW a l x).size ≤ l.size + 1:=by
 unfold sepW
 split
 ·rename_i h
  rw [h.1]
  exact xA 1
 ·omega
theorem foldW_le (ps:List Qbg):∀ s,(Qhf s ps).1.length ≤ s.1.length + Qf7 ps:=by
 induction ps with
 | nil=>intro s;exact xA _
 | cons p r ih =>
  intro s
  have h1:=ih (tokW s p.1 p.2)
  have h2:=sepW_le s.2 p.1 p.2
  have e1:(sepW s.2 p.1 p.2).data.size = (sepW s.2 p.1 p.2).size:=rfl
  have e2:p.2.data.size = p.2.size:=rfl
  have h3:(tokW s p.1 p.2).1.length = s.1.length + (sepW s.2 p.1 p.2).data.size + p.2.data.size:=by unfold tokW;simp only [xB,Array.length_toList]
  show (Qhf (tokW s p.1 p.2) r).1.length ≤ _
  rw [Qf7]
  omega
def Qa6 (co:Bool) (cs:List ByteArray):Nat → List (List Qbg) → List Qbg
 | _,[]=>[]
 | i,p :: r=>(if 0 < i ∧ co = true then [((cs[i - 1]?).getD ⟨#[]⟩,⟨#[44]⟩)] else []) ++ p ++ Qa6 co cs (i + 1) r
def Qbo (n:Int) (tx:ByteArray) (cs:List ByteArray):List Part → List ByteArray → List (List Qbg) → List Qbg
 | [],_,_=>[]
 | x :: r,ls,ks=>if x.kids ≠ 0 then Qa6 x.commas cs 0 (ks.take (Qbz x n).toNat) ++ Qbo n tx cs r ls (ks.drop (Qbz x n).toNat)
  else ((ls[0]?).getD ⟨#[]⟩,if x.nm ≠ 0 then tx else x.word) :: Qbo n tx cs r (ls.drop 1) ks
mutual
def Qaf:Tr → List Qbg
 | .mk k x ls ks=>Qbo (Qb0 (Qae k) ks.length).1 x (ls.drop (Qb9 (Qae k))) (Qae k) ls (Qf8 ks)
def Qf8:List Tr → List (List Qbg)
 | []=>[]
 | t :: r=>Qaf t :: Qf8 r
end
theorem piecesL_map (l:List Tr):Qf8 l = l.map Qaf:=by
 induction l with
 | nil=>rfl
 | cons a r ih=>rw [Qf8,ih];rfl
theorem Qdc (t:Tr):Qaf t = Qbo (Qb0 (Qae t.kind) t.kids.length).1 t.text (t.leads.drop (Qb9 (Qae t.kind))) (Qae t.kind) t.leads (t.kids.map Qaf):=by
 cases t with
 | mk k x ls ks=>rw [Qaf,piecesL_map];rfl
def textL (t:Tr):List UInt8:=(Qhf ([],⟨#[]⟩) (Qaf t)).1
def TreeWr (N:Nat):Prop:=∀ (B b:Nat) (s:List UInt8 × ByteArray) (t:Tr) (v:TV) (w:World),SizeOf.sizeOf t ≤ N → TrAt (fun k=>k < B) w t v → WrS B b s w → B ≤ w.heap.size → Qcn t = true → ledT t = true → s.1.length + Qf7 (Qaf t) < 140737488355328 →
 Calls Tryz.prog 106 #[.pointer (some ⟨b,0,none⟩),.agg #[.int .i64 v.kind,.string v.text,.slice v.la v.ll v.lc,.slice v.ka v.kl v.kc]] w fun e w'=>e = .returned (.tuple #[]) ∧ WrS B b (Qhf s (Qaf t)) w' ∧ Below B w w' ∧ Kept b w w'
theorem WrS.keep {B b:Nat} {s:List UInt8 × ByteArray} {w w':World} (h:WrS B b s w) (hb:Below w.heap.size w w'):WrS B b s w':=⟨h.1.keep hb,h.2⟩
theorem WrS.alloc {B b:Nat} {s:List UInt8 × ByteArray} {w:World} (h:WrS B b s w) (o:Obj):WrS B b s (w.alloc o):=h.keep ((xC _ _).alloc (xA _) o)
theorem Kept.alloc (b:Nat) (w:World) (o:Obj):Kept b w (w.alloc o):=Kept.below ((xC _ _).alloc (xA _) o)
theorem TrAt.lows {B:Nat} {w w':World} {t:Tr} {v:TV} (h:TrAt (fun k=>k < B) w t v) (hb:Below B w w'):TrAt (fun k=>k < B) w' t v:=TrAt.move (fun _ h=>h) (fun k hk _=>hb.block k hk) t v h
theorem TrsAt.lows {B:Nat} {w w':World} {l:List Tr} {kb ko:Nat} (h:TrsAt (fun k=>k < B) w kb ko l) (hk:kb < B) (hb:Below B w w'):TrsAt (fun k=>k < B) w' kb ko l:=TrsAt.move (fun _ h=>h) (fun k hk _=>hb.block k hk) kb hk l ko h
theorem StrsAt.lows {B:Nat} {w w':World} {A:Option Addr} {l:List ByteArray} (h:StrsAt (fun k=>k < B) w A l) (hb:Below B w w'):StrsAt (fun k=>k < B) w' A l:=StrsAt.move h (fun _ h=>h) (fun k hk _=>hb.block k hk)
def KidsSt (N:Nat) (ks:List Tr):Prop:=∀ (i:Nat) (k:Tr),ks[i]? = some k → SizeOf.sizeOf k ≤ N ∧ Qcn k = true ∧ ledT k = true
theorem kids_wr {N:Nat} (ih:TreeWr N) (B b:Nat) (s:List UInt8 × ByteArray) (ks:List Tr) (kb ko kc:Nat) (cs:List ByteArray) (cA:Option Addr) (cc:Nat) (x:Part) (w:World)
  (hk:KidsSt N ks) (ht:TrsAt (fun k=>k < B) w kb ko ks) (hkb:kb < B) (hlen:ks.length ≤ 140737488355328) (hc:StrsAt (fun k=>k < B) w cA cs) (hcl:x.commas = true → ks.length ≤ cs.length + 1) (h:WrS B b s w) (hB:B ≤ w.heap.size) (hsz:s.1.length + Qf7 (Qa6 x.commas cs 0 (ks.map Qaf)) < 140737488355328) :
  Calls Tryz.prog 151 #[.pointer (some ⟨b,0,none⟩),.slice (some ⟨kb,ko,none⟩) ks.length kc,.slice cA cs.length cc,.agg #[.string x.word,fnV x.nm,.int .i64 x.kids,.int .i64 x.least,.int .i64 x.most,.bool x.series,.bool x.commas]] w
   fun e w'=>e = .returned (.tuple #[]) ∧ WrS B b (Qhf s (Qa6 x.commas cs 0 (ks.map Qaf))) w' ∧ Below B w w' ∧ Kept b w w':=by
 have HIH:=hQ ih
 have HK:=hQ hk
 have HI0:=hQ (h.alloc (.cells #[.string x.word,fnV x.nm,.int .i64 x.kids,.int .i64 x.least,.int .i64 x.most,.bool x.series,.bool x.commas] 129))
 have HB0:=hQ ((xC B w).alloc hB (.cells #[.string x.word,fnV x.nm,.int .i64 x.kids,.int .i64 x.least,.int .i64 x.most,.bool x.series,.bool x.commas] 129))
 have HKP0:=hQ (Kept.alloc b w (.cells #[.string x.word,fnV x.nm,.int .i64 x.kids,.int .i64 x.least,.int .i64 x.most,.bool x.series,.bool x.commas] 129))
 have HG0:=hQ (xH w (.cells #[.string x.word,fnV x.nm,.int .i64 x.kids,.int .i64 x.least,.int .i64 x.most,.bool x.series,.bool x.commas] 129))
 have HXB:=hQ (show w.heap.size ≠ b from by have:=h.1.lt;omega)
 have HT:=hQ ht
 have HC:=hQ hc
 have HKB:=hQ hkb
 have HCL:=hQ hcl
 have HSZ:=hQ hsz
 have HBW:=hQ hB
 have HLEN:=hQ hlen
 clear hk h ht hc hkb hcl hsz hB ih hlen
 obtain ⟨wd,nm,kd,lst,mst,se,co⟩:=x
 go_enter Tryz.func151,Tryz.ntmps151
 go_wp2_with fail
 generalize w.alloc (.cells #[.string wd,fnV nm,.int .i64 kd,.int .i64 lst,.int .i64 mst,.bool se,.bool co] 129) = w0 at HI0 HB0 HKP0 HG0 ⊢
 generalize hxb:w.heap.size = xb at HG0 HXB ⊢
 go_loopg [12] ks.length (fun g u12 wr=>∃ (i:Nat) (si:List UInt8 × ByteArray),u12 = .int .i64 i ∧ i + g = ks.length ∧ Qhf s (Qa6 co cs 0 (ks.map Qaf)) = Qhf si (Qa6 co cs i ((ks.map Qaf).drop i)) ∧ WrS B b si wr ∧ si.1.length + Qf7 (Qa6 co cs i ((ks.map Qaf).drop i)) < 140737488355328 ∧ Below B w0 wr ∧ Kept b w0 wr)
 case atStart=>exact ⟨0,s,rfl,by omega,rfl,HI0.out,HSZ.out,xC _ _,Kept.refl _ _⟩
 case round =>
  obtain ⟨i,si,rfl,hi,hf,hw,hs,hb,hkp⟩:=hrel
  have HI:=hQ hi
  have HF:=hQ hf
  have HW:=hQ hw
  have HS:=hQ hs
  have HBR:=hQ hb
  have HKR:=hQ hkp
  clear hi hf hw hs hb hkp
  by_cases hlt:i < ks.length
  ·obtain ⟨k,hk⟩:∃ k,ks[i]? = some k:=⟨_,xF hlt⟩
   obtain ⟨hz,hsm,hld⟩:=HK.out i k hk
   obtain ⟨v,c0,c1,c2,c3,hv⟩:=TrsAt.get _ _ (HT.out.lows HKB.out (HB0.out.trans HBR.out)) i k hk
   have HV:=hQ hv
   have HZ:=hQ hz
   have HSM:=hQ hsm
   have HLD:=hQ hld
   have hxh:=HKR.out _ _ _ _ HG0.out HXB.out (by decide)
   obtain ⟨x0,x1,x2,x3,x4,x5,x6⟩:=Qbp (x:=⟨wd,nm,kd,lst,mst,se,co⟩) hxh
   have xlt:=Qaa hxh
   have HXH:=hQ hxh
   have hst:Qa6 co cs i ((ks.map Qaf).drop i) = (if 0 < i ∧ co = true then [((cs[i - 1]?).getD ⟨#[]⟩,⟨#[44]⟩)] else []) ++ Qaf k ++ Qa6 co cs (i + 1) ((ks.map Qaf).drop (i + 1)):=by
    obtain ⟨hl,he⟩:=List.getElem?_eq_some_iff.1 hk
    rw [List.drop_eq_getElem_cons (by rw [List.length_map];exact hl),List.getElem_map,he,Qa6]
   have hi0:(0:Int) ≤ (i:Int):=by omega
   have hi1:(i:Int) < (ks.length:Int):=by omega
   have hi2:(i:Int) + 1 ≤ 140737488355328:=by have:=HLEN.out;omega
   have HLT:=hQ hlt
   have hBr:B ≤ wr.heap.size:=Nat.le_trans HBW.out (Nat.le_trans HB0.out.size HBR.out.size)
   have HBU:=hQ ((xC B wr).alloc hBr (.cells #[.int .i64 v.kind,.string v.text,.slice v.la v.ll v.lc,.slice v.ka v.kl v.kc] 25))
   have HKU:=hQ (Kept.alloc b wr (.cells #[.int .i64 v.kind,.string v.text,.slice v.la v.ll v.lc,.slice v.ka v.kl v.kc] 25))
   have HVU:=hQ (HV.out.lows HBU.out)
   have HWU:=hQ (HW.out.alloc (.cells #[.int .i64 v.kind,.string v.text,.slice v.la v.ll v.lc,.slice v.ka v.kl v.kc] 25))
   have HBS:=hQ (Nat.le_trans HBW.out (HB0.out.trans (HBR.out.trans (HBU.out.mono (xA _)))).size)
   clear hv hk hz hsm hld hxh hBr
   by_cases h0:0 < i
   ·have hg:decide (0 < i) = true:=decide_eq_true h0
    rcases Bool.eq_false_or_eq_true co with hco | hco
    rotate_left
    ·rw [if_neg (fun e=>by rw [hco] at e;cases e.2)] at hst
     rw [hco] at x6
     clear hco
     have HST:=hQ hst
     have HSZ2:=hQ (show si.1.length + Qf7 (Qaf k) < 140737488355328 from by have:=HS.out;rw [HST.out,List.nil_append,sizeP_append] at this;omega)
     have HSZ3:=hQ (show (Qhf si (Qaf k)).1.length + Qf7 (Qa6 co cs (i + 1) ((ks.map Qaf).drop (i + 1))) < 140737488355328 from by have:=HS.out;have h2:=foldW_le (Qaf k) si;rw [HST.out,List.nil_append,sizeP_append] at this;omega)
     have HF2:=hQ (show Qhf s (Qa6 co cs 0 (ks.map Qaf)) = Qhf (Qhf si (Qaf k)) (Qa6 co cs (i + 1) ((ks.map Qaf).drop (i + 1))) from by rw [HF.out,HST.out,List.nil_append,foldW_append])
     clear hst h0
     go_wp2_with fail
     go_at_call 106
     refine (HIH.out B b si k v _ HZ.out HVU.out HWU.out HBS.out HSM.out HLD.out HSZ2.out).mono ?_
     rintro e w2 ⟨rfl,h1,h2,h3⟩
     have H1:=hQ h1
     have H2:=hQ ((HBR.out.trans (HBU.out.trans h2)))
     have H3:=hQ ((HKR.out.trans HKU.out).trans h3)
     clear h1 h2 h3
     go_wp2
     go_roundg (gk - 1)
     case measure=>have:=HI.out;have:=HLT.out;omega
     case rel=>exact ⟨i + 1,_,by go_num,by have:=HI.out;have:=HLT.out;omega,HF2.out,H1.out,HSZ3.out,H2.out,H3.out⟩
    ·obtain ⟨j,hij⟩:∃ j,i = j + 1:=⟨i - 1,by omega⟩
     obtain ⟨y,hy⟩:∃ y,cs[j]? = some y:=⟨_,xF (by have:=HCL.out hco;omega)⟩
     obtain ⟨cb,cf,hcA,hcb,hcc⟩:=(HC.out.lows (HB0.out.trans (HBR.out.trans HBU.out))) (by intro e;rw [e] at hy;simp at hy)
     have hcy:=hcc j y hy
     have hjc:(j:Int) < (cs.length:Int):=by have:=(List.getElem?_eq_some_iff.1 hy).1;omega
     have hj0:(0:Int) ≤ (j:Int):=by omega
     have hje:(i:Int) - 1 = (j:Int):=by omega
     rw [if_pos ⟨h0,hco⟩,show i - 1 = j from by omega,hy,Option.getD_some] at hst
     rw [hco] at x6
     have HST:=hQ hst
     have HIJ:=hQ hij
     subst hcA
     clear hst h0 hco hcb hcc hy hij
     have HSZA:=hQ (show si.1.length + y.size + (⟨#[44]⟩:ByteArray).size + 1 < 140737488355328 from by have:=HS.out;rw [HST.out,sizeP_append,sizeP_append] at this;simp only [Qf7] at this;omega)
     have HSZ2:=hQ (show (tokW si y ⟨#[44]⟩).1.length + Qf7 (Qaf k) < 140737488355328 from by have:=HS.out;have h2:=foldW_le [(y,⟨#[44]⟩)] si;rw [HST.out,sizeP_append,sizeP_append] at this;rw [foldW_one] at h2;simp only at h2;omega)
     have HSZ3:=hQ (show (Qhf (tokW si y ⟨#[44]⟩) (Qaf k)).1.length + Qf7 (Qa6 co cs (i + 1) ((ks.map Qaf).drop (i + 1))) < 140737488355328 from by have:=HS.out;have h2:=foldW_le ([(y,⟨#[44]⟩)] ++ Qaf k) si;rw [HST.out,sizeP_append] at this;rw [foldW_append,foldW_one] at h2;simp only at h2;omega)
     have HF2:=hQ (show Qhf s (Qa6 co cs 0 (ks.map Qaf)) = Qhf (Qhf (tokW si y ⟨#[44]⟩) (Qaf k)) (Qa6 co cs (i + 1) ((ks.map Qaf).drop (i + 1))) from by rw [HF.out,HST.out,foldW_append,foldW_append,foldW_one])
     go_wp2_with fail
     go_at_call 152
     refine (token_wr B b si y ⟨#[44]⟩ _ HWU.out HSZA.out HBS.out).mono ?_
     rintro e w1 ⟨rfl,g1,g2,g3⟩
     have G1:=hQ g1
     have G2:=hQ g2
     have G3:=hQ g3
     have HVU1:=hQ (HVU.out.lows g2)
     have HBS1:=hQ (Nat.le_trans HBS.out g2.size)
     have hgu:=G3.out _ _ _ _ (xH wr (.cells #[.int .i64 v.kind,.string v.text,.slice v.la v.ll v.lc,.slice v.ka v.kl v.kc] 25)) (by have:=HW.out.1.lt;omega) (by decide)
     have c0:w1.cell? ⟨wr.heap.size,0,none⟩ = some (.int .i64 v.kind):=Qab hgu 0 _ rfl
     have c1:w1.cell? ⟨wr.heap.size,1,none⟩ = some (.string v.text):=Qab hgu 1 _ rfl
     have c2:w1.cell? ⟨wr.heap.size,2,none⟩ = some (.slice v.la v.ll v.lc):=Qab hgu 2 _ rfl
     have c3:w1.cell? ⟨wr.heap.size,3,none⟩ = some (.slice v.ka v.kl v.kc):=Qab hgu 3 _ rfl
     clear g1 g2 g3 hgu
     go_wp2_with fail
     go_at_call 106
     refine (HIH.out B b (tokW si y ⟨#[44]⟩) k v _ HZ.out HVU1.out G1.out HBS1.out HSM.out HLD.out HSZ2.out).mono ?_
     rintro e w2 ⟨rfl,h1,h2,h3⟩
     have H1:=hQ h1
     have H2:=hQ (HBR.out.trans (HBU.out.trans (G2.out.trans h2)))
     have H3:=hQ ((HKR.out.trans HKU.out).trans (G3.out.trans h3))
     clear h1 h2 h3 c0 c1 c2 c3
     go_wp2
     go_roundg (gk - 1)
     case measure=>have:=HI.out;have:=HLT.out;omega
     case rel=>exact ⟨i + 1,_,by go_num,by have:=HI.out;have:=HLT.out;omega,HF2.out,H1.out,HSZ3.out,H2.out,H3.out⟩
   ·have hg:decide (0 < i) = false:=decide_eq_false h0
    rw [if_neg (fun e=>h0 e.1)] at hst
    have HST:=hQ hst
    have HSZ2:=hQ (show si.1.length + Qf7 (Qaf k) < 140737488355328 from by have:=HS.out;rw [HST.out,List.nil_append,sizeP_append] at this;omega)
    have HSZ3:=hQ (show (Qhf si (Qaf k)).1.length + Qf7 (Qa6 co cs (i + 1) ((ks.map Qaf).drop (i + 1))) < 140737488355328 from by have:=HS.out;have h2:=foldW_le (Qaf k) si;rw [HST.out,List.nil_append,sizeP_append] at this;omega)
    have HF2:=hQ (show Qhf s (Qa6 co cs 0 (ks.map Qaf)) = Qhf (Qhf si (Qaf k)) (Qa6 co cs (i + 1) ((ks.map Qaf).drop (i + 1))) from by rw [HF.out,HST.out,List.nil_append,foldW_append])
    clear hst h0
    go_wp2_with fail
    go_at_call 106
    refine (HIH.out B b si k v _ HZ.out HVU.out HWU.out HBS.out HSM.out HLD.out HSZ2.out).mono ?_
    rintro e w2 ⟨rfl,h1,h2,h3⟩
    have H1:=hQ h1
    have H2:=hQ ((HBR.out.trans (HBU.out.trans h2)))
    have H3:=hQ ((HKR.out.trans HKU.out).trans h3)
    clear h1 h2 h3
    go_wp2
    go_roundg (gk - 1)
    case measure=>have:=HI.out;have:=HLT.out;omega
    case rel=>exact ⟨i + 1,_,by go_num,by have:=HI.out;have:=HLT.out;omega,HF2.out,H1.out,HSZ3.out,H2.out,H3.out⟩
  ·have HE:=hQ (show Qhf s (Qa6 co cs 0 (ks.map Qaf)) = si from by rw [HF.out,List.drop_eq_nil_of_le (by rw [List.length_map];omega),Qa6];rfl)
   have hi1:¬ (i:Int) < (ks.length:Int):=by omega
   go_wp2
   go_end0
   rw [HE.out]
   exact ⟨rfl,HW.out,HB0.out.trans HBR.out,HKP0.out.trans HKR.out⟩
theorem kids_none (B b:Nat) (s:List UInt8 × ByteArray) (A:Option Addr) (c:Nat) (cv:Value) (x:Part) (w:World) (h:WrS B b s w) (hB:B ≤ w.heap.size) :
  Calls Tryz.prog 151 #[.pointer (some ⟨b,0,none⟩),.slice A 0 c,cv,.agg #[.string x.word,fnV x.nm,.int .i64 x.kids,.int .i64 x.least,.int .i64 x.most,.bool x.series,.bool x.commas]] w fun e w'=>e = .returned (.tuple #[]) ∧ WrS B b s w' ∧ Below B w w' ∧ Kept b w w':=by
 have HI0:=hQ (h.alloc (.cells #[.string x.word,fnV x.nm,.int .i64 x.kids,.int .i64 x.least,.int .i64 x.most,.bool x.series,.bool x.commas] 129))
 have HB0:=hQ ((xC B w).alloc hB (.cells #[.string x.word,fnV x.nm,.int .i64 x.kids,.int .i64 x.least,.int .i64 x.most,.bool x.series,.bool x.commas] 129))
 have HKP0:=hQ (Kept.alloc b w (.cells #[.string x.word,fnV x.nm,.int .i64 x.kids,.int .i64 x.least,.int .i64 x.most,.bool x.series,.bool x.commas] 129))
 clear h hB
 go_enter Tryz.func151,Tryz.ntmps151
 go_wp2_with fail
 generalize w.alloc (.cells #[.string x.word,fnV x.nm,.int .i64 x.kids,.int .i64 x.least,.int .i64 x.most,.bool x.series,.bool x.commas] 129) = w0 at HI0 HB0 HKP0 ⊢
 go_loopg [12] 0 (fun _ u12 wr=>u12 = .int .i64 0 ∧ wr = w0)
 case atStart=>exact ⟨rfl,rfl⟩
 case round =>
  obtain ⟨rfl,rfl⟩:=hrel
  go_wp2
  go_end0
  exact ⟨rfl,HI0.out,HB0.out,HKP0.out⟩
end Go.Proofs.YtnnfdbmanamfdaaGreat
