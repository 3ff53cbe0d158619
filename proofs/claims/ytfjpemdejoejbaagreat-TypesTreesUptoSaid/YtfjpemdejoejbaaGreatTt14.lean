/- Part 14 -/
import Derived.Test.YtfjpemdejoejbaaGreatTt13
import Derived.Deep.RegionLaw
import Derived.Deep.DrawnRows
set_option maxRecDepth 100000
set_option maxHeartbeats 4000000
namespace Go.Proofs.YtfjpemdejoejbaaGreat
open Go.RowKit
theorem Qdi:(Tryz.prog.info? 9).map (fun i=>(i.zero,i.size,i.bytes))=some (some (.string ByteArray.empty),1,16):=by kernel_rfl
structure Rest (X:Nat→Prop) (w w':World):Prop where
 os:w'.os=w.os
 tape:w'.tape=w.tape
 output:w'.output=w.output
 size:w.heap.size≤w'.heap.size
 block:∀ k,k<w.heap.size→¬ X k→w'.heap[k]? = w.heap[k]?
theorem Rest.refl (X:Nat→Prop) (w:World):Rest X w w:=⟨rfl,rfl,rfl,xA _,fun _ _ _=>rfl⟩
theorem Rest.trans {X:Nat→Prop} {u v w:World} (h:Rest X u v) (k:Rest X v w):Rest X u w :=
 ⟨k.os.trans h.os,k.tape.trans h.tape,k.output.trans h.output,xQ h.size k.size,fun i hi hx=>(k.block i (xE hi h.size) hx).trans (h.block i hi hx)⟩
theorem Rest.mono {X Y:Nat→Prop} {u v:World} (h:Rest X u v) (hXY:∀ k,k<u.heap.size→X k→Y k):Rest Y u v:=⟨h.os,h.tape,h.output,h.size,fun k hk hy=>h.block k hk fun hx=>hy (hXY k hk hx)⟩
theorem Rest.off {b:Nat} {w w':World} (h:Off b w w'):Rest (fun k=>k=b) w w':=⟨h.os,h.tape,h.output,h.size,h.block⟩
theorem Rest.below {X:Nat→Prop} {w w':World} (h:Below w.heap.size w w'):Rest X w w':=⟨h.os,h.tape,h.output,h.size,fun k hk _=>h.block k hk⟩
theorem Rest.alloc {X:Nat→Prop} {w:World} (o:Obj):Rest X w (w.alloc o):=.below ((xC _ _).alloc (xA _) o)
theorem Rest.drew {X:Nat→Prop} {w:World}:Rest X w w.drew:=⟨rfl,rfl,rfl,xA _,fun _ _ _=>rfl⟩
theorem Rest.set {X:Nat→Prop} {w:World} {b:Nat} (hb:X b) (o:Nat) (u:Value):Rest X w (w.setCell ⟨b,o,none⟩ u) :=
 ⟨rfl,rfl,rfl,by simp [World.setCell],fun k _ hk=>Below.heap_setCell _ _ _ _ (fun e:k=b=>hk (e ▸ hb))⟩
theorem Rest.grown {X:Nat→Prop} {w w':World} {row:Option Nat} (hg:w.grownBy w' row) (hr:∀ k,row=some k→X k):Rest X w w' :=
 ⟨hg.os,hg.tape,hg.output,hg.size,fun k hk hx=>hg.block k hk (fun e=>hx (hr k e.symm))⟩
theorem Qcr {X:Nat→Prop} {w w':World} {base:Nat} {e:TypeId} {size:Nat} {v:Value} {n:Nat} {xs:List Value} (h:w.ownsRow base e size v n xs) (hw:Rest X w w') (hx:∀ k,v.ownBlock=some k→¬ X k):w'.ownsRow base e size v n xs:=by
 obtain ⟨h1,h2⟩:=h;refine ⟨h1,?_⟩
 rcases h2 with h2|⟨g,cap,cur,hv,hg,hh,r⟩
 ·exact Or.inl h2
 ·exact Or.inr ⟨g,cap,cur,hv,hg,by rw [hw.block g (Qab hh) (hx g (by rw [hv];rfl))];exact hh,r⟩
theorem Qoe {w:World} {base base':Nat} {e:TypeId} {size:Nat} {v:Value} {n:Nat} {xs:List Value} (h:w.ownsRow base e size v n xs) (hb:∀ k,v.ownBlock=some k→base'≤k):w.ownsRow base' e size v n xs:=by
 obtain ⟨h1,h2⟩:=h;refine ⟨h1,?_⟩
 rcases h2 with h2|⟨g,cap,cur,hv,hg,hh,r⟩
 ·exact Or.inl h2
 ·exact Or.inr ⟨g,cap,cur,hv,hb g (by rw [hv];rfl),hh,r⟩
def blk (a:Option Addr):Option Nat:=a.map (·.block)
theorem Qhs (a:Option Addr) (n c:Nat):(Value.slice a n c).ownBlock=blk a:=by cases a <;> rfl
theorem Zbq (n:Nat) (h:n≤7) (w:World):(binOp .neq 129 (fnV n) .nilFunc).run Tryz.prog w = .ok (.bool (n != 0)) w:=by
 match n,h with
 | 0,_=>exact Qvr w
 | 1,_=>exact Qfw _ w
 | 2,_=>exact Qfw _ w
 | 3,_=>exact Qfw _ w
 | 4,_=>exact Qfw _ w
 | 5,_=>exact Qfw _ w
 | 6,_=>exact Qfw _ w
 | 7,_=>exact Qfw _ w
 | n+8,h=>exact absurd h (by omega)
theorem Qrr (n:Nat) (a c:Operand) (w:World):(eqGuard .neq 129 a c (fnV n) .nilFunc).run Tryz.prog w = .ok () w:=by
 match n with
 | 0=>rfl
 | 1=>rfl
 | 2=>rfl
 | 3=>rfl
 | 4=>rfl
 | 5=>rfl
 | 6=>rfl
 | n+7=>rfl
def LeadsAt (B:Nat) (w:World) (la:Option Addr) (lc:Nat) (ls:List ByteArray):Prop:=w.ownsRow B 9 1 (.slice la ls.length lc) ls.length (ls.map Value.string)
theorem Qbi {w:World} {xb:Nat} {x:Part} (h:w.heap[xb]? = some (.cells #[.string x.word,fnV x.nm,.int .i64 x.kids,.int .i64 x.least,.int .i64 x.most,.bool x.series,.bool x.commas] 132 (0,0))) :
  w.cell? ⟨xb,0,none⟩=some (.string x.word)∧w.cell? ⟨xb,1,none⟩=some (fnV x.nm)∧w.cell? ⟨xb,2,none⟩=some (.int .i64 x.kids)∧w.cell? ⟨xb,3,none⟩=some (.int .i64 x.least)∧w.cell? ⟨xb,4,none⟩=some (.int .i64 x.most)∧w.cell? ⟨xb,5,none⟩=some (.bool x.series)∧w.cell? ⟨xb,6,none⟩=some (.bool x.commas) :=
 ⟨Qaa h 0 _ rfl,Qaa h 1 _ rfl,Qaa h 2 _ rfl,Qaa h 3 _ rfl,Qaa h 4 _ rfl,Qaa h 5 _ rfl,Qaa h 6 _ rfl⟩
theorem LeadsAt.blk {B:Nat} {w:World} {la:Option Addr} {lc:Nat} {ls:List ByteArray} (h:LeadsAt B w la lc ls) {k:Nat} (hk:blk la=some k):B≤k∧k<w.heap.size:=by
 rcases h.2 with ⟨hv,_⟩|⟨g,cap,cur,hv,hg,hh,_⟩
 ·injection hv with h1;rw [h1] at hk;exact absurd hk (by simp [Go.Proofs.YtfjpemdejoejbaaGreat.blk])
 ·injection hv with h1;rw [h1] at hk;have:g=k:=by simpa [Go.Proofs.YtfjpemdejoejbaaGreat.blk] using hk
  subst this;exact ⟨hg,Qab hh⟩
def Qie (b tb B:Nat) (kind:Int) (kv:Value) (la:Option Addr) (r:ByteArray × List ByteArray × PS) (w:World) (e:Ending) (w':World):Prop :=
 ∃ la' lc',e = .returned (.tuple #[])∧w'.heap[tb]? = some (.cells #[.int .i64 kind,.string r.1,.slice la' r.2.1.length lc',kv] 25 (0,0))∧LeadsAt B w' la' lc' r.2.1∧PIn w' b r.2.2 ∧
  Rest (fun k=>k=b∨k=tb∨blk la=some k) w w'∧(∀ k,blk la'=some k→blk la=some k∨w.heap.size≤k)
theorem Qvs {b tb B:Nat} {p:PS} {kind:Int} {text:ByteArray} {leads:List ByteArray} {la:Option Addr} {lc:Nat} {kv:Value} (x:Part) (hx:x.nm≤7) (w:World) (h:PIn w b p)
  (ht:w.heap[tb]? = some (.cells #[.int .i64 kind,.string text,.slice la leads.length lc,kv] 25 (0,0))) (hl:LeadsAt B w la lc leads) (hne:b<tb) (htB:tb<B) (hB:B≤w.heap.size) (hf:Qee x (Qad p)=false) :
  Calls Tryz.prog 86 #[.pointer (some ⟨b,0,none⟩),.pointer (some ⟨tb,0,none⟩),.agg #[.string x.word,fnV x.nm,.int .i64 x.kids,.int .i64 x.least,.int .i64 x.most,.bool x.series,.bool x.commas]] w (Qie b tb B kind kv la (Qdh x text leads p) w):=by
 have HI:=hQ h;have HX:=hQ hx;have HL:=hQ hl;have HT:=hQ ht;have HN:=hQ hne;have HLB:=hQ (show ∀ k,blk la=some k→k≠b∧k≠tb∧b<k∧k<w.heap.size from fun k hk=>by have:=hl.blk hk;exact ⟨by omega,by omega,by omega,this.2⟩);have HBB:=hQ hB;have HTB:=hQ htB;have HR:=hQ (show Qdh x text leads p=(text,leads,Qib p 2) from by unfold Qdh;rw [hf];rfl);clear h hx hl ht hne htB hB
 go_enter Tryz.func86,Tryz.ntmps86
 go_wp2_with fail
 have GX:=xH w (.cells #[.string x.word,fnV x.nm,.int .i64 x.kids,.int .i64 x.least,.int .i64 x.most,.bool x.series,.bool x.commas] 132);have HW1:=hQ ((xC w.heap.size w).alloc (xA _) (.cells #[.string x.word,fnV x.nm,.int .i64 x.kids,.int .i64 x.least,.int .i64 x.most,.bool x.series,.bool x.commas] 132));have HS1:=hQ (show w.heap.size<(w.alloc (.cells #[.string x.word,fnV x.nm,.int .i64 x.kids,.int .i64 x.least,.int .i64 x.most,.bool x.series,.bool x.commas] 132)).heap.size from by simp)
 generalize w.alloc (.cells #[.string x.word,fnV x.nm,.int .i64 x.kids,.int .i64 x.least,.int .i64 x.most,.bool x.series,.bool x.commas] 132)=W1 at GX HW1 HS1 ⊢
 generalize hxb:w.heap.size=xb at GX HS1 ⊢
 go_region_held3 (fun w'=>w'.cell? ⟨xb,0,none⟩=some (.string x.word)∧w'.cell? ⟨xb,1,none⟩=some (fnV x.nm)∧w'.cell? ⟨xb,2,none⟩=some (.int .i64 x.kids)∧w'.cell? ⟨xb,3,none⟩=some (.int .i64 x.least)∧w'.cell? ⟨xb,4,none⟩=some (.int .i64 x.most)∧w'.cell? ⟨xb,5,none⟩=some (.bool x.series)∧w'.cell? ⟨xb,6,none⟩=some (.bool x.commas)) (first | exact Qbi (w:=W1.drew) GX | exact Qbi (by assumption))
  (first | (go_at_call 132;refine (Qax _ (HI.out.keep HW1.out.drew)).mono ?_;rintro e w2 ⟨rfl,hb2⟩;have G2:=(hb2.block xb HS1.out).trans GX;have HB2:=hQ hb2;clear hb2) | (go_at_call 135;refine (Qrq x HX.out (Qad p) _).mono ?_;rintro e w3 ⟨rfl,hb3⟩;have G3:=(hb3.block xb (xE HS1.out HB2.out.size)).trans G2;have HB3:=hQ hb3;clear hb3))
 have HO3:=hQ (show Off b w w3 from (Off.of HW1.out.drew).trans ((Off.of HB2.out).trans (Off.of HB3.out)));have HP3:=hQ (((HI.out.keep HW1.out.drew).keep HB2.out).keep HB3.out);clear GX G2 G3;go_wp2_with (go_at_call 131;refine (Qj6 (x:=2) _ HP3.out).mono ?_;rintro e w4 ⟨rfl,hp4,ho4⟩;have HP4:=hQ hp4;have HO4:=hQ ho4;clear hp4 ho4)
 have hoff:=HO3.out.trans HO4.out;refine bodyPost_ret (v:=.tuple #[]) (by simp [results,Tryz.results86,go_sem]) rfl ?_;rw [HR.out];exact ⟨la,lc,rfl,(hoff.block tb (Qab HT.out) (Ne.symm (Nat.ne_of_lt HN.out))).trans HT.out,Qcr HL.out (Rest.off hoff) (fun k hk=>(HLB.out k (by rwa [Qhs] at hk)).1),HP4.out,(Rest.off hoff).mono (fun k _ h=>.inl h),fun k h=>.inl h⟩
theorem Qtp {b tb B:Nat} {p:PS} {kind:Int} {text:ByteArray} {leads:List ByteArray} {la:Option Addr} {lc:Nat} {kv:Value} (x:Part) (hx:x.nm≤7) (w:World) (h:PIn w b p)
  (ht:w.heap[tb]? = some (.cells #[.int .i64 kind,.string text,.slice la leads.length lc,kv] 25 (0,0))) (hl:LeadsAt B w la lc leads) (hne:b<tb) (htB:tb<B) (hB:B≤w.heap.size) (hf:Qee x (Qad p)=true) (hlen:leads.length<65536) :
  Calls Tryz.prog 86 #[.pointer (some ⟨b,0,none⟩),.pointer (some ⟨tb,0,none⟩),.agg #[.string x.word,fnV x.nm,.int .i64 x.kids,.int .i64 x.least,.int .i64 x.most,.bool x.series,.bool x.commas]] w (Qie b tb B kind kv la (Qdh x text leads p) w):=by
 have HI:=hQ h;have HX:=hQ hx;have HL:=hQ hl;have HT:=hQ ht;have HN:=hQ hne;have HLB:=hQ (show ∀ k,blk la=some k→k≠b∧k≠tb∧b<k∧k<w.heap.size from fun k hk=>by have:=hl.blk hk;exact ⟨by omega,by omega,by omega,this.2⟩);have HBB:=hQ hB;have HTB:=hQ htB;have HR:=hQ (show Qdh x text leads p=(if x.nm=0 then text else (Qad p).text,leads ++ [(Qad p).lead],Qft p) from by unfold Qdh;rw [hf];rfl);have HLN:=hQ hlen;clear h hx hl ht hne htB hB hlen
 go_enter Tryz.func86,Tryz.ntmps86
 go_wp2_with fail
 have GX:=xH w (.cells #[.string x.word,fnV x.nm,.int .i64 x.kids,.int .i64 x.least,.int .i64 x.most,.bool x.series,.bool x.commas] 132);have HW1:=hQ ((xC w.heap.size w).alloc (xA _) (.cells #[.string x.word,fnV x.nm,.int .i64 x.kids,.int .i64 x.least,.int .i64 x.most,.bool x.series,.bool x.commas] 132));have HS1:=hQ (show w.heap.size<(w.alloc (.cells #[.string x.word,fnV x.nm,.int .i64 x.kids,.int .i64 x.least,.int .i64 x.most,.bool x.series,.bool x.commas] 132)).heap.size from by simp)
 generalize w.alloc (.cells #[.string x.word,fnV x.nm,.int .i64 x.kids,.int .i64 x.least,.int .i64 x.most,.bool x.series,.bool x.commas] 132)=W1 at GX HW1 HS1 ⊢
 generalize hxb:w.heap.size=xb at GX HS1 ⊢
 go_region_held3 (fun w'=>w'.cell? ⟨xb,0,none⟩=some (.string x.word)∧w'.cell? ⟨xb,1,none⟩=some (fnV x.nm)∧w'.cell? ⟨xb,2,none⟩=some (.int .i64 x.kids)∧w'.cell? ⟨xb,3,none⟩=some (.int .i64 x.least)∧w'.cell? ⟨xb,4,none⟩=some (.int .i64 x.most)∧w'.cell? ⟨xb,5,none⟩=some (.bool x.series)∧w'.cell? ⟨xb,6,none⟩=some (.bool x.commas)) (first | exact Qbi (w:=W1.drew) GX | exact Qbi (by assumption))
  (first | (go_at_call 132;refine (Qax _ (HI.out.keep HW1.out.drew)).mono ?_;rintro e w2 ⟨rfl,hb2⟩;have G2:=(hb2.block xb HS1.out).trans GX;have HB2:=hQ hb2;clear hb2) | (go_at_call 135;refine (Qrq x HX.out (Qad p) _).mono ?_;rintro e w3 ⟨rfl,hb3⟩;have G3:=(hb3.block xb (xE HS1.out HB2.out.size)).trans G2;have HB3:=hQ hb3;clear hb3))
 have HO3:=hQ (show Off b w w3 from (Off.of HW1.out.drew).trans ((Off.of HB2.out).trans (Off.of HB3.out)));have HP3:=hQ (((HI.out.keep HW1.out.drew).keep HB2.out).keep HB3.out);have HX3:=hQ (show xb<w3.heap.size from Qab G3);have HG3:=hQ G3;clear GX G2 G3;go_wp2_with fail
 go_at_call 133;refine (Qfn _ HP3.out).mono ?_;rintro e w4 ⟨rfl,hp4,ho4⟩;have HP4:=hQ hp4;have HO4:=hQ ho4;clear hp4 ho4;go_wp2_with fail
 have HO4':=hQ (HO3.out.trans HO4.out);have G5t:(w4.alloc (.cells #[.int .i64 (Qad p).kind,.string (Qad p).lead,.string (Qad p).text] 88)).heap[tb]? = some (.cells #[.int .i64 kind,.string text,.slice la leads.length lc,kv] 25 (0,0)):=(((HO4'.out.trans (Off.alloc _)).block tb (Qab HT.out) (Ne.symm (Nat.ne_of_lt HN.out))).trans HT.out);have G5k:=xH w4 (.cells #[.int .i64 (Qad p).kind,.string (Qad p).lead,.string (Qad p).text] 88);have HW5:=hQ (HO4'.out.trans (Off.alloc (b:=b) (w:=w4) (.cells #[.int .i64 (Qad p).kind,.string (Qad p).lead,.string (Qad p).text] 88)));have HP5:=hQ (HP4.out.keep ((xC w4.heap.size w4).alloc (xA _) (.cells #[.int .i64 (Qad p).kind,.string (Qad p).lead,.string (Qad p).text] 88)));have G5x:=hQ (((HO4.out.trans (Off.alloc (.cells #[.int .i64 (Qad p).kind,.string (Qad p).lead,.string (Qad p).text] 88))).block xb HX3.out (by have:=HI.out.lt;omega)).trans HG3.out)
 generalize w4.alloc (.cells #[.int .i64 (Qad p).kind,.string (Qad p).lead,.string (Qad p).text] 88)=W5 at G5t G5k HW5 HP5 G5x ⊢
 have HS4:=hQ HO4'.out.size
 generalize w4.heap.size=tk at G5k HS4 ⊢
 have HL5:=hQ (Qcr HL.out (Rest.off HW5.out) (fun k hk=>(HLB.out k (by rwa [Qhs] at hk)).1));have k2:=Qaa G5t 2 _ rfl;have e1:=Qab G5t;have l1:=Qaa G5k 1 _ rfl;have e2:=Qab G5k;obtain ⟨i0,hi,hz0,hz1,hz2⟩:=info_parts Qdi;have hcap:=Zbq x.nm HX.out;have hgrd:=Qrr x.nm;have n1:tb≠tk:=by have:=HS4.out;have:=Qab HT.out;omega
 have HTL:=hQ (show blk la≠some tb from fun e=>(HLB.out _ e).2.1 rfl);have HKL:=hQ (show blk la≠some tk from fun e=>by have:=(HLB.out _ e).2.2.2;have:=HS4.out;omega);have HXL:=hQ (show blk la≠some xb from fun e=>by have:=(HLB.out _ e).2.2.2;omega)
 go_region_law ((refine step_append_lies _ (by rfl) _ _ _ (by rfl) B 9 i0 _ 1 16 Tryz.underlying23 hi hz0 hz1 hz2 rfl (by decide) (.slice la leads.length lc) leads.length (leads.map Value.string) (by rfl) ((HL5.out.alloc _).drew) ⟨W5.heap.size,0,none⟩ 1 1 [.string (Qad p).lead] (by rfl) (by rfl) (xM (cs:=#[.string (Qad p).lead]) (t:=9) (fr:=(0,0)) (xH W5 _)) (fun u hu=>by simp at hu;subst hu;rfl) (by decide) (by have:=HLN.out;unfold maxLen;omega) (by have:=HLN.out;omega) (xQ HBB.out (xQ HW5.out.size (by simp))) (W5.heap.size+1) (by simp) ?_;intro gg cap w6 hown6 hgrow hat6 hlt6;have G6t:=(hgrow.block tb (by simp;omega) (by rw [Qhs];exact Ne.symm HTL.out)).trans ((Below.heap_alloc W5 _ tb e1).trans G5t);have G6k:=(hgrow.block tk (by simp;omega) (by rw [Qhs];exact Ne.symm HKL.out)).trans ((Below.heap_alloc W5 _ tk e2).trans G5k);have G6x:=(hgrow.block xb (by have:=Qab G5x.out;simp;omega) (by rw [Qhs];exact Ne.symm HXL.out)).trans ((Below.heap_alloc W5 _ xb (Qab G5x.out)).trans G5x.out);have m1:=Qaa G6k 1 _ rfl;have m2:=Qaa G6k 2 _ rfl;have j2:=Qaa G6t 2 _ rfl;have jf:=xL G6t;have HG:=hQ hgrow;have HO6:=hQ hown6;have HT6:=hQ G6t;have HX6:=hQ G6x;have HK6:=hQ G6k;clear G6t G6k G6x hgrow hown6))
 all_goals
  have x1:=(Qbi HX6.out).2.1;have j1:=Qaa HT6.out 1 _ rfl;have n2:tb≠xb:=by have:=Qab HT.out;omega
  have hE:(Qdh x text leads p).2.1.map Value.string=leads.map Value.string ++ [.string (Qad p).lead]:=by rw [HR.out];simp
  have hLn:(Qdh x text leads p).2.1.length=leads.length+1:=by rw [HR.out];simp
  have hP:(Qdh x text leads p).2.2=Qft p:=by rw [HR.out]
  have HE:=hQ hE;have HLn:=hQ hLn;have HPp:=hQ hP
  have hgB:B≤gg:=by
   rcases HO6.out.2 with ⟨hv,_⟩|⟨g,cap',cur,hv,hg,_⟩
   ·simp at hv
   ·simp at hv
    omega
  have HR6:=hQ (show Rest (fun k=>blk la=some k) W5 w6 from (Rest.alloc _).trans (Rest.drew.trans (Rest.grown HG.out (fun k hk=>by rwa [Qhs] at hk))));clear hE hLn hP
  cases hz:(x.nm != 0)
  ·have HTx:=hQ (show (Qdh x text leads p).1=text from by rw [HR.out];simp only [bne_eq_false_iff_eq] at hz;simp [hz])
   go_wp2
   refine bodyPost_end (v:=.tuple #[]) (by simp [results,Tryz.results86,go_sem]) rfl ?_;have HRW:Rest (fun k=>k=b∨k=tb∨blk la=some k) w w6:=((Rest.off HW5.out).mono (fun k _ h=>Or.inl h)).trans (HR6.out.mono (fun k _ h=>Or.inr (Or.inr h)));have HRU:Rest (fun k=>k=tb) w6 (w6.setCell ⟨tb,2,none⟩ (.slice (some ⟨gg,0,none⟩) (leads.length+1) cap)):=Rest.set (X:=fun k=>k=tb) rfl _ _
   refine ⟨some ⟨gg,0,none⟩,cap,rfl,?_,?_,?_,HRW.trans (HRU.mono (fun k _ h=>Or.inr (Or.inl h))),?_⟩
   ·rw [HTx.out,HLn.out];exact Qa5 HT6.out rfl
   ·unfold LeadsAt;rw [HLn.out,HE.out];exact Qcr HO6.out HRU (fun k hk he=>by rw [Qhs] at hk;injection hk with hk;have:=HTB.out;have:gg=tb:=hk.trans he;omega)
   ·rw [HPp.out];exact HP5.out.upto fun k hk=>(HRU.block k (by have:=HP5.out.lt;have:=HR6.out.size;omega) (by have:=HN.out;omega)).trans (HR6.out.block k (by have:=HP5.out.lt;omega) (fun e=>by have:=(HLB.out k e).2.2.1;omega))
   ·intro k hk;have hk:gg=k:=by simpa [blk] using hk
    subst hk
    rcases hat6 with h | h
    ·rw [Qhs] at h;exact .inl h
    ·have:=HW5.out.size
     exact .inr (by omega)
  ·have HTx:=hQ (show (Qdh x text leads p).1=(Qad p).text from by rw [HR.out];simp only [bne_iff_ne] at hz;simp [hz])
   go_wp2
   refine bodyPost_end (v:=.tuple #[]) (by simp [results,Tryz.results86,go_sem]) rfl ?_;have HRW:Rest (fun k=>k=b∨k=tb∨blk la=some k) w w6:=((Rest.off HW5.out).mono (fun k _ h=>Or.inl h)).trans (HR6.out.mono (fun k _ h=>Or.inr (Or.inr h)));have HRU:Rest (fun k=>k=tb) w6 ((w6.setCell ⟨tb,2,none⟩ (.slice (some ⟨gg,0,none⟩) (leads.length+1) cap)).setCell ⟨tb,1,none⟩ (.string (Qad p).text)):=(Rest.set (X:=fun k=>k=tb) rfl _ _).trans (Rest.set (X:=fun k=>k=tb) rfl _ _)
   refine ⟨some ⟨gg,0,none⟩,cap,rfl,?_,?_,?_,HRW.trans (HRU.mono (fun k _ h=>Or.inr (Or.inl h))),?_⟩
   ·rw [HTx.out,HLn.out];exact Qa5 (Qa5 HT6.out rfl) rfl
   ·unfold LeadsAt;rw [HLn.out,HE.out];exact Qcr HO6.out HRU (fun k hk he=>by rw [Qhs] at hk;injection hk with hk;have:=HTB.out;have:gg=tb:=hk.trans he;omega)
   ·rw [HPp.out];exact HP5.out.upto fun k hk=>(HRU.block k (by have:=HP5.out.lt;have:=HR6.out.size;omega) (by have:=HN.out;omega)).trans (HR6.out.block k (by have:=HP5.out.lt;omega) (fun e=>by have:=(HLB.out k e).2.2.1;omega))
   ·intro k hk;have hk:gg=k:=by simpa [blk] using hk
    subst hk
    rcases hat6 with h | h
    ·rw [Qhs] at h;exact .inl h
    ·have:=HW5.out.size
     exact .inr (by omega)
theorem Qvt {b tb B:Nat} {p:PS} {kind:Int} {text:ByteArray} {leads:List ByteArray} {la:Option Addr} {lc:Nat} {kv:Value} (x:Part) (hx:x.nm≤7) (w:World) (h:PIn w b p)
  (ht:w.heap[tb]? = some (.cells #[.int .i64 kind,.string text,.slice la leads.length lc,kv] 25 (0,0))) (hl:LeadsAt B w la lc leads) (hne:b<tb) (htB:tb<B) (hB:B≤w.heap.size) (hlen:leads.length<65536) :
  Calls Tryz.prog 86 #[.pointer (some ⟨b,0,none⟩),.pointer (some ⟨tb,0,none⟩),.agg #[.string x.word,fnV x.nm,.int .i64 x.kids,.int .i64 x.least,.int .i64 x.most,.bool x.series,.bool x.commas]] w (Qie b tb B kind kv la (Qdh x text leads p) w):=by
 cases hf:Qee x (Qad p)
 ·exact Qvs x hx w h ht hl hne htB hB hf
 ·exact Qtp x hx w h ht hl hne htB hB hf hlen
end Go.Proofs.YtfjpemdejoejbaaGreat
