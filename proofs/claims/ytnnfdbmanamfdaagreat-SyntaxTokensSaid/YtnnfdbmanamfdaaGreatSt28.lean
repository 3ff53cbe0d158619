/- Part 28: The contracts of text, Print, limited and Valid. Plain: what is printed is scanned as the tokens of the tree. Texts of stage 3 that this seat needs: TrBase, TreSize. Texts of stage 3 that this seat needs: TrInts, TreFind, TreNumber, TreSame, TreRSame, TreClone, TreAt, TreAwake, TreOpen. The contracts of slices.Grow at nil and of slices.Concat of two slices of ints. -/
import Derived.Test.YtnnfdbmanamfdaaGreatSt1
import Derived.Test.YtnnfdbmanamfdaaGreatSt26
import Derived.Test.YtnnfdbmanamfdaaGreatSt10
import Derived.Test.YtnnfdbmanamfdaaGreatSt19
import Derived.Test.YtnnfdbmanamfdaaGreatSt15
import Derived.Test.YtnnfdbmanamfdaaGreatSt27
import Derived.Deep.QuietTactic
import Derived.Lib.Builder
import Derived.Test.YtnnfdbmanamfdaaGreatRows
import Derived.WalkKit
import Derived.WalkSpells
import Derived.WalkLawsBesides
import Derived.Lib.Hide
import Derived.ChangeSlices
import Derived.ProofKit
import Derived.Below
import Derived.Deep.RegionLaw
import Derived.Deep.DrawnRows
import Derived.Shelf.RegionOpenPlain
import Derived.StillTailTactics
import Derived.Deep.AppendLies
import Derived.Laws.OwnMore
import Derived.Deep.Slices
import Derived.Lib.AppendZerosOnto
import Derived.Lib.Walk
import Derived.Lib.SliceRun
set_option maxRecDepth 100000
set_option maxHeartbeats 4000000
namespace Go.Proofs.YtnnfdbmanamfdaaGreat
open Go.RowKit
theorem tree_wr (N:Nat):TreeWr N:=by
 induction N with
 | zero =>
  intro B b s t v w hN
  exfalso
  cases t with
  | mk kd tx ls ks=>rw [Tr.mk.sizeOf_spec] at hN;omega
 | succ N ih=>exact tree_step ih
theorem StrsAt.low {S:Nat → Prop} {w:World} {A:Option Addr} {l:List ByteArray} (h:StrsAt S w A l):StrsAt (fun k=>k < w.heap.size) w A l:=fun hne=>by
 obtain ⟨b,off,hA,_,hc⟩:=h hne
 refine ⟨b,off,hA,?_,hc⟩
 cases l with
 | nil=>exact absurd rfl hne
 | cons a r=>exact xK w _ (hc 0 a rfl)
mutual
theorem TrAt.low {S:Nat → Prop} {w:World}:(t:Tr) → (v:TV) → TrAt S w t v → TrAt (fun k=>k < w.heap.size) w t v
 | .mk k x ls ks,v,h=>by
  unfold TrAt at h ⊢
  obtain ⟨h1,h2,h3,h4,h5,h6,h7⟩:=h
  refine ⟨h1,h2,h3,h4,h5.low,fun hne=>?_,h7⟩
  obtain ⟨b,off,hA,hb,hc⟩:=h6 hne
  refine ⟨b,off,hA,?_,TrsAt.low b ks off hc⟩
  cases ks with
  | nil=>exact absurd rfl hne
  | cons a r =>
   unfold TrsAt at hc
   obtain ⟨u,c0,_⟩:=hc
   exact xK w _ c0
theorem TrsAt.low {S:Nat → Prop} {w:World} (b:Nat):(l:List Tr) → (off:Nat) → TrsAt S w b off l → TrsAt (fun k=>k < w.heap.size) w b off l
 | [],off,h=>trivial
 | t :: r,off,h=>by
  unfold TrsAt at h ⊢
  obtain ⟨v,c0,c1,c2,c3,ht,hr⟩:=h
  exact ⟨v,c0,c1,c2,c3,TrAt.low t v ht,TrsAt.low b r _ hr⟩
end
theorem WrS.new (W:World) (B:Nat) (hB:B ≤ W.heap.size):WrS B W.heap.size ([],⟨#[]⟩) (W.alloc (.cells #[.pointer none,.slice none 0 0,.string ⟨#[]⟩] 140)) :=
 ⟨.inl ⟨hB,.slice none 0 0,xH W _,⟨rfl,.inl ⟨rfl,rfl⟩⟩,by simp [Value.ownBlock]⟩,xA 0⟩
theorem text_syn (S:Nat → Prop) (t:Tr) (v:TV) (w:World) (h:TrAt S w t v) (hs:Qcn t = true) (hl:ledT t = true) (hsz:Qf7 (Qaf t) < 140737488355328) :
  Calls Tryz.prog 73 #[.agg #[.int .i64 v.kind,.string v.text,.slice v.la v.ll v.lc,.slice v.ka v.kl v.kc]] w fun e w'=>e = .returned (.string ⟨(textL t).toArray⟩) ∧ Below w.heap.size w w':=by
 have HT:=hQ (h.low)
 have HS:=hQ hs
 have HL:=hQ hl
 have HZ:=hQ hsz
 clear h hs hl hsz
 go_enter Tryz.func73,Tryz.ntmps73
 go_wp2_with fail
 have HB1:=hQ ((xC w.heap.size w).alloc (xA _) (.cells #[.int .i64 v.kind,.string v.text,.slice v.la v.ll v.lc,.slice v.ka v.kl v.kc] 25))
 have hz1:(w.alloc (.cells #[.int .i64 v.kind,.string v.text,.slice v.la v.ll v.lc,.slice v.ka v.kl v.kc] 25)).heap.size = w.heap.size + 1:=by simp
 rw [← hz1]
 generalize w.alloc (.cells #[.int .i64 v.kind,.string v.text,.slice v.la v.ll v.lc,.slice v.ka v.kl v.kc] 25) = W1 at HB1 hz1 ⊢
 have HW:=hQ (WrS.new W1 w.heap.size HB1.out.size)
 have HB2:=hQ (HB1.out.alloc HB1.out.size (.cells #[.pointer none,.slice none 0 0,.string ⟨#[]⟩] 140))
 clear hz1
 go_at_call 106
 refine (tree_wr _ w.heap.size W1.heap.size ([],⟨#[]⟩) t v _ (xA _) (HT.out.lows HB2.out) HW.out HB2.out.size HS.out HL.out (by have:=HZ.out;show 0 + _ < _;omega)).mono ?_
 rintro e w2 ⟨rfl,h1,h2,h3⟩
 have H1:=hQ h1
 have H2:=hQ (HB2.out.trans h2)
 clear h1 h2 h3
 go_wp2_with fail
 go_at_call 107
 refine (stringW_any w.heap.size W1.heap.size (textL t) _ _ H1.out.1 H2.out.size).mono ?_
 rintro e w3 ⟨rfl,h4⟩
 have H4:=hQ (H2.out.trans h4)
 clear h4
 go_wp2
 go_ret
 exact ⟨rfl,H4.out⟩
def printT (t:Tr):ByteArray:=if Qao t && ledT t then ⟨(textL t).toArray⟩ else ⟨#[]⟩
theorem print_syn (S:Nat → Prop) (t:Tr) (v:TV) (w:World) (h:TrAt S w t v) (hs:Qcn t = true) (hw:Qdb t = true) (hsz:Qf7 (Qaf t) < 140737488355328) :
  Calls Tryz.prog 42 #[.agg #[.int .i64 v.kind,.string v.text,.slice v.la v.ll v.lc,.slice v.ka v.kl v.kc]] w fun e w'=>e = .returned (.string (printT t)) ∧ Below w.heap.size w w':=by
 have HW0:=hQ ((xC w.heap.size w).alloc (xA _) (.cells #[.int .i64 v.kind,.string v.text,.slice v.la v.ll v.lc,.slice v.ka v.kl v.kc] 25))
 have HG0:=hQ (xH w (.cells #[.int .i64 v.kind,.string v.text,.slice v.la v.ll v.lc,.slice v.ka v.kl v.kc] 25))
 have HT:=hQ h
 have HS:=hQ hs
 have HW:=hQ hw
 have HZ:=hQ hsz
 clear h hs hw hsz
 cases hp:(Qao t && ledT t)
 ·have HR:=hQ (show printT t = ⟨#[]⟩ from by unfold printT;rw [hp];rfl)
  go_enter Tryz.func42,Tryz.ntmps42
  go_wp2_with fail
  go_at_call 72
  refine (printable_syn S t v _ (HT.out.keep HW0.out) HS.out HW.out).mono ?_
  rw [hp]
  rintro e w1 ⟨rfl,hb⟩
  have HB:=hQ (HW0.out.trans (hb.mono HW0.out.size))
  clear hb
  go_wp2
  go_ret
  exact ⟨by rw [HR.out];rfl,HB.out⟩
 ·have HR:=hQ (show printT t = ⟨(textL t).toArray⟩ from by unfold printT;rw [hp];rfl)
  have HL:=hQ (show ledT t = true from by rw [Bool.and_eq_true] at hp;exact hp.2)
  go_enter Tryz.func42,Tryz.ntmps42
  go_wp2_with fail
  go_at_call 72
  refine (printable_syn S t v _ (HT.out.keep HW0.out) HS.out HW.out).mono ?_
  rw [hp]
  rintro e w1 ⟨rfl,hb⟩
  have HB:=hQ (HW0.out.trans (hb.mono HW0.out.size))
  have HG1:=hQ ((hb.block w.heap.size (by simp)).trans HG0.out)
  clear hb
  have k0:w1.cell? ⟨w.heap.size,0,none⟩ = some (.int .i64 v.kind):=Qab HG1.out 0 _ rfl
  have k1:w1.cell? ⟨w.heap.size,1,none⟩ = some (.string v.text):=Qab HG1.out 1 _ rfl
  have k2:w1.cell? ⟨w.heap.size,2,none⟩ = some (.slice v.la v.ll v.lc):=Qab HG1.out 2 _ rfl
  have k3:w1.cell? ⟨w.heap.size,3,none⟩ = some (.slice v.ka v.kl v.kc):=Qab HG1.out 3 _ rfl
  go_wp2_with fail
  go_at_call 73
  refine (text_syn S t v _ (HT.out.keep HB.out) HS.out HL.out HZ.out).mono ?_
  rintro e w2 ⟨rfl,hb2⟩
  have HB2:=hQ (HB.out.trans (hb2.mono HB.out.size))
  clear hb2 k0 k1 k2 k3
  go_wp2
  go_ret
  exact ⟨by rw [HR.out];rfl,HB2.out⟩
def mostP:List Part → Int → Bool
 | [],_=>true
 | x :: r,n=>decide (Qbz x n ≤ x.most) && mostP r n
mutual
def Qfv:Tr → Bool
 | .mk kd _ _ ks=>mostP (Qae kd) (Qb0 (Qae kd) ks.length).1 && limL ks
def limL:List Tr → Bool
 | []=>true
 | k :: r=>Qfv k && limL r
end
theorem limT_eq (t:Tr):Qfv t = (mostP (Qae t.kind) (Qb0 (Qae t.kind) t.kids.length).1 && limL t.kids):=by
 cases t with
 | mk kd x ls ks=>rw [Qfv];rfl
theorem limL_at (l:List Tr) (j:Nat) (k:Tr) (hk:l[j]? = some k):limL (l.drop j) = (Qfv k && limL (l.drop (j + 1))):=by
 obtain ⟨hj,he⟩:=List.getElem?_eq_some_iff.1 hk
 rw [List.drop_eq_getElem_cons hj,he,limL]
theorem limL_end (l:List Tr) (j:Nat) (h:l.length ≤ j):limL (l.drop j) = true:=by
 rw [List.drop_eq_nil_of_le h,limL]
def Qf9 (t:Tr):Bool:=Qao t && ledT t && Qfv t && Qdp t 40 && decide ((textL t).length ≤ 4096)
def tokP (last:ByteArray):List Qbg → List Tok
 | []=>[]
 | p :: r=>⟨(Qam (bl p.2):Int),sepW last p.1 p.2,p.2⟩ :: tokP p.2 r
theorem bl_data (x:ByteArray):x.data.toList = bl x:=by unfold bl suf;rw [List.drop_zero]
theorem joinL_cons (t:Tok) (r:List Tok) (tail:List UInt8):joinL (t :: r) tail = bl t.lead ++ bl t.text ++ joinL r tail:=by
 unfold joinL
 rw [List.flatMap_cons]
 simp only [List.append_assoc]
theorem foldW_join:(ps:List Qbg) → (s:List UInt8 × ByteArray) → (Qhf s ps).1 = s.1 ++ joinL (tokP s.2 ps) []
 | [],s=>by
  rw [tokP]
  unfold Qhf joinL
  simp
 | p :: r,s=>by
  have h:Qhf s (p :: r) = Qhf (tokW s p.1 p.2) r:=rfl
  rw [h,foldW_join r,tokP,joinL_cons]
  unfold tokW
  rw [bl_data,bl_data]
  simp only [List.append_assoc]
theorem tokP_nofuse:(ps:List Qbg) → (last:ByteArray) → NoFuse (tokP last ps)
 | [],_=>by rw [tokP,NoFuse];exact True.intro
 | p :: r,last=>by
  rw [tokP,NoFuse]
  refine ⟨fun u r' hu hl=>?_,tokP_nofuse r p.2⟩
  cases r with
  | nil=>rw [tokP] at hu;cases hu
  | cons q r2 =>
   rw [tokP] at hu
   injection hu with hu _
   subst hu
   show Qfs p.2 q.2 = false
   have hl':bl (sepW p.2 q.1 q.2) = []:=hl
   unfold sepW at hl'
   split at hl'
   ·exact absurd hl' (by decide)
   ·rename_i hn
    have h0:q.1.size = 0:=by rw [← Qfi,hl'];rfl
    cases hf:Qfs p.2 q.2 with
    | false=>rfl
    | true=>exact absurd ⟨h0,hf⟩ hn
def GoodP (p:Qbg):Prop:=Qam (bl p.2) ≠ 0 ∧ Qfp p.1 false = true
theorem blank_trivia:Qfp ⟨#[32]⟩ false = true:=by kernel_rfl
theorem none_trivia:Qfp ⟨#[]⟩ false = true:=by kernel_rfl
theorem tokP_good:(ps:List Qbg) → (last:ByteArray) → (∀ p ∈ ps,GoodP p) → ∀ u ∈ tokP last ps,GoodTok u
 | [],_,_,u,hu=>by rw [tokP] at hu;simp at hu
 | p :: r,last,h,u,hu=>by
  rw [tokP] at hu
  rcases List.mem_cons.1 hu with rfl | hu
  ·obtain ⟨h1,h2⟩:=h p (by simp)
   refine ⟨rfl,?_,?_⟩
   ·show (Qam (bl p.2):Int) ≠ 0
    omega
   ·show Qfp (sepW last p.1 p.2) false = true
    unfold sepW
    split
    ·exact blank_trivia
    ·exact h2
  ·exact tokP_good r p.2 (fun q hq=>h q (by simp [hq])) u hu
theorem scan_pieces {ps:List Qbg} {tail s:ByteArray} (h:∀ p ∈ ps,GoodP p) (ht:Qfp tail true = true) (hs:bl s = (Qhf ([],⟨#[]⟩) (ps ++ [(tail,⟨#[]⟩)])).1) (hz:s.size ≤ 4096):Qbd s = ⟨tokP ⟨#[]⟩ ps,tail,0,0⟩:=by
 refine again (ts:=tokP ⟨#[]⟩ ps) ?_ hz (tokP_good ps _ h) (tokP_nofuse ps _) ht
 rw [hs,foldW_append]
 have e:∀ q:List UInt8 × ByteArray,(Qhf q [(tail,⟨#[]⟩)]).1 = q.1 ++ bl tail:=fun q=>by
  have h1:Qhf q [(tail,⟨#[]⟩)] = tokW q tail ⟨#[]⟩:=rfl
  have hf:Qfs q.2 ⟨#[]⟩ = false:=by
   unfold Qfs
   have:Qam (suf ⟨#[]⟩ 0) = 0:=by decide
   rw [this]
   simp
  rw [h1]
  unfold tokW sepW
  rw [if_neg (by rw [hf];simp),bl_data,bl_data]
  have:bl ⟨#[]⟩ = []:=rfl
  rw [this,List.append_nil]
 rw [e,foldW_join,List.nil_append]
 unfold joinL
 simp
def Qga (w:World) (b:Nat) (u:TV):World:=(((w.setCell ⟨b,0,none⟩ (.int .i64 u.kind)).setCell ⟨b,1,none⟩ (.string u.text)).setCell ⟨b,2,none⟩ (.slice u.la u.ll u.lc)).setCell ⟨b,3,none⟩ (.slice u.ka u.kl u.kc)
def trO (v:TV):Obj:=.cells #[.int .i64 v.kind,.string v.text,.slice v.la v.ll v.lc,.slice v.ka v.kl v.kc] 25
theorem Qg1 {w:World} {b:Nat} {v:TV} (u:TV) (h:w.heap[b]? = some (trO v)):(Qga w b u).heap[b]? = some (trO u):=Qa0 (Qa0 (Qa0 (Qa0 h rfl) rfl) rfl) rfl
theorem Qcd (w:World) (b:Nat) (u:TV):Below b w (Qga w b u):=((((xC b w).setCell (p:=⟨b,0,none⟩) (xA _) _).setCell (p:=⟨b,1,none⟩) (xA _) _).setCell (p:=⟨b,2,none⟩) (xA _) _).setCell (p:=⟨b,3,none⟩) (xA _) _
mutual
def Qan:Tr → Nat
 | .mk _ _ _ ks=>1 + Qap ks
def Qap:List Tr → Nat
 | []=>0
 | t :: r=>Qan t + Qap r
end
mutual
def Qen:Tr → Nat
 | .mk _ _ _ ks=>Qdl ks + 1
def Qdl:List Tr → Nat
 | []=>0
 | t :: r=>max (Qen t) (Qdl r)
end
theorem Qbv (t:Tr):Qan t = 1 + Qap t.kids:=by cases t;rw [Qan];rfl
theorem depthT_eq (t:Tr):Qen t = Qdl t.kids + 1:=by cases t;rw [Qen];rfl
theorem Qee:(a b:List Tr) → Qap (a ++ b) = Qap a + Qap b
 | [],b=>by rw [List.nil_append,Qap];omega
 | t :: r,b=>by rw [List.cons_append,Qap,Qap,Qee r b];omega
theorem depthL_append:(a b:List Tr) → Qdl (a ++ b) = max (Qdl a) (Qdl b)
 | [],b=>by rw [List.nil_append,Qdl];omega
 | t :: r,b=>by rw [List.cons_append,Qdl,Qdl,depthL_append r b];omega
theorem Qgb {α:Type} {l:List α} {j:Nat} {k:α} (h:l[j]? = some k):l.take (j + 1) = l.take j ++ [k]:=by
 rw [List.take_add_one,h]
 rfl
theorem Qc0 {l:List Tr} {j:Nat} {k:Tr} (h:l[j]? = some k):Qap (l.take (j + 1)) = Qap (l.take j) + Qan k:=by
 rw [Qgb h,Qee,Qap,Qap]
 omega
theorem depthL_take {l:List Tr} {j:Nat} {k:Tr} (h:l[j]? = some k):Qdl (l.take (j + 1)) = max (Qdl (l.take j)) (Qen k):=by
 rw [Qgb h,depthL_append,Qdl,Qdl]
 omega
theorem Qcy (l:List Tr) (j:Nat):Qap (l.take j) ≤ Qap l:=by
 conv=>rhs;rw [← List.take_append_drop j l,Qee]
 omega
theorem Qbw {t k:Tr} {j:Nat} (h:t.kids[j]? = some k):Qan k ≤ Qan t:=by
 have h1:=Qc0 h
 have h2:=Qcy t.kids (j + 1)
 rw [Qbv t]
 omega
mutual
theorem Qhg:(t:Tr) → Qen t ≤ Qan t
 | .mk _ _ _ ks=>by rw [Qen,Qan];have:=Qgo ks;omega
theorem Qgo:(l:List Tr) → Qdl l ≤ Qap l
 | []=>by rw [Qdl];omega
 | t :: r=>by rw [Qdl,Qap];have:=Qhg t;have:=Qgo r;omega
end
theorem Qbj:(l:List Tr) → l.length ≤ Qap l
 | []=>Nat.zero_le _
 | t :: r=>by
  rw [Qap,xD,Qbv]
  have:=Qbj r
  omega
theorem Qa1 {t k:Tr} {j:Nat} (h:t.kids[j]? = some k):SizeOf.sizeOf k < SizeOf.sizeOf t:=by
 cases t with
 | mk kd x ls ks =>
  have:=List.sizeOf_lt_of_mem (List.mem_of_getElem? (show ks[j]? = some k from h))
  rw [Tr.mk.sizeOf_spec]
  omega
theorem tr_pos (t:Tr):0 < SizeOf.sizeOf t:=by cases t;rw [Tr.mk.sizeOf_spec];omega
def KidsAtN (f:List Tr → Nat) (t:Tr) (W:World) (n i:Value) (wr:World):Prop:=∃ j:Nat,i = .int .i64 j ∧ j ≤ t.kids.length ∧ n = .int .i64 (f (t.kids.take j):Nat) ∧ Below W.heap.size W wr
end Go.Proofs.YtnnfdbmanamfdaaGreat
namespace Go.Proofs.YtnnfdbmanamfdaaGreat
open Go.RowKit Go.ChangeShapes Go.WideShapes
def IntsAt (w:World) (A:Option Addr) (zs:List Int):Prop:=zs ≠ [] → ∃ b off,A = some ⟨b,off,none⟩ ∧ b < w.heap.size ∧ ∀ (i:Nat) (x:Int),zs[i]? = some x → w.cell? ⟨b,off + i,none⟩ = some (.int .i64 x)
section
variable {H:Type} {enc:TypeId × Value → H} {w:World} {base:Nat} {spare:Nat → Bool} {held:Bool}
theorem cells_int1:Tryz.prog.cellsOf 3 = 1:=by kernel_rfl
theorem open_ints1 {fuel:Nat} {cs:List Value} {x:DataW H × List MemPlace} (h:DataW.trod enc Tryz.prog w base spare held fuel 26 cs = some x) :
  ∃ (A:Option Addr) (c:Nat) (zs:List Int),cs = [.slice A zs.length c] ∧ IntsAt w A zs ∧ zs.length ≤ maxLen ∧ zs.length ≤ c ∧ ∀ z ∈ zs,(Lit.int .i64 z).wf = true:=by
 rcases open_ints Tryz.underlying26 Tryz.underlying3 cells_int1 h with ⟨hcs,_⟩ | ⟨a,len,cap,zs,hcs,_,hl,hm,hz,_,hc,hwf⟩
 ·exact ⟨none,0,[],hcs,fun h=>absurd rfl h,Nat.zero_le _,Nat.zero_le _,fun z h=>by simp at h⟩
 ·have hlz:len ≤ zs.length:=by rw [hz];split <;> omega
  have hlen:(zs.take len).length = len:=by rw [List.length_take];omega
  refine ⟨some a,cap,zs.take len,by rw [hlen];exact hcs,fun hne=>?_,by rw [hlen];omega,by rw [hlen];exact hl,fun z hz=>hwf z (List.mem_of_mem_take hz)⟩
  have h0:0 < len:=by
   rcases Nat.eq_zero_or_pos len with h | h
   ·subst h
    exact absurd rfl hne
   ·exact h
  obtain ⟨b,off,spot⟩:=a
  have hspot:spot = none:=by
   have:=World.cell?_spot (hc 0 (by omega))
   simpa [Addr.add] using this
  subst hspot
  have hadd:∀ n:Nat,((⟨b,off,none⟩:Addr).add n) = ⟨b,off + n,none⟩:=fun n=>by unfold Addr.add;split <;> simp_all
  refine ⟨b,off,rfl,?_,fun i x hx=>?_⟩
  ·have:=hc 0 (by omega)
   rw [hadd] at this
   exact xK w _ this
  ·have hi:=(List.getElem?_eq_some_iff.1 hx).1
   rw [hlen] at hi
   have:=hc i (by omega)
   rw [hadd] at this
   rw [this]
   rw [List.getElem?_take_of_lt hi] at hx
   rw [List.getD_eq_getElem?_getD,hx]
   rfl
end
end Go.Proofs.YtnnfdbmanamfdaaGreat
namespace Go.Proofs.YtnnfdbmanamfdaaGreat
open Go.RowKit
def CellsAt (w:World) (b o:Nat) (y:TV):Prop:=w.cell? ⟨b,o,none⟩ = some (.int .i64 y.kind) ∧ w.cell? ⟨b,o + 1,none⟩ = some (.string y.text) ∧ w.cell? ⟨b,o + 2,none⟩ = some (.slice y.la y.ll y.lc) ∧ w.cell? ⟨b,o + 3,none⟩ = some (.slice y.ka y.kl y.kc)
end Go.Proofs.YtnnfdbmanamfdaaGreat
namespace Go.Proofs.YtnnfdbmanamfdaaGreat
open Go.RowKit Go.Shelf
theorem mixed:Tryz.prog.follows Departure.mixedOrders = true:=by kernel_rfl
def KidsIn (S:Nat → Prop) (w:World) (A:Option Addr) (l:List Tr):Prop:=l ≠ [] → ∃ b off,A = some ⟨b,off,none⟩ ∧ S b ∧ TrsAt S w b off l
theorem TrAt.strsIn {S:Nat → Prop} {w:World} {t:Tr} {v:TV} (h:TrAt S w t v):StrsAt S w v.la t.leads:=by
 cases t with
 | mk k x ls ks =>
  unfold TrAt at h
  exact h.2.2.2.2.1
mutual
def fitT:Tr → Bool
 | .mk _ _ ls ks=>decide (ls.length ≤ 8796093022208) && decide (ks.length ≤ 1900000000000) && fitL ks
def fitL:List Tr → Bool
 | []=>true
 | t :: r=>fitT t && fitL r
end
theorem fitL_get:(l:List Tr) → (j:Nat) → (k:Tr) → fitL l = true → l[j]? = some k → fitT k = true
 | [],j,k,_,h=>by simp at h
 | a :: r,j,k,hs,h=>by
  unfold fitL at hs
  rw [Bool.and_eq_true] at hs
  cases j with
  | zero=>simp at h;subst h;exact hs.1
  | succ j=>exact fitL_get r j k hs.2 (by simpa using h)
theorem Qco {t:Tr} (h:fitT t = true):t.leads.length ≤ 8796093022208 ∧ t.kids.length ≤ 1900000000000 ∧ ∀ (j:Nat) (k:Tr),t.kids[j]? = some k → fitT k = true:=by
 cases t with
 | mk kd tx ls ks =>
  unfold fitT at h
  simp only [Bool.and_eq_true,decide_eq_true_eq] at h
  exact ⟨h.1.1,h.1.2,fun j k hk=>fitL_get ks j k h.2 hk⟩
theorem TrsAt.vals {S:Nat → Prop} {w:World} {b:Nat}:(l:List Tr) → (off:Nat) → TrsAt S w b off l → ∃ us:List TV,us.length = l.length ∧ (∀ (i:Nat) (k:Tr) (u:TV),l[i]? = some k → us[i]? = some u → TrAt S w k u) ∧ ∀ (j:Nat) (x:Value),(Qag us)[j]? = some x → w.cell? ⟨b,off + j,none⟩ = some x
 | [],off,h=>⟨[],rfl,fun i k u h=>by simp at h,fun j x h=>by simp [Qag] at h⟩
 | t :: r,off,h=>by
  unfold TrsAt at h
  obtain ⟨v,c0,c1,c2,c3,ht,hr⟩:=h
  obtain ⟨us,h1,h2,h3⟩:=TrsAt.vals r (off + 4) hr
  refine ⟨v :: us,by simp [h1],fun i k u hk hu=>?_,fun j x hx=>?_⟩
  ·cases i with
   | zero=>simp at hk hu;subst hk hu;exact ht
   | succ i=>exact h2 i k u (by simpa using hk) (by simpa using hu)
  ·have hs:Qag (v :: us) = v.cells ++ Qag us:=by unfold Qag;rw [List.flatMap_cons]
   rw [hs] at hx
   have h4:v.cells.length = 4:=rfl
   rcases Nat.lt_or_ge j 4 with hj | hj
   ·rw [List.getElem?_append_left (by omega)] at hx
    rcases (show j = 0 ∨ j = 1 ∨ j = 2 ∨ j = 3 from by omega) with rfl | rfl | rfl | rfl
    ·simp [TV.cells] at hx;subst hx;exact c0
    ·simp [TV.cells] at hx;subst hx;exact c1
    ·simp [TV.cells] at hx;subst hx;exact c2
    ·simp [TV.cells] at hx;subst hx;exact c3
   ·rw [List.getElem?_append_right (by omega),h4] at hx
    have:=h3 (j - 4) x hx
    rw [show off + 4 + (j - 4) = off + j from by omega] at this
    exact this
theorem KidsIn.vals {S:Nat → Prop} {w:World} {t:Tr} {v:TV} (h:TrAt S w t v):∃ us:List TV,us.length = t.kids.length ∧ (∀ (i:Nat) (k:Tr) (u:TV),t.kids[i]? = some k → us[i]? = some u → TrAt S w k u) ∧ (0 < t.kids.length → ∃ b off,v.ka = some ⟨b,off,none⟩ ∧ ∀ (j:Nat) (x:Value),(Qag us)[j]? = some x → w.cell? ⟨b,off + j,none⟩ = some x):=by
 cases t with
 | mk k x ls ks =>
  unfold TrAt at h
  by_cases hk:ks = []
  ·subst hk
   exact ⟨[],rfl,(fun i k u h _=>by simp [Tr.kids] at h),(fun h=>absurd h (by simp [Tr.kids]))⟩
  ·obtain ⟨b,off,hA,_,ht⟩:=h.2.2.2.2.2.1 hk
   obtain ⟨us,h1,h2,h3⟩:=TrsAt.vals ks off ht
   exact ⟨us,h1,h2,fun _=>⟨b,off,hA,h3⟩⟩
theorem StrsAt.vals {S:Nat → Prop} {w:World} {A:Option Addr} {l:List ByteArray} (h:StrsAt S w A l):0 < l.length → ∃ b off,A = some ⟨b,off,none⟩ ∧ ∀ (j:Nat) (x:Value),(l.map Value.string)[j]? = some x → w.cell? ⟨b,off + j,none⟩ = some x:=fun h0=>by
 obtain ⟨b,off,hA,_,hc⟩:=h (fun e=>by rw [e] at h0;simp at h0)
 refine ⟨b,off,hA,fun j x hx=>?_⟩
 rw [List.getElem?_map] at hx
 cases hl:l[j]? with
 | none=>rw [hl] at hx;cases hx
 | some y =>
  rw [hl] at hx
  simp at hx
  subst hx
  exact hc j y hl
theorem strings_one (l:List ByteArray):∀ u ∈ l.map Value.string,u.oneCell' = true:=by
 intro u hu
 obtain ⟨x,_,rfl⟩:=List.mem_map.1 hu
 rfl
theorem grown_below {w w':World} (h:w.grownBy w' none):Below w.heap.size w w':=⟨h.os,h.tape,h.output,h.size,fun k hk=>h.block k hk (by simp)⟩
def RowIs (cs:Array Value) (vs:List TV):Prop:=∀ i v,vs[i]? = some v → cs[i * 4]? = some (.int .i64 v.kind) ∧ cs[i * 4 + 1]? = some (.string v.text) ∧ cs[i * 4 + 2]? = some (.slice v.la v.ll v.lc) ∧ cs[i * 4 + 3]? = some (.slice v.ka v.kl v.kc)
def setR (cs:Array Value) (j:Nat) (y:TV):Array Value:=(((cs.setIfInBounds (j * 4) (.int .i64 y.kind)).setIfInBounds (j * 4 + 1) (.string y.text)).setIfInBounds (j * 4 + 2) (.slice y.la y.ll y.lc)).setIfInBounds (j * 4 + 3) (.slice y.ka y.kl y.kc)
theorem RowIs.set {cs:Array Value} {vs:List TV} (h:RowIs cs vs) {j:Nat} (hj:j < vs.length) (y:TV):RowIs (setR cs j y) (vs.set j y):=by
 obtain ⟨x,hx⟩:∃ x,vs[j]? = some x:=⟨_,xF hj⟩
 obtain ⟨g0,g1,g2,g3⟩:=h j x hx
 have l0:=(Array.getElem?_eq_some_iff.1 g0).1
 have l1:=(Array.getElem?_eq_some_iff.1 g1).1
 have l2:=(Array.getElem?_eq_some_iff.1 g2).1
 have l3:=(Array.getElem?_eq_some_iff.1 g3).1
 intro i v hv
 unfold setR
 by_cases hij:i = j
 ·subst hij
  rw [List.getElem?_set_self hj] at hv
  injection hv with hv
  subst hv
  refine ⟨?_,?_,?_,?_⟩ <;> simp [Array.getElem?_setIfInBounds] <;> omega
 ·rw [List.getElem?_set_ne (fun e=>hij e.symm)] at hv
  obtain ⟨f0,f1,f2,f3⟩:=h i v hv
  refine ⟨?_,?_,?_,?_⟩
  ·rw [Array.getElem?_setIfInBounds_ne (by omega),Array.getElem?_setIfInBounds_ne (by omega),Array.getElem?_setIfInBounds_ne (by omega),Array.getElem?_setIfInBounds_ne (by omega)];exact f0
  ·rw [Array.getElem?_setIfInBounds_ne (by omega),Array.getElem?_setIfInBounds_ne (by omega),Array.getElem?_setIfInBounds_ne (by omega),Array.getElem?_setIfInBounds_ne (by omega)];exact f1
  ·rw [Array.getElem?_setIfInBounds_ne (by omega),Array.getElem?_setIfInBounds_ne (by omega),Array.getElem?_setIfInBounds_ne (by omega),Array.getElem?_setIfInBounds_ne (by omega)];exact f2
  ·rw [Array.getElem?_setIfInBounds_ne (by omega),Array.getElem?_setIfInBounds_ne (by omega),Array.getElem?_setIfInBounds_ne (by omega),Array.getElem?_setIfInBounds_ne (by omega)];exact f3
structure Rest1 (g:Nat) (w w':World):Prop where
 os:w'.os = w.os
 tape:w'.tape = w.tape
 output:w'.output = w.output
 size:w.heap.size ≤ w'.heap.size
 block:∀ k,k < w.heap.size → k ≠ g → w'.heap[k]? = w.heap[k]?
theorem Rest1.trans {g:Nat} {u v w:World} (h:Rest1 g u v) (k:Rest1 g v w):Rest1 g u w:=⟨k.os.trans h.os,k.tape.trans h.tape,k.output.trans h.output,Nat.le_trans h.size k.size,fun i hi hx=>(k.block i (xE hi h.size) hx).trans (h.block i hi hx)⟩
theorem Rest1.below {g:Nat} {w w':World} (h:Below w.heap.size w w'):Rest1 g w w':=⟨h.os,h.tape,h.output,h.size,fun k hk _=>h.block k hk⟩
theorem Rest1.set (w:World) (g o:Nat) (u:Value):Rest1 g w (w.setCell ⟨g,o,none⟩ u):=⟨rfl,rfl,rfl,by simp [World.setCell],fun k _ hk=>Below.heap_setCell _ _ _ _ (fun e:k = g=>hk e)⟩
theorem Rest1.down {g B:Nat} {w w':World} (h:Rest1 g w w') (hg:B ≤ g) (hB:B ≤ w.heap.size):Below B w w':=⟨h.os,h.tape,h.output,h.size,fun k hk=>h.block k (xE hk hB) (by omega)⟩
theorem TrAt.make {S:Nat → Prop} {w:World} {t:Tr} {v:TV} (h1:v.kind = t.kind) (h2:v.text = t.text) (h3:v.ll = t.leads.length) (h4:v.kl = t.kids.length) (h5:StrsAt S w v.la t.leads) (h6:KidsIn S w v.ka t.kids) (h7:v.ll ≤ v.lc ∧ v.kl ≤ v.kc):TrAt S w t v:=by
 cases t
 unfold TrAt
 exact ⟨h1,h2,h3,h4,h5,h6,h7⟩
theorem Qav {w:World} {b o k:Nat} {u:Value} (h:k ≠ b):(w.setCell ⟨b,o,none⟩ u).heap[k]? = w.heap[k]?:=Below.heap_setCell _ _ _ _ (fun e:k = b=>h e)
theorem Qbq {w:World} {b k:Nat} (u:TV) (h:k ≠ b):(Qga w b u).heap[k]? = w.heap[k]?:=(((Qav h).trans (Qav h)).trans (Qav h)).trans (Qav h)
theorem Qdq (w:World) (b:Nat) (u:TV):(Qga w b u).heap.size = w.heap.size:=by simp [Qga,World.setCell]
end Go.Proofs.YtnnfdbmanamfdaaGreat
namespace Go.Proofs.YtnnfdbmanamfdaaGreat
open Go.RowKit Go.ChangeShapes Go.WideShapes Go.Deep
def szB:List ByteArray → Nat
 | []=>0
 | y :: r=>y.size + szB r
mutual
def cntT:Tr → Nat
 | .mk _ x ls ks=>1 + x.size + szB ls + ls.length + ks.length + cntL ks
def cntL:List Tr → Nat
 | []=>0
 | t :: r=>cntT t + cntL r
end
mutual
theorem fit_cnt:(t:Tr) → cntT t ≤ 1048576 → fitT t = true
 | .mk _ _ ls ks,h=>by
  rw [cntT] at h
  rw [fitT,fitL_cnt ks (by omega),decide_eq_true (by omega),decide_eq_true (by omega)]
  rfl
theorem fitL_cnt:(l:List Tr) → cntL l ≤ 1048576 → fitL l = true
 | [],_=>by rw [fitL]
 | t :: r,h=>by
  rw [cntL] at h
  rw [fitL,fit_cnt t (by omega),fitL_cnt r (by omega)]
  rfl
end
mutual
theorem small_cnt:(t:Tr) → cntT t ≤ 1048576 → Qcn t = true
 | .mk _ _ ls ks,h=>by
  rw [cntT] at h
  rw [Qcn,smallL_cnt ks (by omega),decide_eq_true (by omega),decide_eq_true (by omega)]
  rfl
theorem smallL_cnt:(l:List Tr) → cntL l ≤ 1048576 → Qd0 l = true
 | [],_=>by rw [Qd0]
 | t :: r,h=>by
  rw [cntL] at h
  rw [Qd0,small_cnt t (by omega),smallL_cnt r (by omega)]
  rfl
end
section
variable {H:Type} {enc:TypeId × Value → H} {w:World} {base:Nat} {spare:Nat → Bool} {held:Bool}
instance:Inhabited Tr:=⟨noTr⟩
instance:Inhabited TV:=⟨⟨0,⟨#[]⟩,none,0,0,none,0,0⟩⟩
end
end Go.Proofs.YtnnfdbmanamfdaaGreat
namespace Go.Proofs.YtnnfdbmanamfdaaGreat
open Go.RowKit Go.Shelf
theorem int_info:(Tryz.prog.info? 3).map (fun i=>(i.zero,i.size,i.bytes)) = some (some (.int .i64 0),1,8):=by kernel_rfl
section
variable {P:Program} {w:World} {ops:Array Oper} {rest:List Oper} {o:Oper} {a:Act} {Q:Exit → Act → World → Prop}
theorem Qe5 (hgd:o.guard = none) (s x:Operand) (t:TypeId)
  (ho:o.op = .call { callee:=.builtin .append,args:=#[s,x],argTypes:=#[t,t] }) (e:TypeId) (i:TypeInfo) (ht:P.underlying t = some (.slice e)) (hi:P.info? e = some i)
  {ad:Addr} {n cap:Nat} (hs:a.eval s = .slice (some ad) n cap) (hn:n ≤ cap) {A:Option Addr} {m c:Nat} (hm:m = 0) (hx:a.eval x = .slice A m c) (h:wpList P ops Q rest (a.put o.dst (.slice (some ad) n cap)) w):wpList P ops Q (o :: rest) a w:=by
 subst hm
 refine wpList_plain hgd fun K hK=>?_
 have hr:(Builtin.append_ #[t,t] o.type #[.slice (some ad) n cap,.slice A 0 c]).run P w = .ok (.slice (some ad) n cap) w:=by
  cases A <;> simp [Builtin.append_,run_underlying ht,sizeOf,typeInfo,hi,Builtin.lenOf,Builtin.firstCells,loadCells,loadCellsFrom,hn,storeCells]
 unfold Oper.wp execOp
 simp only [ho,resolve,invoke,builtin,Sem.run_bind,Sem.run_pure,Result.andThen_ok,List.map_toArray,List.map_cons,List.map_nil,hs,hx,hr]
 exact hK _ _ h
end
def IntRow (w:World) (B:Nat) (v:Value) (p:List Int):Prop:=w.ownsRow B 3 1 v p.length (p.map (Value.int .i64))
theorem IntRow.cells {w:World} {B n c:Nat} {A:Option Addr} {p:List Int} (h:IntRow w B (.slice A n c) p) (hp:0 < p.length):∃ g,A = some ⟨g,0,none⟩ ∧ ∀ (j:Nat) (u:Value),(p.map (Value.int .i64))[j]? = some u → w.cell? ⟨g,0 + j,none⟩ = some u:=by
 rcases h.2 with ⟨_,h0⟩ | ⟨g,cap,cur,hv,hb,hh,hnc,hm,hsz,htk⟩
 ·omega
 ·injection hv with e1 e2 e3
  refine ⟨g,e1,fun j u hu=>?_⟩
  rw [Nat.zero_add,Lib.cell_of_heap hh]
  have hj:=(List.getElem?_eq_some_iff.1 hu).1
  rw [List.length_map] at hj
  rw [← htk,List.getElem?_take_of_lt (by omega)] at hu
  rw [← Array.getElem?_toList]
  exact hu
theorem Qfy (p:List Int):∀ u ∈ p.map (Value.int .i64),u.oneCell' = true:=by
 intro u hu
 obtain ⟨x,_,rfl⟩:=List.mem_map.1 hu
 rfl
end Go.Proofs.YtnnfdbmanamfdaaGreat
