/- Part 48: The contracts of the reference's Pieces, Print and Valid. -/
import Derived.Test.YtnnfdbmanamfdaaGreatLw1
import Derived.Test.YtnnfdbmanamfdaaGreatLw40
import Derived.Test.YtnnfdbmanamfdaaGreatLw27
import Derived.Test.YtnnfdbmanamfdaaGreatLw24
import Derived.IntWalk
set_option maxRecDepth 100000
set_option maxHeartbeats 4000000
namespace Go.Proofs.YtnnfdbmanamfdaaGreat
open Go.RowKit
theorem prow_nil (w:World) (B:Nat):PRow w B (.slice none 0 0) []:=World.ownsRow_nil _ _ _ _
theorem rPieces_any (B:Nat) (t:Tr) (v:TV) (w:World) (ht:TrAt (fun k=>k < B) w t v) (hs:Qao t = true) (hz:Qan t ≤ 1000) (hB:B ≤ w.heap.size) (hb:(Qaf t).length ≤ 1000000) :
  Calls Tryz.prog 110 #[.agg #[.int .i64 v.kind,.string v.text,.slice v.la v.ll v.lc,.slice v.ka v.kl v.kc]] w fun e w'=>∃ l,e = .returned l ∧ PRow w' w.heap.size l (Qaf t) ∧ Below w.heap.size w w':=by
 have HB0:=hQ ((xC w.heap.size w).alloc (xA _) (trO v))
 have HT:=hQ (TrAt.move (S':=fun k=>k < w.heap.size) (fun k h=>xE h hB) (fun k hk _=>HB0.o.block k (xE hk hB)) _ _ ht)
 have HS:=hQ hs
 have HZ:=hQ hz
 have HBD:=hQ hb
 have hsz:(w.alloc (trO v)).heap.size = w.heap.size + 1:=by simp
 have HSZ:=hQ (show w.heap.size ≤ (w.alloc (trO v)).heap.size from by rw [hsz];omega)
 clear ht hs hz hB hb hsz
 go_enter Tryz.func110,Tryz.ntmps110
 go_wp2_with (go_at_call 153;refine (rpieces_all _ w.heap.size _ [] t v _ (xA _) HT.o HS.o HZ.o (prow_nil _ _) HSZ.o (by have:=HBD.o;simpa using this)).mono ?_;rintro e w2 ⟨l2,rfl,hr,hg,ho⟩;have HR:=hQ hr;have HG:=hQ hg;clear hr hg ho)
 go_ret
 exact ⟨_,rfl,HR.o,HB0.o.grown HG.o HSZ.o (fun k hk=>by cases hk)⟩
theorem foldW_take {z:List UInt8 × ByteArray} {ps:List Qbg} {i:Nat} {p:Qbg} (h:ps[i]? = some p):Qhf z (ps.take (i + 1)) = tokW (Qhf z (ps.take i)) p.1 p.2:=by
 rw [Qgb h,foldW_append,foldW_one]
theorem foldW_last {z:List UInt8 × ByteArray} {ps:List Qbg} {i:Nat} {p:Qbg} (h:ps[i]? = some p):(Qhf z (ps.take (i + 1))).2 = p.2:=by rw [foldW_take h];rfl
theorem bl_list (s:ByteArray):bl s = s.data.toList:=by unfold bl suf;rw [List.drop_zero]
theorem fuses_nil (x:ByteArray):Qfs ⟨#[]⟩ x = false:=by
 have:Qam (suf ⟨#[]⟩ 0) = 0:=rfl
 unfold Qfs
 simp [this]
theorem sizeP_get {ps:List Qbg} {i:Nat} {p:Qbg} (h:ps[i]? = some p):Qf7 (ps.take i) + (p.1.size + p.2.size + 1) ≤ Qf7 ps:=by
 conv=>rhs;rw [← List.take_append_drop i ps,sizeP_append]
 obtain ⟨hi,he⟩:=List.getElem?_eq_some_iff.1 h
 rw [List.drop_eq_getElem_cons hi,he,Qf7]
 omega
theorem sizeP_two {ps:List Qbg} {i:Nat} {p q:Qbg} (h:ps[i]? = some p) (k:ps[i + 1]? = some q):p.2.size + q.2.size ≤ Qf7 ps:=by
 have h1:=sizeP_get k
 rw [Qgb h,sizeP_append] at h1
 simp only [Qf7] at h1
 omega
theorem fold_le {ps:List Qbg} (i:Nat):(Qhf ([],⟨#[]⟩) (ps.take i)).1.length ≤ Qf7 (ps.take i):=by
 have:=foldW_le (ps.take i) ([],⟨#[]⟩)
 simpa using this
def PrAt (ps:List Qbg) (W:World) (v i:Value) (wr:World):Prop:=∃ (j:Nat) (s:ByteArray),v = .string s ∧ i = .int .i64 j ∧ j ≤ ps.length ∧ bl s = (Qhf ([],⟨#[]⟩) (ps.take j)).1 ∧ Below W.heap.size W wr
theorem fold_plain {ps:List Qbg} {j:Nat} {p:Qbg} {s:ByteArray} (hp:ps[j]? = some p) (hs:bl s = (Qhf ([],⟨#[]⟩) (ps.take j)).1) (h:sepW (Qhf ([],⟨#[]⟩) (ps.take j)).2 p.1 p.2 = p.1):bl (s ++ p.1 ++ p.2) = (Qhf ([],⟨#[]⟩) (ps.take (j + 1))).1:=by
 rw [foldW_take hp,Qgu,Qgu,hs]
 unfold tokW
 rw [h,bl_list,bl_list]
theorem fold_blank {ps:List Qbg} {j:Nat} {p:Qbg} {s:ByteArray} (hp:ps[j]? = some p) (hs:bl s = (Qhf ([],⟨#[]⟩) (ps.take j)).1) (h:sepW (Qhf ([],⟨#[]⟩) (ps.take j)).2 p.1 p.2 = ⟨#[32]⟩) (h0:p.1.size = 0):bl (s ++ ⟨#[32]⟩ ++ p.1 ++ p.2) = (Qhf ([],⟨#[]⟩) (ps.take (j + 1))).1:=by
 rw [foldW_take hp,Qgu,Qgu,Qgu,hs,size_zero h0]
 unfold tokW
 rw [size_zero h0] at h
 rw [h,bl_list,bl_list,bl_list]
 simp
theorem ret_text {a b:ByteArray} (h:a = b):Ending.returned (.string a) = .returned (.string b):=by rw [h]
theorem add_plain (b n:Nat):((⟨b,0,none⟩:Addr).add n) = ⟨b,n,none⟩:=by unfold Addr.add;split <;> simp_all
theorem rprint_any (S:Nat → Prop) (t:Tr) (v:TV) (w:World) (h:TrAt S w t v) (hz:Qan t ≤ 1000) (hs:Qcn t = true) (hw:Qdb t = true) (hb:(Qaf t).length ≤ 1000000) (hsz:Qf7 (Qaf t) ≤ 10000000000000) :
  Calls Tryz.prog 96 #[.agg #[.int .i64 v.kind,.string v.text,.slice v.la v.ll v.lc,.slice v.ka v.kl v.kc]] w fun e w'=>e = .returned (.string (printT t)) ∧ Below w.heap.size w w':=by
 have HB0:=hQ ((xC w.heap.size w).alloc (xA _) (trO v))
 have HX:=hQ (xH w (trO v))
 have HT:=hQ (h.keep HB0.o)
 have HTL:=hQ (TrAt.low t v h)
 have HZ:=hQ hz
 have HS:=hQ hs
 have HW:=hQ hw
 have HBD:=hQ hb
 have HSZ:=hQ hsz
 have HPT:=hQ (show printT t = (if Qao t && ledT t then ⟨(textL t).toArray⟩ else ⟨#[]⟩) from rfl)
 clear h hz hs hw hb hsz
 go_enter Tryz.func96,Tryz.ntmps96
 go_wp2_with fail
 generalize hW0:w.alloc (.cells #[.int .i64 v.kind,.string v.text,.slice v.la v.ll v.lc,.slice v.ka v.kl v.kc] 25) = W0 at ⊢
 have HB0':=hQ (show Below w.heap.size w W0 from hW0 ▸ HB0.o)
 have HX':=hQ (show W0.heap[w.heap.size]? = some (trO v) from hW0 ▸ HX.o)
 have HT':=hQ (show TrAt S W0 t v from hW0 ▸ HT.o)
 clear HB0 HX HT hW0
 have k0:W0.cell? ⟨w.heap.size,0,none⟩ = some (.int .i64 v.kind):=Qab HX'.o 0 _ rfl
 have k1:W0.cell? ⟨w.heap.size,1,none⟩ = some (.string v.text):=Qab HX'.o 1 _ rfl
 have k2:W0.cell? ⟨w.heap.size,2,none⟩ = some (.slice v.la v.ll v.lc):=Qab HX'.o 2 _ rfl
 have k3:W0.cell? ⟨w.heap.size,3,none⟩ = some (.slice v.ka v.kl v.kc):=Qab HX'.o 3 _ rfl
 cases hp:(Qao t && ledT t)
 ·have HR:=hQ (show printT t = ⟨#[]⟩ from by rw [HPT.o,hp];rfl)
  go_wp2_with (go_at_call 93;refine (Qdj S t v _ HT'.o HZ.o HS.o HW.o).mono ?_;rw [hp];rintro e w2 ⟨rfl,hb2⟩;have HB2:=hQ (HB0'.o.trans (hb2.mono HB0'.o.size));clear hb2 k0 k1 k2 k3)
  go_ret
  exact ⟨ret_text HR.o.symm,HB2.o⟩
 ·have HR:=hQ (show printT t = ⟨(textL t).toArray⟩ from by rw [HPT.o,hp];rfl)
  have HSH:=hQ (show Qao t = true from by rw [Bool.and_eq_true] at hp;exact hp.1)
  go_wp2_with (first
   | (go_at_call 93;refine (Qdj S t v _ HT'.o HZ.o HS.o HW.o).mono ?_;rw [hp];rintro e w2 ⟨rfl,hb2⟩;have HB2:=hQ (HB0'.o.trans (hb2.mono HB0'.o.size));have HX2:=hQ ((hb2.block w.heap.size (Qaa HX'.o)).trans HX'.o);clear hb2 k0 k1 k2 k3;have k0:w2.cell? ⟨w.heap.size,0,none⟩ = some (.int .i64 v.kind):=Qab HX2.o 0 _ rfl;have k1:w2.cell? ⟨w.heap.size,1,none⟩ = some (.string v.text):=Qab HX2.o 1 _ rfl;have k2:w2.cell? ⟨w.heap.size,2,none⟩ = some (.slice v.la v.ll v.lc):=Qab HX2.o 2 _ rfl;have k3:w2.cell? ⟨w.heap.size,3,none⟩ = some (.slice v.ka v.kl v.kc):=Qab HX2.o 3 _ rfl)
   | (go_at_call 110;refine (rPieces_any w.heap.size t v _ (TrAt.move (fun _ h=>h) (fun k hk _=>HB2.o.block k hk) _ _ HTL.o) HSH.o HZ.o HB2.o.size HBD.o).mono ?_;rintro e w3 ⟨l3,rfl,hr3,hb3⟩;have HR3:=hQ hr3;have HB3:=hQ (HB2.o.trans (hb3.mono HB2.o.size));clear hr3 hb3 k0 k1 k2 k3))
  clear hp
  obtain ⟨PS,hPS⟩:∃ PS,PS = Qaf t:=⟨_,rfl⟩
  have HPS:=hQ hPS
  have HBP:=hQ (show PS.length ≤ 1000000 from by rw [hPS];exact HBD.o)
  have HSP:=hQ (show Qf7 PS ≤ 10000000000000 from by rw [hPS];exact HSZ.o)
  have HR4:=hQ (show PRow w3 w2.heap.size l3 PS from by rw [hPS];exact HR3.o)
  obtain ⟨LA,LC,hl3⟩:=Qgz (show w3.ownsRow w2.heap.size 147 2 l3 PS.length (Qal PS) from HR4.o)
  subst hl3
  have hpn:(PS.length:Int) ≤ 1000000:=by have:=HBP.o;omega
  clear hPS HR3
  go_loopw [4,5] (fun s i wr=>PrAt PS w3 s i wr) (fun _ i _=>PS.length - (intOf i).toNat)
  case atStart=>exact ⟨0,⟨#[]⟩,rfl,rfl,Nat.zero_le _,rfl,xC _ _⟩
  case round =>
   obtain ⟨j,s,rfl,rfl,hj,hs,hbr⟩:=hrel
   have HSB:=hQ hs
   have HBR:=hQ hbr
   have HR5:=hQ (HR4.o.keep hbr)
   clear hs hbr
   by_cases hlt:j < PS.length
   ·obtain ⟨⟨pl,px⟩,hp⟩:∃ p,PS[j]? = some p:=⟨_,xF hlt⟩
    obtain ⟨g,cg,hlv,_⟩:=World.ownsRow.form HR5.o (by omega)
    injection hlv with e1 e2 e3
    subst e1
    clear e2 e3
    have hcs:=World.ownsRow.cells (g:=g) HR5.o rfl
    have p0:wr.cell? ⟨g,j * 2,none⟩ = some (.string pl):=by have:=hcs (j * 2) _ (pcCells_get PS j _ hp).1;rw [add_plain] at this;exact this
    have p1:wr.cell? ⟨g,j * 2 + 1,none⟩ = some (.string px):=by have:=hcs (j * 2 + 1) _ (pcCells_get PS j _ hp).2;rw [add_plain] at this;exact this
    have HP:=hQ hp
    have hsg:=sizeP_get hp
    have hfl:=fold_le (ps:=PS) j
    have hsl:s.size ≤ Qf7 (PS.take j):=by have h1:=Qfi s;rw [HSB.o] at h1;omega
    have hmx:=HSP.o
    simp only at hsg
    have hq0:=fun w:World=>run_string_add_sum (P:=Tryz.prog) w s ⟨#[32]⟩ (by have:(⟨#[32]⟩:ByteArray).size = 1:=rfl;omega)
    have hq1:=fun w:World=>run_string_add_sum (P:=Tryz.prog) w s pl (by omega)
    have hq2:=fun w:World=>run_string_add_sum (P:=Tryz.prog) w (s ++ pl) px (by rw [ByteArray.size_append];omega)
    have hj0:(0:Int) ≤ (j:Int):=by omega
    have hj1:(j:Int) < (PS.length:Int):=by omega
    have hj2:(j:Int) + 1 ≤ 1000000:=by omega
    have HLE:=hQ (show s.size + pl.size + px.size + 1 ≤ 10000000000000 from by omega)
    clear hcs hsg hfl hsl hmx
    by_cases h0:j = 0
    ·have HE:=hQ (fold_plain hp HSB.o (by subst h0;show sepW ⟨#[]⟩ pl px = pl;unfold sepW;rw [if_neg (fun h=>by rw [fuses_nil] at h;exact absurd h.2 (by decide))]))
     have d0:decide (0 < j) = false:=decide_eq_false (by omega)
     have d1:decide ((0:Int) < (j:Int)) = false:=decide_eq_false (by omega)
     clear hp h0 hq0
     go_wp2_with fail
     go_quiet (fail)
     go_wp2_with fail
     go_quiet (fail)
     go_wp2
     go_roundw
     case measure=>simp [intOf];omega
     case rel=>exact ⟨j + 1,s ++ pl ++ px,rfl,by go_num,by omega,HE.o,below_drewN HBR.o _⟩
    ·obtain ⟨m,hm⟩:∃ m,j = m + 1:=⟨j - 1,by omega⟩
     have d0:decide (0 < j) = true:=decide_eq_true (by omega)
     have d1:decide ((0:Int) < (j:Int)) = true:=decide_eq_true (by omega)
     by_cases hl0:pl.size = 0
     ·have:=size_zero hl0
      subst this
      obtain ⟨⟨ql,qx⟩,hq⟩:∃ p,PS[m]? = some p:=⟨_,xF (by omega)⟩
      have q1:wr.cell? ⟨g,m * 2 + 1,none⟩ = some (.string qx):=by have:=World.ownsRow.cells (g:=g) HR5.o rfl (m * 2 + 1) _ (pcCells_get PS m _ hq).2;rw [add_plain] at this;exact this
      have HLS:=hQ (show (Qhf ([],⟨#[]⟩) (PS.take j)).2 = qx from by rw [hm];exact foldW_last hq)
      have HFS:=hQ (show qx.size + px.size < maxLen from by have h1:=sizeP_two hq (show PS[m + 1]? = some (⟨#[]⟩,px) from hm ▸ hp);have h2:=HSP.o;unfold maxLen;simp only at h1;omega)
      have hw1:IntKind.i64.wrap ((j:Int) - 1) = (m:Int):=by rw [show (j:Int) - 1 = (m:Int) from by omega];exact IntWalk.i64_in _ (by omega)
      have hw3:(m:Int) < (PS.length:Int):=by omega
      have hw4:(0:Int) ≤ (m:Int):=by omega
      clear hq hm h0
      cases hf:Qfs qx px
      ·have HE:=hQ (fold_plain hp HSB.o (by rw [HLS.o];unfold sepW;rw [if_neg (fun h=>by rw [hf] at h;exact absurd h.2 (by decide))]))
       clear hp hl0 hq0
       go_wp2_with fail
       go_region_held3 (fun w'=>w'.cell? ⟨g,j * 2,none⟩ = some (.string ⟨#[]⟩) ∧ w'.cell? ⟨g,j * 2 + 1,none⟩ = some (.string px) ∧ w'.cell? ⟨g,m * 2 + 1,none⟩ = some (.string qx)) (first | with_reducible exact ⟨p0,p1,q1⟩ | go_keep) (first | (go_at_call 135;((with_reducible refine (rfuses_any qx px _ HFS.o).mono ?_);rw [hf];rintro e w5 ⟨rfl,hb5⟩;have hb6:Below wr.heap.size wr w5:=((xC wr.heap.size wr).drew).trans hb5;have HB5:=hQ (HBR.o.trans (hb6.mono HBR.o.size));have gl:=xK wr _ p1;have e0:=(xJ (w:=wr) (a:=⟨g,j * 2,none⟩) (hb6.block g gl)).trans p0;have e1:=(xJ (w:=wr) (a:=⟨g,j * 2 + 1,none⟩) (hb6.block g gl)).trans p1;have e2:=(xJ (w:=wr) (a:=⟨g,m * 2 + 1,none⟩) (hb6.block g gl)).trans q1;clear hb5 hb6 gl p0 p1 q1;have p0:=e0;have p1:=e1;have q1:=e2;clear e0 e1 e2)) | fail)
       all_goals
        clear q1 hw1 hw3 hw4 d0 d1
        go_wp2_with fail
        go_quiet (fail)
        go_wp2
        go_roundw
        case measure=>simp [intOf];omega
        case rel=>exact ⟨j + 1,s ++ ⟨#[]⟩ ++ px,rfl,by go_num,by omega,HE.o,below_drewN HB5.o _⟩
      ·have HE:=hQ (fold_blank hp HSB.o (by rw [HLS.o];unfold sepW;rw [if_pos ⟨rfl,hf⟩]) rfl)
       have hq1:=fun w:World=>run_string_add_sum (P:=Tryz.prog) w (s ++ ⟨#[32]⟩) ⟨#[]⟩ (by rw [ByteArray.size_append];have h1:(⟨#[32]⟩:ByteArray).size = 1:=rfl;have h2:(⟨#[]⟩:ByteArray).size = 0:=rfl;have:=HLE.o;omega)
       have hq2:=fun w:World=>run_string_add_sum (P:=Tryz.prog) w (s ++ ⟨#[32]⟩ ++ ⟨#[]⟩) px (by rw [ByteArray.size_append,ByteArray.size_append];have h1:(⟨#[32]⟩:ByteArray).size = 1:=rfl;have h2:(⟨#[]⟩:ByteArray).size = 0:=rfl;have:=HLE.o;omega)
       clear hp hl0
       go_wp2_with fail
       go_region_held3 (fun w'=>w'.cell? ⟨g,j * 2,none⟩ = some (.string ⟨#[]⟩) ∧ w'.cell? ⟨g,j * 2 + 1,none⟩ = some (.string px) ∧ w'.cell? ⟨g,m * 2 + 1,none⟩ = some (.string qx)) (first | with_reducible exact ⟨p0,p1,q1⟩ | go_keep) (first | (go_at_call 135;((with_reducible refine (rfuses_any qx px _ HFS.o).mono ?_);rw [hf];rintro e w5 ⟨rfl,hb5⟩;have hb6:Below wr.heap.size wr w5:=((xC wr.heap.size wr).drew).trans hb5;have HB5:=hQ (HBR.o.trans (hb6.mono HBR.o.size));have gl:=xK wr _ p1;have e0:=(xJ (w:=wr) (a:=⟨g,j * 2,none⟩) (hb6.block g gl)).trans p0;have e1:=(xJ (w:=wr) (a:=⟨g,j * 2 + 1,none⟩) (hb6.block g gl)).trans p1;have e2:=(xJ (w:=wr) (a:=⟨g,m * 2 + 1,none⟩) (hb6.block g gl)).trans q1;clear hb5 hb6 gl p0 p1 q1;have p0:=e0;have p1:=e1;have q1:=e2;clear e0 e1 e2)) | fail)
       all_goals
        clear q1 hw1 hw3 hw4 d0 d1
        go_wp2_with fail
        go_quiet (fail)
        go_wp2
        go_roundw
        case measure=>simp [intOf];omega
        case rel=>exact ⟨j + 1,s ++ ⟨#[32]⟩ ++ ⟨#[]⟩ ++ px,rfl,by go_num,by omega,HE.o,below_drewN HB5.o _⟩
     ·have HE:=hQ (fold_plain hp HSB.o (by unfold sepW;rw [if_neg (fun h=>hl0 h.1)]))
      have hne:pl.toList.isEmpty = false:=by have h1:=suf_ne (s:=pl) (by omega);rw [Qdx] at h1;simpa using h1
      clear hp hm h0 hq0 hl0
      go_wp2_with fail
      go_quiet (fail)
      go_wp2_with fail
      go_quiet (fail)
      go_wp2
      go_roundw
      case measure=>simp [intOf];omega
      case rel=>exact ⟨j + 1,s ++ pl ++ px,rfl,by go_num,by omega,HE.o,below_drewN HBR.o _⟩
   ·have hje:j = PS.length:=by omega
    have HF:=hQ (show (⟨(textL t).toArray⟩:ByteArray) = s from bl_inj (by rw [HSB.o,hje,List.take_length,bl_list];unfold textL;rw [HPS.o]))
    go_wp2
    go_ret
    exact ⟨ret_text (HF.o.symm.trans HR.o.symm),HB3.o.trans (HBR.o.mono HB3.o.size)⟩
theorem valid_form (t:Tr):Qf9 t = ((Qao t && ledT t) && Qfv t && decide (Qen t ≤ 40) && decide ((textL t).length ≤ 4096)):=by
 unfold Qf9
 rw [within_depth]
theorem rvalid_any (S:Nat → Prop) (t:Tr) (v:TV) (w:World) (h:TrAt S w t v) (hz:Qan t ≤ 1000) (hs:Qcn t = true) (hw:Qdb t = true) (hb:(Qaf t).length ≤ 1000000) (hsz:Qf7 (Qaf t) ≤ 10000000000000) :
  Calls Tryz.prog 63 #[.agg #[.int .i64 v.kind,.string v.text,.slice v.la v.ll v.lc,.slice v.ka v.kl v.kc]] w fun e w'=>e = .returned (.bool (Qf9 t)) ∧ Below w.heap.size w w':=by
 have HB0:=hQ ((xC w.heap.size w).alloc (xA _) (trO v))
 have HX:=hQ (xH w (trO v))
 have HT:=hQ (h.keep HB0.o)
 have HZ:=hQ hz
 have HZ2:=hQ (show Qan t ≤ 140737488355328 from by omega)
 have HS:=hQ hs
 have HW:=hQ hw
 have HBD:=hQ hb
 have HSZ:=hQ hsz
 have HV:=hQ (valid_form t)
 clear h hz hs hw hb hsz
 go_enter Tryz.func63,Tryz.ntmps63
 go_wp2_with fail
 generalize hW0:w.alloc (.cells #[.int .i64 v.kind,.string v.text,.slice v.la v.ll v.lc,.slice v.ka v.kl v.kc] 25) = w1 at ⊢
 have HB1:=hQ (show Below w.heap.size w w1 from hW0 ▸ HB0.o)
 have HX1:=hQ (show w1.heap[w.heap.size]? = some (trO v) from hW0 ▸ HX.o)
 have HT1:=hQ (show TrAt S w1 t v from hW0 ▸ HT.o)
 clear HB0 HX HT hW0
 have k0:w1.cell? ⟨w.heap.size,0,none⟩ = some (.int .i64 v.kind):=Qab HX1.o 0 _ rfl
 have k1:w1.cell? ⟨w.heap.size,1,none⟩ = some (.string v.text):=Qab HX1.o 1 _ rfl
 have k2:w1.cell? ⟨w.heap.size,2,none⟩ = some (.slice v.la v.ll v.lc):=Qab HX1.o 2 _ rfl
 have k3:w1.cell? ⟨w.heap.size,3,none⟩ = some (.slice v.ka v.kl v.kc):=Qab HX1.o 3 _ rfl
 cases hp:(Qao t && ledT t)
 ·have HR:=hQ (show Qf9 t = false from by rw [HV.o,hp];rfl)
  go_wp2_with (first
   | (go_at_call 93;refine (Qdj S t v _ HT1.o HZ.o HS.o HW.o).mono ?_;rw [hp];rintro e w2 ⟨rfl,hb⟩;have HB2:=hQ (HB1.o.trans (hb.mono HB1.o.size));have HX2:=hQ ((hb.block w.heap.size (Qaa HX1.o)).trans HX1.o);have HT2:=hQ (HT1.o.keep hb);clear hb k0 k1 k2 k3;have k0:w2.cell? ⟨w.heap.size,0,none⟩ = some (.int .i64 v.kind):=Qab HX2.o 0 _ rfl;have k1:w2.cell? ⟨w.heap.size,1,none⟩ = some (.string v.text):=Qab HX2.o 1 _ rfl;have k2:w2.cell? ⟨w.heap.size,2,none⟩ = some (.slice v.la v.ll v.lc):=Qab HX2.o 2 _ rfl;have k3:w2.cell? ⟨w.heap.size,3,none⟩ = some (.slice v.ka v.kl v.kc):=Qab HX2.o 3 _ rfl)
   | fail)
  go_ret
  exact ⟨Qah (by first | exact HR.o.symm | (rw [HR.o];simp_all;done)),HB2.o⟩
 ·cases hl:Qfv t
  ·have HR:=hQ (show Qf9 t = false from by rw [HV.o,hp,hl];rfl)
   go_wp2_with (first
    | (go_at_call 93;refine (Qdj S t v _ HT1.o HZ.o HS.o HW.o).mono ?_;rw [hp];rintro e w2 ⟨rfl,hb⟩;have HB2:=hQ (HB1.o.trans (hb.mono HB1.o.size));have HX2:=hQ ((hb.block w.heap.size (Qaa HX1.o)).trans HX1.o);have HT2:=hQ (HT1.o.keep hb);clear hb k0 k1 k2 k3;have k0:w2.cell? ⟨w.heap.size,0,none⟩ = some (.int .i64 v.kind):=Qab HX2.o 0 _ rfl;have k1:w2.cell? ⟨w.heap.size,1,none⟩ = some (.string v.text):=Qab HX2.o 1 _ rfl;have k2:w2.cell? ⟨w.heap.size,2,none⟩ = some (.slice v.la v.ll v.lc):=Qab HX2.o 2 _ rfl;have k3:w2.cell? ⟨w.heap.size,3,none⟩ = some (.slice v.ka v.kl v.kc):=Qab HX2.o 3 _ rfl)
    | (go_at_call 94;refine (Qhj _ S t v _ (xA _) HT2.o HZ.o).mono ?_;rw [hl];rintro e w3 ⟨rfl,hb⟩;have HB3:=hQ (HB2.o.trans (hb.mono HB2.o.size));have HX3:=hQ ((hb.block w.heap.size (Qaa HX2.o)).trans HX2.o);have HT3:=hQ (HT2.o.keep hb);clear hb k0 k1 k2 k3;have k0:w3.cell? ⟨w.heap.size,0,none⟩ = some (.int .i64 v.kind):=Qab HX3.o 0 _ rfl;have k1:w3.cell? ⟨w.heap.size,1,none⟩ = some (.string v.text):=Qab HX3.o 1 _ rfl;have k2:w3.cell? ⟨w.heap.size,2,none⟩ = some (.slice v.la v.ll v.lc):=Qab HX3.o 2 _ rfl;have k3:w3.cell? ⟨w.heap.size,3,none⟩ = some (.slice v.ka v.kl v.kc):=Qab HX3.o 3 _ rfl)
    | fail)
   go_ret
   exact ⟨Qah (by first | exact HR.o.symm | (rw [HR.o];simp_all;done)),HB3.o⟩
  ·by_cases hd:Qen t ≤ 40
   ·have HR:=hQ (show Qf9 t = decide ((textL t).length ≤ 4096) from by rw [HV.o,hp,hl,decide_eq_true hd];rfl)
    have HPT:=hQ (show (printT t).size = (textL t).length from by unfold printT;rw [hp];rfl)
    have d1:decide ((Qen t:Int) ≤ 40) = true:=decide_eq_true (by omega)
    have d2:decide (Qen t ≤ 40) = true:=decide_eq_true hd
    clear hd
    by_cases hx:(textL t).length ≤ 4096
    ·have x1:decide (((printT t).size:Int) ≤ 4096) = true:=decide_eq_true (by rw [HPT.o];omega)
     have x2:decide ((printT t).size ≤ 4096) = true:=decide_eq_true (by rw [HPT.o];omega)
     have HR2:=hQ (show Qf9 t = true from by rw [HR.o];exact decide_eq_true hx)
     clear hx HR
     go_wp2_with (first
      | (go_at_call 93;refine (Qdj S t v _ HT1.o HZ.o HS.o HW.o).mono ?_;rw [hp];rintro e w2 ⟨rfl,hb⟩;have HB2:=hQ (HB1.o.trans (hb.mono HB1.o.size));have HX2:=hQ ((hb.block w.heap.size (Qaa HX1.o)).trans HX1.o);have HT2:=hQ (HT1.o.keep hb);clear hb k0 k1 k2 k3;have k0:w2.cell? ⟨w.heap.size,0,none⟩ = some (.int .i64 v.kind):=Qab HX2.o 0 _ rfl;have k1:w2.cell? ⟨w.heap.size,1,none⟩ = some (.string v.text):=Qab HX2.o 1 _ rfl;have k2:w2.cell? ⟨w.heap.size,2,none⟩ = some (.slice v.la v.ll v.lc):=Qab HX2.o 2 _ rfl;have k3:w2.cell? ⟨w.heap.size,3,none⟩ = some (.slice v.ka v.kl v.kc):=Qab HX2.o 3 _ rfl)
      | (go_at_call 94;refine (Qhj _ S t v _ (xA _) HT2.o HZ.o).mono ?_;rw [hl];rintro e w3 ⟨rfl,hb⟩;have HB3:=hQ (HB2.o.trans (hb.mono HB2.o.size));have HX3:=hQ ((hb.block w.heap.size (Qaa HX2.o)).trans HX2.o);have HT3:=hQ (HT2.o.keep hb);clear hb k0 k1 k2 k3;have k0:w3.cell? ⟨w.heap.size,0,none⟩ = some (.int .i64 v.kind):=Qab HX3.o 0 _ rfl;have k1:w3.cell? ⟨w.heap.size,1,none⟩ = some (.string v.text):=Qab HX3.o 1 _ rfl;have k2:w3.cell? ⟨w.heap.size,2,none⟩ = some (.slice v.la v.ll v.lc):=Qab HX3.o 2 _ rfl;have k3:w3.cell? ⟨w.heap.size,3,none⟩ = some (.slice v.ka v.kl v.kc):=Qab HX3.o 3 _ rfl)
      | (go_at_call 95;refine (rdepth2_any _ S t v _ (xA _) HT3.o HZ2.o).mono ?_;rintro e w4 ⟨rfl,hb⟩;have HB4:=hQ (HB3.o.trans (hb.mono HB3.o.size));have HX4:=hQ ((hb.block w.heap.size (Qaa HX3.o)).trans HX3.o);have HT4:=hQ (HT3.o.keep hb);clear hb k0 k1 k2 k3;have k0:w4.cell? ⟨w.heap.size,0,none⟩ = some (.int .i64 v.kind):=Qab HX4.o 0 _ rfl;have k1:w4.cell? ⟨w.heap.size,1,none⟩ = some (.string v.text):=Qab HX4.o 1 _ rfl;have k2:w4.cell? ⟨w.heap.size,2,none⟩ = some (.slice v.la v.ll v.lc):=Qab HX4.o 2 _ rfl;have k3:w4.cell? ⟨w.heap.size,3,none⟩ = some (.slice v.ka v.kl v.kc):=Qab HX4.o 3 _ rfl)
      | (go_at_call 96;refine (rprint_any S t v _ HT4.o HZ.o HS.o HW.o HBD.o HSZ.o).mono ?_;rintro e w5 ⟨rfl,hb⟩;have HB5:=hQ (HB4.o.trans (hb.mono HB4.o.size));have HX5:=hQ ((hb.block w.heap.size (Qaa HX4.o)).trans HX4.o);have HT5:=hQ (HT4.o.keep hb);clear hb k0 k1 k2 k3;have k0:w5.cell? ⟨w.heap.size,0,none⟩ = some (.int .i64 v.kind):=Qab HX5.o 0 _ rfl;have k1:w5.cell? ⟨w.heap.size,1,none⟩ = some (.string v.text):=Qab HX5.o 1 _ rfl;have k2:w5.cell? ⟨w.heap.size,2,none⟩ = some (.slice v.la v.ll v.lc):=Qab HX5.o 2 _ rfl;have k3:w5.cell? ⟨w.heap.size,3,none⟩ = some (.slice v.ka v.kl v.kc):=Qab HX5.o 3 _ rfl)
      | fail)
     go_ret
     exact ⟨Qah (by first | exact HR2.o.symm | (rw [HR2.o];simp_all;done)),HB5.o⟩
    ·have x1:decide (((printT t).size:Int) ≤ 4096) = false:=decide_eq_false (by rw [HPT.o];omega)
     have x2:decide ((printT t).size ≤ 4096) = false:=decide_eq_false (by rw [HPT.o];omega)
     have HR2:=hQ (show Qf9 t = false from by rw [HR.o];exact decide_eq_false hx)
     clear hx HR
     go_wp2_with (first
      | (go_at_call 93;refine (Qdj S t v _ HT1.o HZ.o HS.o HW.o).mono ?_;rw [hp];rintro e w2 ⟨rfl,hb⟩;have HB2:=hQ (HB1.o.trans (hb.mono HB1.o.size));have HX2:=hQ ((hb.block w.heap.size (Qaa HX1.o)).trans HX1.o);have HT2:=hQ (HT1.o.keep hb);clear hb k0 k1 k2 k3;have k0:w2.cell? ⟨w.heap.size,0,none⟩ = some (.int .i64 v.kind):=Qab HX2.o 0 _ rfl;have k1:w2.cell? ⟨w.heap.size,1,none⟩ = some (.string v.text):=Qab HX2.o 1 _ rfl;have k2:w2.cell? ⟨w.heap.size,2,none⟩ = some (.slice v.la v.ll v.lc):=Qab HX2.o 2 _ rfl;have k3:w2.cell? ⟨w.heap.size,3,none⟩ = some (.slice v.ka v.kl v.kc):=Qab HX2.o 3 _ rfl)
      | (go_at_call 94;refine (Qhj _ S t v _ (xA _) HT2.o HZ.o).mono ?_;rw [hl];rintro e w3 ⟨rfl,hb⟩;have HB3:=hQ (HB2.o.trans (hb.mono HB2.o.size));have HX3:=hQ ((hb.block w.heap.size (Qaa HX2.o)).trans HX2.o);have HT3:=hQ (HT2.o.keep hb);clear hb k0 k1 k2 k3;have k0:w3.cell? ⟨w.heap.size,0,none⟩ = some (.int .i64 v.kind):=Qab HX3.o 0 _ rfl;have k1:w3.cell? ⟨w.heap.size,1,none⟩ = some (.string v.text):=Qab HX3.o 1 _ rfl;have k2:w3.cell? ⟨w.heap.size,2,none⟩ = some (.slice v.la v.ll v.lc):=Qab HX3.o 2 _ rfl;have k3:w3.cell? ⟨w.heap.size,3,none⟩ = some (.slice v.ka v.kl v.kc):=Qab HX3.o 3 _ rfl)
      | (go_at_call 95;refine (rdepth2_any _ S t v _ (xA _) HT3.o HZ2.o).mono ?_;rintro e w4 ⟨rfl,hb⟩;have HB4:=hQ (HB3.o.trans (hb.mono HB3.o.size));have HX4:=hQ ((hb.block w.heap.size (Qaa HX3.o)).trans HX3.o);have HT4:=hQ (HT3.o.keep hb);clear hb k0 k1 k2 k3;have k0:w4.cell? ⟨w.heap.size,0,none⟩ = some (.int .i64 v.kind):=Qab HX4.o 0 _ rfl;have k1:w4.cell? ⟨w.heap.size,1,none⟩ = some (.string v.text):=Qab HX4.o 1 _ rfl;have k2:w4.cell? ⟨w.heap.size,2,none⟩ = some (.slice v.la v.ll v.lc):=Qab HX4.o 2 _ rfl;have k3:w4.cell? ⟨w.heap.size,3,none⟩ = some (.slice v.ka v.kl v.kc):=Qab HX4.o 3 _ rfl)
      | (go_at_call 96;refine (rprint_any S t v _ HT4.o HZ.o HS.o HW.o HBD.o HSZ.o).mono ?_;rintro e w5 ⟨rfl,hb⟩;have HB5:=hQ (HB4.o.trans (hb.mono HB4.o.size));have HX5:=hQ ((hb.block w.heap.size (Qaa HX4.o)).trans HX4.o);have HT5:=hQ (HT4.o.keep hb);clear hb k0 k1 k2 k3;have k0:w5.cell? ⟨w.heap.size,0,none⟩ = some (.int .i64 v.kind):=Qab HX5.o 0 _ rfl;have k1:w5.cell? ⟨w.heap.size,1,none⟩ = some (.string v.text):=Qab HX5.o 1 _ rfl;have k2:w5.cell? ⟨w.heap.size,2,none⟩ = some (.slice v.la v.ll v.lc):=Qab HX5.o 2 _ rfl;have k3:w5.cell? ⟨w.heap.size,3,none⟩ = some (.slice v.ka v.kl v.kc):=Qab HX5.o 3 _ rfl)
      | fail)
     go_ret
     exact ⟨Qah (by first | exact HR2.o.symm | (rw [HR2.o];simp_all;done)),HB5.o⟩
   ·have HR:=hQ (show Qf9 t = false from by rw [HV.o,hp,hl,decide_eq_false hd];rfl)
    have d1:decide ((Qen t:Int) ≤ 40) = false:=decide_eq_false (by omega)
    have d2:decide (Qen t ≤ 40) = false:=decide_eq_false hd
    clear hd
    go_wp2_with (first
     | (go_at_call 93;refine (Qdj S t v _ HT1.o HZ.o HS.o HW.o).mono ?_;rw [hp];rintro e w2 ⟨rfl,hb⟩;have HB2:=hQ (HB1.o.trans (hb.mono HB1.o.size));have HX2:=hQ ((hb.block w.heap.size (Qaa HX1.o)).trans HX1.o);have HT2:=hQ (HT1.o.keep hb);clear hb k0 k1 k2 k3;have k0:w2.cell? ⟨w.heap.size,0,none⟩ = some (.int .i64 v.kind):=Qab HX2.o 0 _ rfl;have k1:w2.cell? ⟨w.heap.size,1,none⟩ = some (.string v.text):=Qab HX2.o 1 _ rfl;have k2:w2.cell? ⟨w.heap.size,2,none⟩ = some (.slice v.la v.ll v.lc):=Qab HX2.o 2 _ rfl;have k3:w2.cell? ⟨w.heap.size,3,none⟩ = some (.slice v.ka v.kl v.kc):=Qab HX2.o 3 _ rfl)
     | (go_at_call 94;refine (Qhj _ S t v _ (xA _) HT2.o HZ.o).mono ?_;rw [hl];rintro e w3 ⟨rfl,hb⟩;have HB3:=hQ (HB2.o.trans (hb.mono HB2.o.size));have HX3:=hQ ((hb.block w.heap.size (Qaa HX2.o)).trans HX2.o);have HT3:=hQ (HT2.o.keep hb);clear hb k0 k1 k2 k3;have k0:w3.cell? ⟨w.heap.size,0,none⟩ = some (.int .i64 v.kind):=Qab HX3.o 0 _ rfl;have k1:w3.cell? ⟨w.heap.size,1,none⟩ = some (.string v.text):=Qab HX3.o 1 _ rfl;have k2:w3.cell? ⟨w.heap.size,2,none⟩ = some (.slice v.la v.ll v.lc):=Qab HX3.o 2 _ rfl;have k3:w3.cell? ⟨w.heap.size,3,none⟩ = some (.slice v.ka v.kl v.kc):=Qab HX3.o 3 _ rfl)
     | (go_at_call 95;refine (rdepth2_any _ S t v _ (xA _) HT3.o HZ2.o).mono ?_;rintro e w4 ⟨rfl,hb⟩;have HB4:=hQ (HB3.o.trans (hb.mono HB3.o.size));have HX4:=hQ ((hb.block w.heap.size (Qaa HX3.o)).trans HX3.o);have HT4:=hQ (HT3.o.keep hb);clear hb k0 k1 k2 k3;have k0:w4.cell? ⟨w.heap.size,0,none⟩ = some (.int .i64 v.kind):=Qab HX4.o 0 _ rfl;have k1:w4.cell? ⟨w.heap.size,1,none⟩ = some (.string v.text):=Qab HX4.o 1 _ rfl;have k2:w4.cell? ⟨w.heap.size,2,none⟩ = some (.slice v.la v.ll v.lc):=Qab HX4.o 2 _ rfl;have k3:w4.cell? ⟨w.heap.size,3,none⟩ = some (.slice v.ka v.kl v.kc):=Qab HX4.o 3 _ rfl)
     | fail)
    go_ret
    exact ⟨Qah (by first | exact HR.o.symm | (rw [HR.o];simp_all;done)),HB4.o⟩
end Go.Proofs.YtnnfdbmanamfdaaGreat
