/- Part 54: Plain: what a word means in a program; the contract of lookup of package link. The contract of Program of the made programs: at most three valid modules, whichever the numbers are. The list of trees that Program makes, as the kids of a tree. The walk of the law LinkWords, given the contract of awake. The walk of the law SyntaxTokens. -/
import Derived.Test.YtnnfdbmanamfdaaGreatSt1
import Derived.Test.YtnnfdbmanamfdaaGreatSt28
import Derived.Test.YtnnfdbmanamfdaaGreatSt2
import Derived.Test.YtnnfdbmanamfdaaGreatSt53
import Derived.Test.YtnnfdbmanamfdaaGreatSt23
import Derived.Test.YtnnfdbmanamfdaaGreatSt41
import Derived.Test.YtnnfdbmanamfdaaGreatSt40
import Derived.Test.YtnnfdbmanamfdaaGreatSt49
import Derived.Test.YtnnfdbmanamfdaaGreatSt29
import Derived.IntWalk
import Derived.WalkSmall
import Derived.Deep.QuietTactic
import Derived.BigQuiet
import Derived.RangeFuncNested
import Derived.RangeFuncBound
import Derived.RangeFuncCalls
import Derived.RangeFuncLeaves
import Derived.RangeFuncBox
import Derived.Shelf.Abstract
import Derived.OwnWalkIn
import Derived.TacticsInMore
import Derived.LoopNIn
import Derived.LoopIn
import Derived.Deep.AppendLies
import Derived.Deep.LoopGhost
set_option maxRecDepth 100000
set_option linter.unusedVariables false
set_option linter.unusedSimpArgs false
set_option maxHeartbeats 4000000
namespace Go.Proofs.YtnnfdbmanamfdaaGreat
open Go.RowKit
def Qbx (ps:List Tr):Tr:=.mk 0 ⟨#[]⟩ [] ps
end Go.Proofs.YtnnfdbmanamfdaaGreat
namespace Go.Proofs.YtnnfdbmanamfdaaGreat
open Go.RowKit Go.Shelf
theorem mk_row_ne {w:World} {B n k:Nat} {r:Value} {xs:List Value} {cs:Array Value} (h:w.ownsRow B 25 4 r n xs) (hk:w.heap[k]? = some (.cells cs 9 (0,0))):r.ownBlock ≠ some k:=fun e=>by
 rcases h.2 with ⟨rfl,_⟩ | ⟨g',cap,cur',rfl,_,hh,_⟩
 ·cases e
 ·injection e with e
  subst e
  rw [hk] at hh
  injection hh with hh
  injection hh with _ h2
  exact absurd h2 (by decide)
def PrL (B NBK:Nat) (w:World) (r k:Value) (wr:World):Prop:=∃ (j:Nat) (ps:List Tr) (us:List TV) (A:Option Addr) (c:Nat),k = .int .i64 j ∧ r = .slice A ps.length c ∧ j + ps.length ≤ 3 ∧ PrW B w wr ps us A c ∧ wr.heap[NBK]? = some (.cells #[.string ⟨#[65]⟩,.string ⟨#[66]⟩,.string ⟨#[67]⟩] 9 (0,0))
theorem program_any (A:Option Addr) (c:Nat) (xs:List Int) (w:World) (hx:IntsAt w A xs) (hl:xs.length ≤ 120):Calls Tryz.prog 32 #[.slice A xs.length c] w (ProgP w):=by
 obtain ⟨it,hit,ht0,ht1,ht2⟩:=info_parts Qcv
 go_enter Tryz.func32,Tryz.ntmps32
 go_wp2_with fail
 go_at_call 60
 refine (roll_any A c xs w hx hl).mono ?_
 rintro e w1 ⟨B,rfl,hB,hd1,hb1⟩
 have HWB:=hQ hB
 have HD1:=hQ hd1
 have HB1:=hQ hb1
 have HWN:=hQ ((xC w1.heap.size w1).alloc (xA _) (.cells #[.string ⟨#[65]⟩,.string ⟨#[66]⟩,.string ⟨#[67]⟩] 9))
 have HNB:=hQ (xH w1 (.cells #[.string ⟨#[65]⟩,.string ⟨#[66]⟩,.string ⟨#[67]⟩] 9))
 have HDN:=hQ (HD1.out.keep HWN.out)
 clear hB hd1 hb1
 go_wp2_with fail
 go_at_call 61
 refine (Qb4 B 4 _ HDN.out (by decide) (by decide)).mono ?_
 rintro e w2 ⟨q,rfl,q0,q1,hrest,hd2⟩
 obtain ⟨NBK,hnbk⟩:∃ n,n = w1.heap.size:=⟨_,rfl⟩
 have HN2:=hQ (show w2.heap[w1.heap.size]? = some (.cells #[.string ⟨#[65]⟩,.string ⟨#[66]⟩,.string ⟨#[67]⟩] 9 (0,0)) from (hrest.block w1.heap.size (Qaa HNB.out) (by have:=HD1.out.lt;omega)).trans HNB.out)
 have HP2:=hQ (show PrW B w w2 [] [] none 0 from ⟨fun t h=>by simp at h,rfl,World.ownsRow_nil _ _ _ _,fun i k u h=>by simp at h,(HB1.out.trans (HWN.out.mono HB1.out.size)).trans (hrest.down HWB.out (by have:=HB1.out.size;have:=HWN.out.size;omega)),hd2,HWB.out⟩)
 have HNBK:=hQ hnbk
 rw [← hnbk] at HN2 ⊢
 clear hrest hd2 hnbk
 obtain ⟨q,rfl⟩:∃ z:Nat,q = (z:Int):=⟨q.toNat,by omega⟩
 go_wp2
 go_loopw [4,6] (fun r k wr=>PrL B NBK w r k wr) (fun _ k _=>(intOf k).toNat)
 case atStart=>exact ⟨q,[],[],none,0,rfl,rfl,by simp;omega,HP2.out,HN2.out⟩
 case round =>
  obtain ⟨j,ps,us,A,c,rfl,rfl,hj,hp,hnb⟩:=hrel
  have HJ:=hQ hj
  have HP:=hQ hp
  have HNB3:=hQ hnb
  cases j with
  | zero =>
   clear hj hp hnb
   go_wp2
   go_ret
   exact ⟨_,ps,rfl,HP.out.mods,by have:=HJ.out;omega,HP.out.good,HP.out.below⟩
  | succ i =>
   have hp1:(ps.length:Int) < 3:=by omega
   have hp2:ps.length < 3:=by omega
   have hp0:(0:Int) ≤ (ps.length:Int):=by omega
   obtain ⟨nm,hnm,hnc⟩:∃ nm:ByteArray,nm.size ≤ 7 ∧ wr.cell? ⟨NBK,ps.length,none⟩ = some (.string nm):=by
    have h3:ps.length = 0 ∨ ps.length = 1 ∨ ps.length = 2:=by omega
    rcases h3 with h | h | h
    ·exact ⟨⟨#[65]⟩,by decide,by rw [h];exact Qab hnb 0 _ rfl⟩
    ·exact ⟨⟨#[66]⟩,by decide,by rw [h];exact Qab hnb 1 _ rfl⟩
    ·exact ⟨⟨#[67]⟩,by decide,by rw [h];exact Qab hnb 2 _ rfl⟩
   have nbl:=Qaa hnb
   have hi0:(0:Int) ≤ (i:Int):=by omega
   have hi1:(i:Int) ≤ 3:=by omega
   clear hj hp hnb
   go_wp2_with fail
   go_at_call 62
   refine (module_any B nm wr HP.out.dice hnm).mono ?_
   rintro e w5 ⟨t1,u1,rfl,ht,hz,hy,hrest,hd5,hk5⟩
   have HZ1:=hQ hz
   have HY1:=hQ hy
   have HK1:=hQ (show t1.kind = 1 ∨ t1.kind = 0 from hk5)
   have HWL:=hQ ((xC w5.heap.size w5).alloc (xA _) (trO u1))
   have HR5:=hQ (hrest.trans (Rest1.below HWL.out))
   have HD5:=hQ (hd5.keep HWL.out)
   have HL5:=hQ (xH w5 (trO u1))
   have HN5:=hQ ((HWL.out.block NBK (xE nbl hrest.size)).trans ((hrest.block NBK nbl (by have h1:=HNBK.out;have h2:=HD1.out.lt;omega)).trans HNB3.out))
   have HT5:=hQ (TrAt.move (w':=w5.alloc (trO u1)) (S':=fun b=>wr.heap.size ≤ b ∧ b < w5.heap.size) (fun _ h=>h) (fun b hb _=>HWL.out.block b hb.2) _ _ ht)
   have HBL:=hQ HP.out.dice.lt
   have HSW:=hQ hrest.size
   clear ht hz hy hrest hd5 hk5 hnc nbl hnm
   go_wp2_with fail
   go_at_call 61
   refine (Qb4 B 8 _ HD5.out (by decide) (by decide)).mono ?_
   rintro e w6 ⟨r,rfl,r0,r1,hrest,hd6⟩
   have HR6:=hQ (HR5.out.trans hrest)
   have HD6:=hQ hd6
   have HL6:=hQ ((hrest.block w5.heap.size (Qaa HL5.out) (by have h1:=HBL.out;have h2:=HSW.out;omega)).trans HL5.out)
   have HN6:=hQ ((hrest.block NBK (Qaa HN5.out) (by have h1:=HNBK.out;have h2:=HD1.out.lt;omega)).trans HN5.out)
   have HT6:=hQ (TrAt.move (w':=w6) (S':=fun b=>wr.heap.size ≤ b ∧ b < w5.heap.size) (fun _ h=>h) (fun b hb hl=>hrest.block b hl (by have h1:=HBL.out;omega)) _ _ HT5.out)
   have HS6:=hQ (show w5.heap.size < w6.heap.size from Qaa HL6.out)
   clear hrest hd6
   have y0:w6.cell? ⟨w5.heap.size,0,none⟩ = some (.int .i64 u1.kind):=Qab HL6.out 0 _ rfl
   have y1:w6.cell? ⟨w5.heap.size,1,none⟩ = some (.string u1.text):=Qab HL6.out 1 _ rfl
   have y2:w6.cell? ⟨w5.heap.size,2,none⟩ = some (.slice u1.la u1.ll u1.lc):=Qab HL6.out 2 _ rfl
   have y3:w6.cell? ⟨w5.heap.size,3,none⟩ = some (.slice u1.ka u1.kl u1.kc):=Qab HL6.out 3 _ rfl
   have yl:w5.heap.size < w6.heap.size:=Qaa HL6.out
   have yf:∀ o,w6.frozen? ⟨w5.heap.size,o,none⟩ = false:=fun o=>Lib.frozen_of_heap HL6.out _
   by_cases hr:r = 7
   ·subst hr
    have kL:(w6.setCell ⟨w5.heap.size,1,none⟩ (.string ⟨#[65]⟩)).heap[w5.heap.size]? = some (trO (⟨u1.kind,⟨#[65]⟩,u1.la,u1.ll,u1.lc,u1.ka,u1.kl,u1.kc⟩:TV)):=Qa0 HL6.out rfl
    have kD:DiceAt B (w6.setCell ⟨w5.heap.size,1,none⟩ (.string ⟨#[65]⟩)):=HD6.out.other fun k hk=>Qav (by have h1:=HBL.out;have h2:=HSW.out;omega)
    have kR:Rest1 B wr (w6.setCell ⟨w5.heap.size,1,none⟩ (.string ⟨#[65]⟩)):=⟨HR6.out.os,HR6.out.tape,HR6.out.output,by have:=HR6.out.size;simpa [World.setCell] using this,fun k hk hne=>(Qav (by have h2:=HSW.out;omega)).trans (HR6.out.block k hk hne)⟩
    have kN:(w6.setCell ⟨w5.heap.size,1,none⟩ (.string ⟨#[65]⟩)).heap[NBK]? = some (.cells #[.string ⟨#[65]⟩,.string ⟨#[66]⟩,.string ⟨#[67]⟩] 9 (0,0)):=(Qav (fun e=>by have h1:=HL6.out;rw [← e,HN6.out] at h1;injection h1 with h1;injection h1 with _ h2;exact absurd h2 (by decide))).trans HN6.out
    have kT:TrAt (fun b=>wr.heap.size ≤ b ∧ b < (w6.setCell ⟨w5.heap.size,1,none⟩ (.string ⟨#[65]⟩)).heap.size) (w6.setCell ⟨w5.heap.size,1,none⟩ (.string ⟨#[65]⟩)) (.mk t1.kind ⟨#[65]⟩ t1.leads t1.kids) (⟨u1.kind,⟨#[65]⟩,u1.la,u1.ll,u1.lc,u1.ka,u1.kl,u1.kc⟩:TV):=TrAt.text (TrAt.move (w:=w6) (fun b hb=>⟨hb.1,by have h1:=HS6.out;have h2:(w6.setCell ⟨w5.heap.size,1,none⟩ (.string ⟨#[65]⟩)).heap.size = w6.heap.size:=(by simp [World.setCell]);omega⟩) (fun b hb _=>Qav (by omega)) _ _ HT6.out) ⟨#[65]⟩
    have HK7:=hQ (show ((.mk t1.kind ⟨#[65]⟩ t1.leads t1.kids):Tr).kind = 1 ∨ ((.mk t1.kind ⟨#[65]⟩ t1.leads t1.kids):Tr).kind = 0 from HK1.out)
    have HY7:=hQ (tiny_text HY1.out (x:=⟨#[65]⟩) (by decide))
    have HZ7:=hQ (show Qan (.mk t1.kind ⟨#[65]⟩ t1.leads t1.kids) ≤ 352 from by rw [size_text];exact HZ1.out)
    go_upto_region 10 with fail
    generalize w6.setCell ⟨w5.heap.size,1,none⟩ (.string ⟨#[65]⟩) = w7 at kL kD kR kN kT ⊢
    have HL7:=hQ kL
    have HD7:=hQ kD
    have HR7:=hQ kR
    have HNB7:=hQ kN
    have HT7:=hQ kT
    clear kL kD kR kN kT y0 y1 y2 y3 yl yf
    have y0:w7.cell? ⟨w5.heap.size,0,none⟩ = some (.int .i64 u1.kind):=Qab HL7.out 0 _ rfl
    have y1:w7.cell? ⟨w5.heap.size,1,none⟩ = some (.string ⟨#[65]⟩):=Qab HL7.out 1 _ rfl
    have y2:w7.cell? ⟨w5.heap.size,2,none⟩ = some (.slice u1.la u1.ll u1.lc):=Qab HL7.out 2 _ rfl
    have y3:w7.cell? ⟨w5.heap.size,3,none⟩ = some (.slice u1.ka u1.kl u1.kc):=Qab HL7.out 3 _ rfl
    have yl:w5.heap.size < w7.heap.size:=Qaa HL7.out
    have yf:∀ o,w7.frozen? ⟨w5.heap.size,o,none⟩ = false:=fun o=>Lib.frozen_of_heap HL7.out _
    go_wp2_with fail
    go_at_call 63
    refine (valid_tiny _ (.mk t1.kind ⟨#[65]⟩ t1.leads t1.kids) (⟨u1.kind,⟨#[65]⟩,u1.la,u1.ll,u1.lc,u1.ka,u1.kl,u1.kc⟩:TV) w7 HT7.out HY7.out HZ7.out).mono ?_
    rintro e w8 ⟨rfl,hb8⟩
    have HR8:=hQ (HR7.out.trans (Rest1.below hb8))
    have HD8:=hQ (HD7.out.keep hb8)
    have HL8:=hQ ((hb8.block w5.heap.size (Qaa HL7.out)).trans HL7.out)
    have HN8:=hQ ((hb8.block NBK (Qaa HNB7.out)).trans HNB7.out)
    have HT8:=hQ (TrAt.move (S':=fun b=>wr.heap.size ≤ b ∧ b < w8.heap.size) (fun b hb=>⟨hb.1,xE hb.2 hb8.size⟩) (fun b _ hl=>hb8.block b hl) _ _ HT7.out)
    clear hb8 y0 y1 y2 y3 yl yf
    cases hv:Qf9 (.mk t1.kind ⟨#[65]⟩ t1.leads t1.kids) with
    | false =>
     have HV:=hQ hv
     clear hv
     go_wp2
     go_roundw
     case measure=>first | (simp [intOf];done) | (simp [intOf];omega)
     case rel=>exact ⟨i,ps,us,A,c,by go_num,rfl,by have:=HJ.out;omega,HP.out.keep HR8.out HD8.out,HN8.out⟩
    | true =>
     have HG:=hQ (good_of hv HY7.out HZ7.out HK7.out)
     clear hv
     have y0:w8.cell? ⟨w5.heap.size,0,none⟩ = some (.int .i64 u1.kind):=Qab HL8.out 0 _ rfl
     have y1:w8.cell? ⟨w5.heap.size,1,none⟩ = some (.string ⟨#[65]⟩):=Qab HL8.out 1 _ rfl
     have y2:w8.cell? ⟨w5.heap.size,2,none⟩ = some (.slice u1.la u1.ll u1.lc):=Qab HL8.out 2 _ rfl
     have y3:w8.cell? ⟨w5.heap.size,3,none⟩ = some (.slice u1.ka u1.kl u1.kc):=Qab HL8.out 3 _ rfl
     have yl:w5.heap.size < w8.heap.size:=Qaa HL8.out
     have yf:∀ o,w8.frozen? ⟨w5.heap.size,o,none⟩ = false:=fun o=>Lib.frozen_of_heap HL8.out _
     have HB1:=hQ (show ps.length + 1 ≤ maxLen from by have:=HJ.out;unfold maxLen;omega)
     have HB2:=hQ (show (ps.length + 1) * 72 ≤ 140737488355328 from by have:=HJ.out;omega)
     have HO8:=hQ (Qdk HP.out.row HR8.out (Nat.lt_succ_self _))
     have HNW:=hQ (World.news_of_block (cs:=(Qag [((⟨u1.kind,⟨#[65]⟩,u1.la,u1.ll,u1.lc,u1.ka,u1.kl,u1.kc⟩:TV):TV)]).toArray) (t:=25) (fr:=(0,0)) (xH w8 (.cells (Qag [((⟨u1.kind,⟨#[65]⟩,u1.la,u1.ll,u1.lc,u1.ka,u1.kl,u1.kc⟩:TV):TV)]).toArray 25)))
     have HON:=hQ (Qdh [((⟨u1.kind,⟨#[65]⟩,u1.la,u1.ll,u1.lc,u1.ka,u1.kl,u1.kc⟩:TV):TV)])
     have HSZ:=hQ (show B + 1 ≤ (w8.alloc (.cells (Qag [((⟨u1.kind,⟨#[65]⟩,u1.la,u1.ll,u1.lc,u1.ka,u1.kl,u1.kc⟩:TV):TV)]).toArray 25)).heap.size from by rw [xI];have:=HD8.out.lt;omega)
     go_wp2_with (at_builtin;refine wpList_append_lies _ rfl _ _ 23 rfl (B + 1) 25 it _ 4 72 Tryz.underlying23 hit ht0 ht1 ht2 rfl (by decide) (.slice A ps.length c) ps.length (Qag us) rfl (HO8.out.alloc _) ⟨w8.heap.size,0,none⟩ 1 1 (Qag [((⟨u1.kind,⟨#[65]⟩,u1.la,u1.ll,u1.lc,u1.ka,u1.kl,u1.kc⟩:TV):TV)]) rfl rfl HNW.out HON.out (by decide) HB1.out HB2.out HSZ.out (w8.heap.size + 1) (xI _ _) ?_;intro g cap w9 hown hgr hat hlt9;have HO9:=hQ hown;have HG9:=hQ hgr;have HA9:=hQ hat;have HN9:=hQ (Qfm HN8.out hgr (mk_row_ne HP.out.row HNB3.out));clear hown hgr hat hlt9 y0 y1 y2 y3 yl yf)
     go_roundw
     case measure=>first | (simp [intOf];done) | (simp [intOf];omega)
     case rel=>exact ⟨i,ps ++ [(.mk t1.kind ⟨#[65]⟩ t1.leads t1.kids)],us ++ [(⟨u1.kind,⟨#[65]⟩,u1.la,u1.ll,u1.lc,u1.ka,u1.kl,u1.kc⟩:TV)],some ⟨g,0,none⟩,cap,by go_num,by rw [xB];rfl,by rw [xB,List.length_singleton];have:=HJ.out;omega,HP.out.next HR8.out HD8.out HT8.out HG.out rfl HO9.out HG9.out HA9.out,HN9.out⟩
   ·have hr2:decide (r = 7) = false:=decide_eq_false hr
    have hr3:(r == 7) = false:=by simpa using hr
    have HT7:=hQ (TrAt.move (S':=fun b=>wr.heap.size ≤ b ∧ b < w6.heap.size) (fun b hb=>⟨hb.1,Nat.lt_trans hb.2 HS6.out⟩) (fun _ _ _=>rfl) _ _ HT6.out)
    have HL7:=HL6
    have HD7:=HD6
    have HR7:=HR6
    have HNB7:=HN6
    have HK7:=HK1
    have HY7:=HY1
    have HZ7:=HZ1
    go_wp2_with fail
    go_at_call 63
    refine (valid_tiny _ t1 u1 w6 HT7.out HY7.out HZ7.out).mono ?_
    rintro e w8 ⟨rfl,hb8⟩
    have HR8:=hQ (HR7.out.trans (Rest1.below hb8))
    have HD8:=hQ (HD7.out.keep hb8)
    have HL8:=hQ ((hb8.block w5.heap.size (Qaa HL7.out)).trans HL7.out)
    have HN8:=hQ ((hb8.block NBK (Qaa HNB7.out)).trans HNB7.out)
    have HT8:=hQ (TrAt.move (S':=fun b=>wr.heap.size ≤ b ∧ b < w8.heap.size) (fun b hb=>⟨hb.1,xE hb.2 hb8.size⟩) (fun b _ hl=>hb8.block b hl) _ _ HT7.out)
    clear hb8 y0 y1 y2 y3 yl yf
    cases hv:Qf9 t1 with
    | false =>
     have HV:=hQ hv
     clear hv
     go_wp2
     go_roundw
     case measure=>first | (simp [intOf];done) | (simp [intOf];omega)
     case rel=>exact ⟨i,ps,us,A,c,by go_num,rfl,by have:=HJ.out;omega,HP.out.keep HR8.out HD8.out,HN8.out⟩
    | true =>
     have HG:=hQ (good_of hv HY7.out HZ7.out HK7.out)
     clear hv
     have y0:w8.cell? ⟨w5.heap.size,0,none⟩ = some (.int .i64 u1.kind):=Qab HL8.out 0 _ rfl
     have y1:w8.cell? ⟨w5.heap.size,1,none⟩ = some (.string u1.text):=Qab HL8.out 1 _ rfl
     have y2:w8.cell? ⟨w5.heap.size,2,none⟩ = some (.slice u1.la u1.ll u1.lc):=Qab HL8.out 2 _ rfl
     have y3:w8.cell? ⟨w5.heap.size,3,none⟩ = some (.slice u1.ka u1.kl u1.kc):=Qab HL8.out 3 _ rfl
     have yl:w5.heap.size < w8.heap.size:=Qaa HL8.out
     have yf:∀ o,w8.frozen? ⟨w5.heap.size,o,none⟩ = false:=fun o=>Lib.frozen_of_heap HL8.out _
     have HB1:=hQ (show ps.length + 1 ≤ maxLen from by have:=HJ.out;unfold maxLen;omega)
     have HB2:=hQ (show (ps.length + 1) * 72 ≤ 140737488355328 from by have:=HJ.out;omega)
     have HO8:=hQ (Qdk HP.out.row HR8.out (Nat.lt_succ_self _))
     have HNW:=hQ (World.news_of_block (cs:=(Qag [(u1:TV)]).toArray) (t:=25) (fr:=(0,0)) (xH w8 (.cells (Qag [(u1:TV)]).toArray 25)))
     have HON:=hQ (Qdh [(u1:TV)])
     have HSZ:=hQ (show B + 1 ≤ (w8.alloc (.cells (Qag [(u1:TV)]).toArray 25)).heap.size from by rw [xI];have:=HD8.out.lt;omega)
     go_wp2_with (at_builtin;refine wpList_append_lies _ rfl _ _ 23 rfl (B + 1) 25 it _ 4 72 Tryz.underlying23 hit ht0 ht1 ht2 rfl (by decide) (.slice A ps.length c) ps.length (Qag us) rfl (HO8.out.alloc _) ⟨w8.heap.size,0,none⟩ 1 1 (Qag [(u1:TV)]) rfl rfl HNW.out HON.out (by decide) HB1.out HB2.out HSZ.out (w8.heap.size + 1) (xI _ _) ?_;intro g cap w9 hown hgr hat hlt9;have HO9:=hQ hown;have HG9:=hQ hgr;have HA9:=hQ hat;have HN9:=hQ (Qfm HN8.out hgr (mk_row_ne HP.out.row HNB3.out));clear hown hgr hat hlt9 y0 y1 y2 y3 yl yf)
     go_roundw
     case measure=>first | (simp [intOf];done) | (simp [intOf];omega)
     case rel=>exact ⟨i,ps ++ [t1],us ++ [u1],some ⟨g,0,none⟩,cap,by go_num,by rw [xB];rfl,by rw [xB,List.length_singleton];have:=HJ.out;omega,HP.out.next HR8.out HD8.out HT8.out HG.out rfl HO9.out HG9.out HA9.out,HN9.out⟩
end Go.Proofs.YtnnfdbmanamfdaaGreat
namespace Go.Proofs.YtnnfdbmanamfdaaGreat
open Go.RowKit
theorem root_at {lo c:Nat} {A:Option Addr} {w:World} {ps:List Tr} {us:List TV} (hc:ps.length ≤ c) (hlen:us.length = ps.length)
  (hrow:ps ≠ [] → ∃ g cs,A = some ⟨g,0,none⟩ ∧ lo ≤ g ∧ w.heap[g]? = some (.cells cs 25 (0,0)) ∧ RowIs cs us)
  (hat:∀ (i:Nat) (k:Tr) (u:TV),ps[i]? = some k → us[i]? = some u → TrAt (fun b=>lo ≤ b ∧ b < w.heap.size) w k u) :
  TrAt (fun b=>lo ≤ b ∧ b < w.heap.size) w (Qbx ps) ⟨0,⟨#[]⟩,none,0,0,A,ps.length,c⟩:=by
 refine TrAt.make rfl rfl rfl rfl (fun h=>absurd rfl h) (fun h0=>?_) ⟨xA _,hc⟩
 obtain ⟨g,cs,hA,hg,hh,hr⟩:=hrow h0
 refine ⟨g,0,hA,⟨hg,Qaa hh⟩,TrsAt.of _ 0 fun i t ht=>?_⟩
 have hi:i < us.length:=by rw [hlen];exact (List.getElem?_eq_some_iff.1 ht).1
 obtain ⟨u,hu⟩:∃ u,us[i]? = some u:=⟨_,xF hi⟩
 obtain ⟨r0,r1,r2,r3⟩:=hr i u hu
 refine ⟨u,?_,?_,?_,?_,hat i t u ht hu⟩
 ·rw [show 0 + i * 4 = i * 4 from by omega];exact Qab hh _ _ r0
 ·rw [show 0 + i * 4 + 1 = i * 4 + 1 from by omega];exact Qab hh _ _ r1
 ·rw [show 0 + i * 4 + 2 = i * 4 + 2 from by omega];exact Qab hh _ _ r2
 ·rw [show 0 + i * 4 + 3 = i * 4 + 3 from by omega];exact Qab hh _ _ r3
theorem light_mak (A:Option Addr) (n c:Nat) (w:World):Calls Tryz.prog 25 #[.slice A n c] w fun e w'=>e = .returned (.bool (decide (n ≤ 120))) ∧ w' = w:=by
 have h:(decide ((n:Int) ≤ 120)) = decide (n ≤ 120):=by simp;omega
 go_enter Tryz.func25,Tryz.ntmps25
 go_wp2
 go_ret
 first | exact ⟨rfl,rfl⟩ | (rw [← h];exact ⟨rfl,rfl⟩) | (simp;done) | (simp;omega)
end Go.Proofs.YtnnfdbmanamfdaaGreat
namespace Go.Proofs.YtnnfdbmanamfdaaGreat
open Go.RowKit Go.Shelf
theorem szB_none:(l:List ByteArray) → szB (l.map noLead) = 0
 | []=>rfl
 | a :: r=>by
  rw [List.map_cons,szB,szB_none r]
  rfl
mutual
theorem bareL_cnt:(t:Tr) → cntT (bareL t) ≤ cntT t
 | .mk k x ls ks=>by
  have h:=bareLs_cnt ks
  have hn:(bareLs ks).length = ks.length:=by rw [bareLs_map,List.length_map]
  rw [bareL,cntT,cntT,szB_none,List.length_map,hn]
  omega
theorem bareLs_cnt:(l:List Tr) → cntL (bareLs l) ≤ cntL l
 | []=>by rw [bareLs];exact xA _
 | t :: r=>by
  have h1:=bareL_cnt t
  have h2:=bareLs_cnt r
  rw [bareLs,cntL,cntL]
  omega
end
theorem tokCells_get:{ts:List Tok} → {j:Nat} → {t:Tok} → ts[j]? = some t → (Qcg ts)[j * 3]? = some (.int .i64 t.kind) ∧ (Qcg ts)[j * 3 + 1]? = some (.string t.lead) ∧ (Qcg ts)[j * 3 + 2]? = some (.string t.text)
 | [],_,_,h=>by simp at h
 | u :: r,0,y,h=>by
  injection h with h
  subst h
  exact ⟨rfl,rfl,rfl⟩
 | u :: r,j + 1,y,h=>by
  have ih:=tokCells_get (ts:=r) (j:=j) (t:=y) h
  have hs:∀ k,(Qcg (u :: r))[(j + 1) * 3 + k]? = (Qcg r)[j * 3 + k]?:=fun k=>by
   unfold Qcg
   rw [List.flatMap_cons,show (j + 1) * 3 + k = j * 3 + k + 3 from by omega,List.getElem?_append_right (by simp)]
   simp
  exact ⟨(hs 0).trans ih.1,(hs 1).trans ih.2.1,(hs 2).trans ih.2.2⟩
def TkRow (w:World) (B:Nat) (v:Value) (ts:List Tok):Prop:=w.ownsRow B 74 3 v ts.length (Qcg ts)
theorem TkRow.keep {w w':World} {B:Nat} {v:Value} {ts:List Tok} (h:TkRow w B v ts) (hb:Below w.heap.size w w'):TkRow w' B v ts:=(Keeps.of_below (P:=fun _=>none) hb).row h fun _ _=>.inl rfl
theorem TkRow.at {w:World} {B n c:Nat} {A:Option Addr} {ts:List Tok} (h:TkRow w B (.slice A n c) ts) {j:Nat} {t:Tok} (ht:ts[j]? = some t):∃ g,A = some ⟨g,0,none⟩ ∧ g < w.heap.size ∧ w.cell? ⟨g,j * 3,none⟩ = some (.int .i64 t.kind) ∧ w.cell? ⟨g,j * 3 + 2,none⟩ = some (.string t.text):=by
 have hj:=(List.getElem?_eq_some_iff.1 ht).1
 obtain ⟨g,cap,e,hg,hlt⟩:=World.ownsRow.form h (by omega)
 injection e with e _ _
 subst e
 have hc:=World.ownsRow.cells h (g:=g) rfl
 obtain ⟨q0,_,q2⟩:=tokCells_get ht
 have e0:=hc _ _ q0
 have e2:=hc _ _ q2
 rw [Addr.add_lit] at e0 e2
 simp only [Nat.zero_add] at e0 e2
 exact ⟨g,rfl,hlt,e0,e2⟩
theorem syntaxTokens_walk (A:Option Addr) (c:Nat) (xs:List Int) (w:World) (hx:IntsAt w A xs) :
  Calls Tryz.prog 13 #[.slice A xs.length c] w fun e w'=>e = .returned (.bool true) ∧ Below w.heap.size w w':=by
 by_cases hl:xs.length ≤ 120
 ·have d0:=decide_eq_true hl
  have HP:=hQ (program_any A c xs w hx hl)
  clear hx hl
  go_enter Tryz.func13,Tryz.ntmps13
  go_wp2_with (first | (go_at_call 25;refine (light_mak _ _ _ _).mono ?_;rintro e w0 ⟨rfl,h0⟩;rw [h0];clear h0 w0) | fail)
  go_at_call 32
  refine HP.out.mono ?_
  rintro e w1 ⟨r,ps,rfl,hm,hlen,hgood,hb⟩
  obtain ⟨A1,c1,us,rfl,hc1,hus,hrow,hat⟩:=hm
  have HB:=hQ hb
  have HR:=hQ (root_at hc1 hus hrow hat)
  have HG:=hQ hgood
  have hnl:(ps.length:Int) ≤ 3:=by omega
  clear hrow hat hgood hb
  go_wp2_with fail
  go_loopw [4] (fun i wr=>∃ j:Nat,i = .int .i64 (j:Int) ∧ j ≤ ps.length ∧ Below w1.heap.size w1 wr) (fun i _=>ps.length - (intOf i).toNat)
  case atStart=>exact ⟨0,rfl,Nat.zero_le _,xC _ _⟩
  case round =>
   obtain ⟨j,rfl,hj,hb⟩:=hrel
   obtain ⟨wo,hwo⟩:∃ w',w' = wr:=⟨_,rfl⟩
   subst hwo
   have HBR:=hQ hb
   clear hb
   by_cases hlt:j < ps.length
   ·obtain ⟨t,ht⟩:∃ t,ps[j]? = some t:=⟨_,xF hlt⟩
    obtain ⟨b,off,hka⟩:∃ b off,A1 = some ⟨b,off,none⟩:=HR.out.addr.resolve_left (by show ¬ ps.length = 0;omega)
    subst hka
    obtain ⟨hval,htiny,hsz,hkind⟩:=HG.out t (List.mem_of_getElem? ht)
    have hcnt:cntT t ≤ 1048576:=by have:=tiny_cnt t htiny;omega
    have hcntb:cntT (bareL t) ≤ 1048576:=Nat.le_trans (bareL_cnt t) hcnt
    have hszb:Qan (bareL t) ≤ 1000:=by rw [bareL_size];omega
    rw [valid_form] at hval
    simp only [Bool.and_eq_true,decide_eq_true_eq] at hval
    obtain ⟨ts,us2,tl,ul,hs1,hs2,heq,hm1,hm2⟩:=scan_module (by omega) hkind hval.1.1.1.1 hval.1.1.1.2 hval.2
    have HFT:=hQ (fit_cnt t hcnt)
    have HST:=hQ (small_cnt t hcnt)
    have HWT:=hQ (words_cnt t hcnt)
    have HPT:=hQ (show Qf7 (Qaf t) < 140737488355328 from Nat.lt_of_le_of_lt (pieces_bulk (by omega) hcnt) (by decide))
    have HSB:=hQ (small_cnt _ hcntb)
    have HWB:=hQ (words_cnt _ hcntb)
    have HPB:=hQ (show Qf7 (Qaf (bareL t)) < 140737488355328 from Nat.lt_of_le_of_lt (pieces_bulk hszb hcntb) (by decide))
    have hln:us2.length = ts.length:=by have h:=congrArg List.length heq;rw [List.length_map,List.length_map] at h;exact h.symm
    have HEQ:=hQ heq
    have HS1:=hQ hs1
    have HS2:=hQ hs2
    have HUX:=hQ (fun (wx:World) (hb:Below w1.heap.size w1 wx)=>(HR.out.keep hb).at rfl (show (Qbx ps).kids[j]? = some t from ht))
    have HLJ:=hQ hlt
    obtain ⟨u,c0,c1',c2,c3,hu⟩:=HUX.out wo HBR.out
    have HU:=hQ hu
    have HM1:=hQ (show (printT t).size ≤ maxLen from Nat.le_trans hm1 (by decide))
    have HM2:=hQ (show (printT (bareL t)).size ≤ maxLen from Nat.le_trans hm2 (by decide))
    have HLN:=hQ hln
    have htl:ts.length ≤ 4096:=by have h:=scanR_few (printT t);rw [hs1] at h;exact h
    have cl:=xK wo _ c0
    have hk0:(0:Int) ≤ (j:Int):=by omega
    have hk2:(j:Int) < (ps.length:Int):=by omega
    have hk3:(j:Int) + 1 ≤ 4:=by omega
    clear hu ht hval htiny hsz hkind hcnt hcntb hszb heq hs1 hs2 hm1 hm2 hln
    go_upto_region 8 with (first
     | (go_at_call 42;refine (print_syn _ t u _ HU.out HST.out HWT.out HPT.out).mono ?_;rintro e w2 ⟨rfl,hb⟩;have HB2:=hQ hb;clear hb)
     | (go_at_call 46;refine (scan_any _ _ HM1.out).mono ?_;rw [HS1.out];rintro e w3 ⟨v3,rfl,ho,hb⟩;obtain ⟨TA,tc,rfl⟩:=Qeq ho;have HT3:=hQ (show TkRow w3 w2.heap.size (.slice TA ts.length tc) ts from ho);have HB3:=hQ (HB2.out.trans (hb.mono HB2.out.size));clear ho hb))
    clear c0 c1' c2 c3 cl
    obtain ⟨u2,c0,c1',c2,c3,hu⟩:=HUX.out w3 (HBR.out.trans (HB3.out.mono HBR.out.size))
    have HU2:=hQ hu
    have cl:=xK w3 _ c0
    have HB13:=hQ (HBR.out.trans (HB3.out.mono HBR.out.size))
    clear hu
    go_upto_region 9 with (first
     | (go_at_call 47;refine (bare_syn _ _ t u2 _ (xA _) HU2.out HFT.out).mono ?_;rintro e w4 ⟨y,rfl,hy,hb⟩;have HY:=hQ hy;have HB4:=hQ hb;clear hy hb)
     | (go_at_call 42;refine (print_syn _ _ y _ HY.out HSB.out HWB.out HPB.out).mono ?_;rintro e w5 ⟨rfl,hb⟩;have HB5:=hQ (HB4.out.trans (hb.mono HB4.out.size));clear hb)
     | (go_at_call 46;refine (scan_any _ _ HM2.out).mono ?_;rw [HS2.out];rintro e w6 ⟨v6,rfl,ho,hb⟩;obtain ⟨UA,uc,hv⟩:=Qeq ho;have HT6:=hQ (show TkRow w6 w5.heap.size v6 us2 from ho);have hv':=(show v6 = .slice UA ts.length uc from hv.trans (by rw [← HLN.out]));subst hv';have HB6:=hQ (HB5.out.trans (hb.mono HB5.out.size));clear ho hb hv))
    clear c0 c1' c2 c3 cl
    have HT36:=hQ (HT3.out.keep HB6.out)
    have HB16:=hQ (HB13.out.trans (HB6.out.mono HB13.out.size))
    go_wp2_with fail
    go_loopw [13] (fun i wq=>∃ k:Nat,i = .int .i64 (k:Int) ∧ k ≤ ts.length ∧ Below w6.heap.size w6 wq) (fun i _=>ts.length - (intOf i).toNat)
    case atStart=>exact ⟨0,rfl,Nat.zero_le _,xC _ _⟩
    case round =>
     obtain ⟨k,rfl,hk,hb⟩:=hrel
     have HBQ:=hQ hb
     by_cases hkl:k < ts.length
     ·obtain ⟨a,ha⟩:∃ a,ts[k]? = some a:=⟨_,xF hkl⟩
      obtain ⟨q,hq⟩:∃ q,us2[k]? = some q:=⟨_,xF (by rw [HLN.out];exact hkl)⟩
      have hkt:=congrArg (fun l=>l[k]?) HEQ.out
      simp only [List.getElem?_map,ha,hq,Option.map_some,Option.some.injEq,Prod.mk.injEq] at hkt
      obtain ⟨g,hTA,gl,c0,c2⟩:=(HT36.out.keep hb).at ha
      obtain ⟨g',hUA,gl',d0',d2'⟩:=(HT6.out.keep hb).at hq
      subst hTA hUA
      rw [← hkt.1] at d0'
      rw [← hkt.2] at d2'
      have r1:(a.kind != a.kind) = false:=by simp
      have r2:(a.text.toList == a.text.toList) = true:=by simp
      have hkk0:(0:Int) ≤ (k:Int):=by omega
      have hkk1:(k:Int) < (ts.length:Int):=by omega
      have hkk2:(k:Int) + 1 ≤ 4097:=by omega
      have mixedL:Tryz.prog.follows Departure.mixedOrders = true:=mixed
      clear ha hq hkt hb
      go_wp2_with fail
      go_region_o
      all_goals
       go_wp2
       go_roundw
       case measure=>first | (simp [intOf];done) | (simp [intOf];omega)
       case rel=>exact ⟨k + 1,by go_num,by omega,HBQ.out.drew⟩
     ·obtain rfl:k = ts.length:=by omega
      go_wp2
      refine ⟨⟨j + 1,by go_num,HLJ.out,HB16.out.trans (HBQ.out.mono HB16.out.size)⟩,?_⟩
      have:=HLJ.out
      first | (simp [intOf];done) | (simp [intOf];omega)
   ·obtain rfl:j = ps.length:=by omega
    go_wp2_with (go_at_call 40;refine (awake_syn _).mono ?_;rintro e w4 ⟨rfl,hb⟩;have HB4:=hQ (HBR.out.trans (hb.mono HBR.out.size));clear hb)
    go_ret
    exact ⟨rfl,HB.out.trans (HB4.out.mono HB.out.size)⟩
 ·have d0:=decide_eq_false hl
  clear hx hl
  go_enter Tryz.func13,Tryz.ntmps13
  go_wp2_with (first | (go_at_call 25;refine (light_mak _ _ _ _).mono ?_;rintro e w0 ⟨rfl,h0⟩;rw [h0];clear h0 w0) | (go_at_call 40;refine (awake_syn _).mono ?_;rintro e w1 ⟨rfl,hb⟩;have HB:=hQ hb;clear hb))
  go_ret
  exact ⟨rfl,HB.out⟩
end Go.Proofs.YtnnfdbmanamfdaaGreat
