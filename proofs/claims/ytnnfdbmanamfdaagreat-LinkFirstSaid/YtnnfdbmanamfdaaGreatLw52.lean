/- Part 52: The contract of Program of the made programs: at most three valid modules, whichever the numbers are. The list of trees that Program makes, as the kids of a tree. The contract of awake of the law of link. The walk of the law LinkWords, given the contract of awake. The walk of the law LinkTargets. -/
import Derived.Test.YtnnfdbmanamfdaaGreatLw1
import Derived.Test.YtnnfdbmanamfdaaGreatLw51
import Derived.Test.YtnnfdbmanamfdaaGreatLw28
import Derived.Test.YtnnfdbmanamfdaaGreatLw40
import Derived.Deep.LoopGhost
set_option maxRecDepth 100000
set_option maxHeartbeats 4000000
namespace Go.Proofs.YtnnfdbmanamfdaaGreat
open Go.RowKit Go.Shelf
theorem mk_row_ne {w:World} {B n k:Nat} {r:Value} {xs:List Value} {cs:Array Value} (h:w.ownsRow B 25 4 r n xs) (hk:w.heap[k]? = some (.cells cs 9 (0,0))):r.ownBlock ≠ some k:=fun e=>by
 rcases h.2 with ⟨rfl,_⟩ | ⟨g',cap,cur',rfl,_,hh,_⟩
 ·cases e
 ·injection e with e
  subst e
  rw [hk] at hh
  injection hh with hh
  injection hh with _ h2
  exact absurd h2 (by decide)
def PrL (B NBK:Nat) (w:World) (r k:Value) (wr:World):Prop:=∃ (j:Nat) (ps:List Tr) (us:List TV) (A:Option Addr) (c:Nat),k = .int .i64 j ∧ r = .slice A ps.length c ∧ j + ps.length ≤ 3 ∧ PrW B w wr ps us A c ∧ wr.heap[NBK]? = some (.cells #[.string ⟨#[65]⟩,.string ⟨#[66]⟩,.string ⟨#[67]⟩] 9 (0,0))
theorem program_any (A:Option Addr) (c:Nat) (xs:List Int) (w:World) (hx:IntsAt w A xs) (hl:xs.length ≤ 120):Calls Tryz.prog 32 #[.slice A xs.length c] w (ProgP w):=by
 obtain ⟨it,hit,ht0,ht1,ht2⟩:=info_parts Qcv
 go_enter Tryz.func32,Tryz.ntmps32
 go_wp2_with fail
 go_at_call 60
 refine (roll_any A c xs w hx hl).mono ?_
 rintro e w1 ⟨B,rfl,hB,hd1,hb1⟩
 have HWB:=hQ hB
 have HD1:=hQ hd1
 have HB1:=hQ hb1
 have HWN:=hQ ((xC w1.heap.size w1).alloc (xA _) (.cells #[.string ⟨#[65]⟩,.string ⟨#[66]⟩,.string ⟨#[67]⟩] 9))
 have HNB:=hQ (xH w1 (.cells #[.string ⟨#[65]⟩,.string ⟨#[66]⟩,.string ⟨#[67]⟩] 9))
 have HDN:=hQ (HD1.out.keep HWN.out)
 clear hB hd1 hb1
 go_wp2_with fail
 go_at_call 61
 refine (Qb4 B 4 _ HDN.out (by decide) (by decide)).mono ?_
 rintro e w2 ⟨q,rfl,q0,q1,hrest,hd2⟩
 obtain ⟨NBK,hnbk⟩:∃ n,n = w1.heap.size:=⟨_,rfl⟩
 have HN2:=hQ (show w2.heap[w1.heap.size]? = some (.cells #[.string ⟨#[65]⟩,.string ⟨#[66]⟩,.string ⟨#[67]⟩] 9 (0,0)) from (hrest.block w1.heap.size (Qaa HNB.out) (by have:=HD1.out.lt;omega)).trans HNB.out)
 have HP2:=hQ (show PrW B w w2 [] [] none 0 from ⟨fun t h=>by simp at h,rfl,World.ownsRow_nil _ _ _ _,fun i k u h=>by simp at h,(HB1.out.trans (HWN.out.mono HB1.out.size)).trans (hrest.down HWB.out (by have:=HB1.out.size;have:=HWN.out.size;omega)),hd2,HWB.out⟩)
 have HNBK:=hQ hnbk
 rw [← hnbk] at HN2 ⊢
 clear hrest hd2 hnbk
 obtain ⟨q,rfl⟩:∃ z:Nat,q = (z:Int):=⟨q.toNat,by omega⟩
 go_wp2
 go_loopw [4,6] (fun r k wr=>PrL B NBK w r k wr) (fun _ k _=>(intOf k).toNat)
 case atStart=>exact ⟨q,[],[],none,0,rfl,rfl,by simp;omega,HP2.out,HN2.out⟩
 case round =>
  obtain ⟨j,ps,us,A,c,rfl,rfl,hj,hp,hnb⟩:=hrel
  have HJ:=hQ hj
  have HP:=hQ hp
  have HNB3:=hQ hnb
  cases j with
  | zero =>
   clear hj hp hnb
   go_wp2
   go_ret
   exact ⟨_,ps,rfl,HP.out.mods,by have:=HJ.out;omega,HP.out.good,HP.out.below⟩
  | succ i =>
   have hp1:(ps.length:Int) < 3:=by omega
   have hp2:ps.length < 3:=by omega
   have hp0:(0:Int) ≤ (ps.length:Int):=by omega
   obtain ⟨nm,hnm,hnc⟩:∃ nm:ByteArray,nm.size ≤ 7 ∧ wr.cell? ⟨NBK,ps.length,none⟩ = some (.string nm):=by
    have h3:ps.length = 0 ∨ ps.length = 1 ∨ ps.length = 2:=by omega
    rcases h3 with h | h | h
    ·exact ⟨⟨#[65]⟩,by decide,by rw [h];exact Qab hnb 0 _ rfl⟩
    ·exact ⟨⟨#[66]⟩,by decide,by rw [h];exact Qab hnb 1 _ rfl⟩
    ·exact ⟨⟨#[67]⟩,by decide,by rw [h];exact Qab hnb 2 _ rfl⟩
   have nbl:=Qaa hnb
   have hi0:(0:Int) ≤ (i:Int):=by omega
   have hi1:(i:Int) ≤ 3:=by omega
   clear hj hp hnb
   go_wp2_with fail
   go_at_call 62
   refine (module_any B nm wr HP.out.dice hnm).mono ?_
   rintro e w5 ⟨t1,u1,rfl,ht,hz,hy,hrest,hd5,hk5⟩
   have HZ1:=hQ hz
   have HY1:=hQ hy
   have HK1:=hQ (show t1.kind = 1 ∨ t1.kind = 0 from hk5)
   have HWL:=hQ ((xC w5.heap.size w5).alloc (xA _) (trO u1))
   have HR5:=hQ (hrest.trans (Rest1.below HWL.out))
   have HD5:=hQ (hd5.keep HWL.out)
   have HL5:=hQ (xH w5 (trO u1))
   have HN5:=hQ ((HWL.out.block NBK (xE nbl hrest.size)).trans ((hrest.block NBK nbl (by have h1:=HNBK.out;have h2:=HD1.out.lt;omega)).trans HNB3.out))
   have HT5:=hQ (TrAt.move (w':=w5.alloc (trO u1)) (S':=fun b=>wr.heap.size ≤ b ∧ b < w5.heap.size) (fun _ h=>h) (fun b hb _=>HWL.out.block b hb.2) _ _ ht)
   have HBL:=hQ HP.out.dice.lt
   have HSW:=hQ hrest.size
   clear ht hz hy hrest hd5 hk5 hnc nbl hnm
   go_wp2_with fail
   go_at_call 61
   refine (Qb4 B 8 _ HD5.out (by decide) (by decide)).mono ?_
   rintro e w6 ⟨r,rfl,r0,r1,hrest,hd6⟩
   have HR6:=hQ (HR5.out.trans hrest)
   have HD6:=hQ hd6
   have HL6:=hQ ((hrest.block w5.heap.size (Qaa HL5.out) (by have h1:=HBL.out;have h2:=HSW.out;omega)).trans HL5.out)
   have HN6:=hQ ((hrest.block NBK (Qaa HN5.out) (by have h1:=HNBK.out;have h2:=HD1.out.lt;omega)).trans HN5.out)
   have HT6:=hQ (TrAt.move (w':=w6) (S':=fun b=>wr.heap.size ≤ b ∧ b < w5.heap.size) (fun _ h=>h) (fun b hb hl=>hrest.block b hl (by have h1:=HBL.out;omega)) _ _ HT5.out)
   have HS6:=hQ (show w5.heap.size < w6.heap.size from Qaa HL6.out)
   clear hrest hd6
   have y0:w6.cell? ⟨w5.heap.size,0,none⟩ = some (.int .i64 u1.kind):=Qab HL6.out 0 _ rfl
   have y1:w6.cell? ⟨w5.heap.size,1,none⟩ = some (.string u1.text):=Qab HL6.out 1 _ rfl
   have y2:w6.cell? ⟨w5.heap.size,2,none⟩ = some (.slice u1.la u1.ll u1.lc):=Qab HL6.out 2 _ rfl
   have y3:w6.cell? ⟨w5.heap.size,3,none⟩ = some (.slice u1.ka u1.kl u1.kc):=Qab HL6.out 3 _ rfl
   have yl:w5.heap.size < w6.heap.size:=Qaa HL6.out
   have yf:∀ o,w6.frozen? ⟨w5.heap.size,o,none⟩ = false:=fun o=>Lib.frozen_of_heap HL6.out _
   by_cases hr:r = 7
   ·subst hr
    have kL:(w6.setCell ⟨w5.heap.size,1,none⟩ (.string ⟨#[65]⟩)).heap[w5.heap.size]? = some (trO (⟨u1.kind,⟨#[65]⟩,u1.la,u1.ll,u1.lc,u1.ka,u1.kl,u1.kc⟩:TV)):=Qa0 HL6.out rfl
    have kD:DiceAt B (w6.setCell ⟨w5.heap.size,1,none⟩ (.string ⟨#[65]⟩)):=HD6.out.other fun k hk=>Qav (by have h1:=HBL.out;have h2:=HSW.out;omega)
    have kR:Rest1 B wr (w6.setCell ⟨w5.heap.size,1,none⟩ (.string ⟨#[65]⟩)):=⟨HR6.out.os,HR6.out.tape,HR6.out.output,by have:=HR6.out.size;simpa [World.setCell] using this,fun k hk hne=>(Qav (by have h2:=HSW.out;omega)).trans (HR6.out.block k hk hne)⟩
    have kN:(w6.setCell ⟨w5.heap.size,1,none⟩ (.string ⟨#[65]⟩)).heap[NBK]? = some (.cells #[.string ⟨#[65]⟩,.string ⟨#[66]⟩,.string ⟨#[67]⟩] 9 (0,0)):=(Qav (fun e=>by have h1:=HL6.out;rw [← e,HN6.out] at h1;injection h1 with h1;injection h1 with _ h2;exact absurd h2 (by decide))).trans HN6.out
    have kT:TrAt (fun b=>wr.heap.size ≤ b ∧ b < (w6.setCell ⟨w5.heap.size,1,none⟩ (.string ⟨#[65]⟩)).heap.size) (w6.setCell ⟨w5.heap.size,1,none⟩ (.string ⟨#[65]⟩)) (.mk t1.kind ⟨#[65]⟩ t1.leads t1.kids) (⟨u1.kind,⟨#[65]⟩,u1.la,u1.ll,u1.lc,u1.ka,u1.kl,u1.kc⟩:TV):=TrAt.text (TrAt.move (w:=w6) (fun b hb=>⟨hb.1,by have h1:=HS6.out;have h2:(w6.setCell ⟨w5.heap.size,1,none⟩ (.string ⟨#[65]⟩)).heap.size = w6.heap.size:=(by simp [World.setCell]);omega⟩) (fun b hb _=>Qav (by omega)) _ _ HT6.out) ⟨#[65]⟩
    have HK7:=hQ (show ((.mk t1.kind ⟨#[65]⟩ t1.leads t1.kids):Tr).kind = 1 ∨ ((.mk t1.kind ⟨#[65]⟩ t1.leads t1.kids):Tr).kind = 0 from HK1.out)
    have HY7:=hQ (tiny_text HY1.out (x:=⟨#[65]⟩) (by decide))
    have HZ7:=hQ (show Qan (.mk t1.kind ⟨#[65]⟩ t1.leads t1.kids) ≤ 352 from by rw [size_text];exact HZ1.out)
    go_upto_region 10 with fail
    generalize w6.setCell ⟨w5.heap.size,1,none⟩ (.string ⟨#[65]⟩) = w7 at kL kD kR kN kT ⊢
    have HL7:=hQ kL
    have HD7:=hQ kD
    have HR7:=hQ kR
    have HNB7:=hQ kN
    have HT7:=hQ kT
    clear kL kD kR kN kT y0 y1 y2 y3 yl yf
    have y0:w7.cell? ⟨w5.heap.size,0,none⟩ = some (.int .i64 u1.kind):=Qab HL7.out 0 _ rfl
    have y1:w7.cell? ⟨w5.heap.size,1,none⟩ = some (.string ⟨#[65]⟩):=Qab HL7.out 1 _ rfl
    have y2:w7.cell? ⟨w5.heap.size,2,none⟩ = some (.slice u1.la u1.ll u1.lc):=Qab HL7.out 2 _ rfl
    have y3:w7.cell? ⟨w5.heap.size,3,none⟩ = some (.slice u1.ka u1.kl u1.kc):=Qab HL7.out 3 _ rfl
    have yl:w5.heap.size < w7.heap.size:=Qaa HL7.out
    have yf:∀ o,w7.frozen? ⟨w5.heap.size,o,none⟩ = false:=fun o=>Lib.frozen_of_heap HL7.out _
    go_wp2_with fail
    go_at_call 63
    refine (valid_tiny _ (.mk t1.kind ⟨#[65]⟩ t1.leads t1.kids) (⟨u1.kind,⟨#[65]⟩,u1.la,u1.ll,u1.lc,u1.ka,u1.kl,u1.kc⟩:TV) w7 HT7.out HY7.out HZ7.out).mono ?_
    rintro e w8 ⟨rfl,hb8⟩
    have HR8:=hQ (HR7.out.trans (Rest1.below hb8))
    have HD8:=hQ (HD7.out.keep hb8)
    have HL8:=hQ ((hb8.block w5.heap.size (Qaa HL7.out)).trans HL7.out)
    have HN8:=hQ ((hb8.block NBK (Qaa HNB7.out)).trans HNB7.out)
    have HT8:=hQ (TrAt.move (S':=fun b=>wr.heap.size ≤ b ∧ b < w8.heap.size) (fun b hb=>⟨hb.1,xE hb.2 hb8.size⟩) (fun b _ hl=>hb8.block b hl) _ _ HT7.out)
    clear hb8 y0 y1 y2 y3 yl yf
    cases hv:Qf9 (.mk t1.kind ⟨#[65]⟩ t1.leads t1.kids) with
    | false =>
     have HV:=hQ hv
     clear hv
     go_wp2
     go_roundw
     case measure=>first | (simp [intOf];done) | (simp [intOf];omega)
     case rel=>exact ⟨i,ps,us,A,c,by go_num,rfl,by have:=HJ.out;omega,HP.out.keep HR8.out HD8.out,HN8.out⟩
    | true =>
     have HG:=hQ (good_of hv HY7.out HZ7.out HK7.out)
     clear hv
     have y0:w8.cell? ⟨w5.heap.size,0,none⟩ = some (.int .i64 u1.kind):=Qab HL8.out 0 _ rfl
     have y1:w8.cell? ⟨w5.heap.size,1,none⟩ = some (.string ⟨#[65]⟩):=Qab HL8.out 1 _ rfl
     have y2:w8.cell? ⟨w5.heap.size,2,none⟩ = some (.slice u1.la u1.ll u1.lc):=Qab HL8.out 2 _ rfl
     have y3:w8.cell? ⟨w5.heap.size,3,none⟩ = some (.slice u1.ka u1.kl u1.kc):=Qab HL8.out 3 _ rfl
     have yl:w5.heap.size < w8.heap.size:=Qaa HL8.out
     have yf:∀ o,w8.frozen? ⟨w5.heap.size,o,none⟩ = false:=fun o=>Lib.frozen_of_heap HL8.out _
     have HB1:=hQ (show ps.length + 1 ≤ maxLen from by have:=HJ.out;unfold maxLen;omega)
     have HB2:=hQ (show (ps.length + 1) * 72 ≤ 140737488355328 from by have:=HJ.out;omega)
     have HO8:=hQ (Qdk HP.out.row HR8.out (Nat.lt_succ_self _))
     have HNW:=hQ (World.news_of_block (cs:=(Qag [((⟨u1.kind,⟨#[65]⟩,u1.la,u1.ll,u1.lc,u1.ka,u1.kl,u1.kc⟩:TV):TV)]).toArray) (t:=25) (fr:=(0,0)) (xH w8 (.cells (Qag [((⟨u1.kind,⟨#[65]⟩,u1.la,u1.ll,u1.lc,u1.ka,u1.kl,u1.kc⟩:TV):TV)]).toArray 25)))
     have HON:=hQ (Qdh [((⟨u1.kind,⟨#[65]⟩,u1.la,u1.ll,u1.lc,u1.ka,u1.kl,u1.kc⟩:TV):TV)])
     have HSZ:=hQ (show B + 1 ≤ (w8.alloc (.cells (Qag [((⟨u1.kind,⟨#[65]⟩,u1.la,u1.ll,u1.lc,u1.ka,u1.kl,u1.kc⟩:TV):TV)]).toArray 25)).heap.size from by rw [xI];have:=HD8.out.lt;omega)
     go_wp2_with (at_builtin;refine wpList_append_lies _ rfl _ _ 23 rfl (B + 1) 25 it _ 4 72 Tryz.underlying23 hit ht0 ht1 ht2 rfl (by decide) (.slice A ps.length c) ps.length (Qag us) rfl (HO8.out.alloc _) ⟨w8.heap.size,0,none⟩ 1 1 (Qag [((⟨u1.kind,⟨#[65]⟩,u1.la,u1.ll,u1.lc,u1.ka,u1.kl,u1.kc⟩:TV):TV)]) rfl rfl HNW.out HON.out (by decide) HB1.out HB2.out HSZ.out (w8.heap.size + 1) (xI _ _) ?_;intro g cap w9 hown hgr hat hlt9;have HO9:=hQ hown;have HG9:=hQ hgr;have HA9:=hQ hat;have HN9:=hQ (Qfm HN8.out hgr (mk_row_ne HP.out.row HNB3.out));clear hown hgr hat hlt9 y0 y1 y2 y3 yl yf)
     go_roundw
     case measure=>first | (simp [intOf];done) | (simp [intOf];omega)
     case rel=>exact ⟨i,ps ++ [(.mk t1.kind ⟨#[65]⟩ t1.leads t1.kids)],us ++ [(⟨u1.kind,⟨#[65]⟩,u1.la,u1.ll,u1.lc,u1.ka,u1.kl,u1.kc⟩:TV)],some ⟨g,0,none⟩,cap,by go_num,by rw [xB];rfl,by rw [xB,List.length_singleton];have:=HJ.out;omega,HP.out.next HR8.out HD8.out HT8.out HG.out rfl HO9.out HG9.out HA9.out,HN9.out⟩
   ·have hr2:decide (r = 7) = false:=decide_eq_false hr
    have hr3:(r == 7) = false:=by simpa using hr
    have HT7:=hQ (TrAt.move (S':=fun b=>wr.heap.size ≤ b ∧ b < w6.heap.size) (fun b hb=>⟨hb.1,Nat.lt_trans hb.2 HS6.out⟩) (fun _ _ _=>rfl) _ _ HT6.out)
    have HL7:=HL6
    have HD7:=HD6
    have HR7:=HR6
    have HNB7:=HN6
    have HK7:=HK1
    have HY7:=HY1
    have HZ7:=HZ1
    go_wp2_with fail
    go_at_call 63
    refine (valid_tiny _ t1 u1 w6 HT7.out HY7.out HZ7.out).mono ?_
    rintro e w8 ⟨rfl,hb8⟩
    have HR8:=hQ (HR7.out.trans (Rest1.below hb8))
    have HD8:=hQ (HD7.out.keep hb8)
    have HL8:=hQ ((hb8.block w5.heap.size (Qaa HL7.out)).trans HL7.out)
    have HN8:=hQ ((hb8.block NBK (Qaa HNB7.out)).trans HNB7.out)
    have HT8:=hQ (TrAt.move (S':=fun b=>wr.heap.size ≤ b ∧ b < w8.heap.size) (fun b hb=>⟨hb.1,xE hb.2 hb8.size⟩) (fun b _ hl=>hb8.block b hl) _ _ HT7.out)
    clear hb8 y0 y1 y2 y3 yl yf
    cases hv:Qf9 t1 with
    | false =>
     have HV:=hQ hv
     clear hv
     go_wp2
     go_roundw
     case measure=>first | (simp [intOf];done) | (simp [intOf];omega)
     case rel=>exact ⟨i,ps,us,A,c,by go_num,rfl,by have:=HJ.out;omega,HP.out.keep HR8.out HD8.out,HN8.out⟩
    | true =>
     have HG:=hQ (good_of hv HY7.out HZ7.out HK7.out)
     clear hv
     have y0:w8.cell? ⟨w5.heap.size,0,none⟩ = some (.int .i64 u1.kind):=Qab HL8.out 0 _ rfl
     have y1:w8.cell? ⟨w5.heap.size,1,none⟩ = some (.string u1.text):=Qab HL8.out 1 _ rfl
     have y2:w8.cell? ⟨w5.heap.size,2,none⟩ = some (.slice u1.la u1.ll u1.lc):=Qab HL8.out 2 _ rfl
     have y3:w8.cell? ⟨w5.heap.size,3,none⟩ = some (.slice u1.ka u1.kl u1.kc):=Qab HL8.out 3 _ rfl
     have yl:w5.heap.size < w8.heap.size:=Qaa HL8.out
     have yf:∀ o,w8.frozen? ⟨w5.heap.size,o,none⟩ = false:=fun o=>Lib.frozen_of_heap HL8.out _
     have HB1:=hQ (show ps.length + 1 ≤ maxLen from by have:=HJ.out;unfold maxLen;omega)
     have HB2:=hQ (show (ps.length + 1) * 72 ≤ 140737488355328 from by have:=HJ.out;omega)
     have HO8:=hQ (Qdk HP.out.row HR8.out (Nat.lt_succ_self _))
     have HNW:=hQ (World.news_of_block (cs:=(Qag [(u1:TV)]).toArray) (t:=25) (fr:=(0,0)) (xH w8 (.cells (Qag [(u1:TV)]).toArray 25)))
     have HON:=hQ (Qdh [(u1:TV)])
     have HSZ:=hQ (show B + 1 ≤ (w8.alloc (.cells (Qag [(u1:TV)]).toArray 25)).heap.size from by rw [xI];have:=HD8.out.lt;omega)
     go_wp2_with (at_builtin;refine wpList_append_lies _ rfl _ _ 23 rfl (B + 1) 25 it _ 4 72 Tryz.underlying23 hit ht0 ht1 ht2 rfl (by decide) (.slice A ps.length c) ps.length (Qag us) rfl (HO8.out.alloc _) ⟨w8.heap.size,0,none⟩ 1 1 (Qag [(u1:TV)]) rfl rfl HNW.out HON.out (by decide) HB1.out HB2.out HSZ.out (w8.heap.size + 1) (xI _ _) ?_;intro g cap w9 hown hgr hat hlt9;have HO9:=hQ hown;have HG9:=hQ hgr;have HA9:=hQ hat;have HN9:=hQ (Qfm HN8.out hgr (mk_row_ne HP.out.row HNB3.out));clear hown hgr hat hlt9 y0 y1 y2 y3 yl yf)
     go_roundw
     case measure=>first | (simp [intOf];done) | (simp [intOf];omega)
     case rel=>exact ⟨i,ps ++ [t1],us ++ [u1],some ⟨g,0,none⟩,cap,by go_num,by rw [xB];rfl,by rw [xB,List.length_singleton];have:=HJ.out;omega,HP.out.next HR8.out HD8.out HT8.out HG.out rfl HO9.out HG9.out HA9.out,HN9.out⟩
end Go.Proofs.YtnnfdbmanamfdaaGreat
namespace Go.Proofs.YtnnfdbmanamfdaaGreat
open Go.RowKit
theorem good_size:(ps:List Tr) → (∀ t ∈ ps,GoodT t) → Qap ps ≤ 352 * ps.length
 | [],_=>by rw [Qap];simp
 | t :: r,h=>by
  rw [Qap,xD]
  have h1:=(h t (by simp)).2.2.1
  have h2:=good_size r (fun u hu=>h u (by simp [hu]))
  omega
theorem good_tiny:(ps:List Tr) → (∀ t ∈ ps,GoodT t) → Qbh ps = true
 | [],_=>rfl
 | t :: r,h=>by
  rw [Qbh,(h t (by simp)).2.1,good_tiny r (fun u hu=>h u (by simp [hu]))]
  rfl
theorem root_cnt {ps:List Tr} (h3:ps.length ≤ 3) (hg:∀ t ∈ ps,GoodT t):cntT (Qbx ps) ≤ 70000:=by
 have h1:Qfk (Qbx ps) = true:=Qcb.2 ⟨by decide,by simp,by simp,good_tiny ps hg⟩
 have h2:=tiny_cnt _ h1
 have h4:Qan (Qbx ps) = 1 + Qap ps:=by unfold Qbx;rw [Qan] <;> omega
 have h5:=good_size ps hg
 have h6:352 * ps.length ≤ 352 * 3:=Nat.mul_le_mul_left _ h3
 omega
theorem root_at {lo c:Nat} {A:Option Addr} {w:World} {ps:List Tr} {us:List TV} (hc:ps.length ≤ c) (hlen:us.length = ps.length)
  (hrow:ps ≠ [] → ∃ g cs,A = some ⟨g,0,none⟩ ∧ lo ≤ g ∧ w.heap[g]? = some (.cells cs 25 (0,0)) ∧ RowIs cs us)
  (hat:∀ (i:Nat) (k:Tr) (u:TV),ps[i]? = some k → us[i]? = some u → TrAt (fun b=>lo ≤ b ∧ b < w.heap.size) w k u) :
  TrAt (fun b=>lo ≤ b ∧ b < w.heap.size) w (Qbx ps) ⟨0,⟨#[]⟩,none,0,0,A,ps.length,c⟩:=by
 refine TrAt.make rfl rfl rfl rfl (fun h=>absurd rfl h) (fun h0=>?_) ⟨xA _,hc⟩
 obtain ⟨g,cs,hA,hg,hh,hr⟩:=hrow h0
 refine ⟨g,0,hA,⟨hg,Qaa hh⟩,TrsAt.of _ 0 fun i t ht=>?_⟩
 have hi:i < us.length:=by rw [hlen];exact (List.getElem?_eq_some_iff.1 ht).1
 obtain ⟨u,hu⟩:∃ u,us[i]? = some u:=⟨_,xF hi⟩
 obtain ⟨r0,r1,r2,r3⟩:=hr i u hu
 refine ⟨u,?_,?_,?_,?_,hat i t u ht hu⟩
 ·rw [show 0 + i * 4 = i * 4 from by omega];exact Qab hh _ _ r0
 ·rw [show 0 + i * 4 + 1 = i * 4 + 1 from by omega];exact Qab hh _ _ r1
 ·rw [show 0 + i * 4 + 2 = i * 4 + 2 from by omega];exact Qab hh _ _ r2
 ·rw [show 0 + i * 4 + 3 = i * 4 + 3 from by omega];exact Qab hh _ _ r3
end Go.Proofs.YtnnfdbmanamfdaaGreat
namespace Go.Proofs.YtnnfdbmanamfdaaGreat
open Go.RowKit Go.Shelf
def lnkSA:ByteArray:=⟨#[109,111,100,117,108,101,32,65,32,100,101,102,32,102,40,41,58,32,73,110,116,32,61,32,66,46,103,40,102,40,41,41]⟩
def lnkSB:ByteArray:=⟨#[109,111,100,117,108,101,32,66,32,100,101,102,32,103,40,120,58,32,73,110,116,41,58,32,73,110,116,32,61,32,102,40,41]⟩
def lnkTA:Tr:=((Qgy 200 lnkSA).getD (noTr,0,0)).1
def lnkTB:Tr:=((Qgy 200 lnkSB).getD (noTr,0,0)).1
theorem lnk_pa:Qgy 200 lnkSA = some (lnkTA,0,0):=by kernel_rfl
theorem lnk_pb:Qgy 200 lnkSB = some (lnkTB,0,0):=by kernel_rfl
theorem lnk_fit:fitT (Qbx [lnkTA,lnkTB]) = true:=by kernel_rfl
theorem lnk_small:Qcn (Qbx [lnkTA,lnkTB]) = true:=by kernel_rfl
theorem lnk_words:Qdb (Qbx [lnkTA,lnkTB]) = true:=by kernel_rfl
theorem lnk_size:Qap [lnkTA,lnkTB] = 12:=by kernel_rfl
theorem lnk_tgts:Qgp [lnkTA,lnkTB] = [(0,[0,1],1,0,false),(0,[0,1,0,0],0,0,false),(1,[0,2],0,0,true)]:=by kernel_rfl
theorem lnk_all:∃ a b:Tr,Qgy 200 ⟨#[109,111,100,117,108,101,32,65,32,100,101,102,32,102,40,41,58,32,73,110,116,32,61,32,66,46,103,40,102,40,41,41]⟩ = some (a,0,0) ∧ Qgy 200 ⟨#[109,111,100,117,108,101,32,66,32,100,101,102,32,103,40,120,58,32,73,110,116,41,58,32,73,110,116,32,61,32,102,40,41]⟩ = some (b,0,0) ∧ fitT (Qbx [a,b]) = true ∧ Qcn (Qbx [a,b]) = true ∧ Qdb (Qbx [a,b]) = true ∧ Qap [a,b] ≤ 90000 ∧ Qgp [a,b] = [(0,[0,1],1,0,false),(0,[0,1,0,0],0,0,false),(1,[0,2],0,0,true)] :=
 ⟨lnkTA,lnkTB,lnk_pa,lnk_pb,lnk_fit,lnk_small,lnk_words,by rw [lnk_size];decide,lnk_tgts⟩
theorem PlsAt.slice {w:World} {B:Nat} {v:Value} {zs:List (Int × List Int)} (h:PlsAt w B v zs):∃ A c,v = .slice A zs.length c:=by
 obtain ⟨us,h1,h2,_⟩:=h
 obtain ⟨A,c,h⟩:=Qeq h1
 exact ⟨A,c,by rw [h,h2]⟩
theorem root_two {w:World} {a b:Tr} {va vb:TV} {S S':Nat → Prop} {g:Nat} (ha:TrAt S w a va) (hb:TrAt S' w b vb) (hS:∀ k,S k → k < w.heap.size) (hS':∀ k,S' k → k < w.heap.size)
  (hh:w.heap[g]? = some (.cells #[.int .i64 va.kind,.string va.text,.slice va.la va.ll va.lc,.slice va.ka va.kl va.kc,.int .i64 vb.kind,.string vb.text,.slice vb.la vb.ll vb.lc,.slice vb.ka vb.kl vb.kc] 25 (0,0))) :
  TrAt (fun b=>0 ≤ b ∧ b < w.heap.size) w (Qbx [a,b]) ⟨0,⟨#[]⟩,none,0,0,some ⟨g,0,none⟩,2,2⟩:=by
 refine root_at (ps:=[a,b]) (us:=[va,vb]) (xA _) rfl (fun _=>⟨g,_,rfl,Nat.zero_le _,hh,fun i v hv=>?_⟩) (fun i k u hk hu=>?_)
 ·match i,hv with
  | 0,hv =>
   injection hv with hv
   subst hv
   exact ⟨rfl,rfl,rfl,rfl⟩
  | 1,hv =>
   injection hv with hv
   subst hv
   exact ⟨rfl,rfl,rfl,rfl⟩
  | i + 2,hv=>simp at hv
 ·match i,hk,hu with
  | 0,hk,hu =>
   injection hk with hk
   injection hu with hu
   subst hk hu
   exact TrAt.move (fun k h=>⟨Nat.zero_le _,hS k h⟩) (fun _ _ _=>rfl) _ _ ha
  | 1,hk,hu =>
   injection hk with hk
   injection hu with hu
   subst hk hu
   exact TrAt.move (fun k h=>⟨Nat.zero_le _,hS' k h⟩) (fun _ _ _=>rfl) _ _ hb
  | i + 2,hk,_=>simp at hk
theorem awake_lnk (w:World):Calls Tryz.prog 31 #[] w fun e w'=>e = .returned (.bool true) ∧ Below w.heap.size w w':=by
 obtain ⟨a,b,hpa,hpb,hf,hs,hw,hz,htg⟩:=lnk_all
 have HPA:=hQ hpa
 have HPB:=hQ hpb
 have HF:=hQ hf
 have HS:=hQ hs
 have HW:=hQ hw
 have HZ:=hQ hz
 have HTG:=hQ htg
 have HSA:=hQ (show (⟨#[109,111,100,117,108,101,32,65,32,100,101,102,32,102,40,41,58,32,73,110,116,32,61,32,66,46,103,40,102,40,41,41]⟩:ByteArray).size ≤ maxLen from Nat.le_of_ble_eq_true rfl)
 have HSB:=hQ (show (⟨#[109,111,100,117,108,101,32,66,32,100,101,102,32,103,40,120,58,32,73,110,116,41,58,32,73,110,116,32,61,32,102,40,41]⟩:ByteArray).size ≤ maxLen from Nat.le_of_ble_eq_true rfl)
 clear hpa hpb hf hs hw hz htg
 go_enter Tryz.func31,Tryz.ntmps31
 go_wp2_with fail
 go_at_call 41
 refine (parse_syn (n:=200) (Nat.le_of_ble_eq_true rfl) _ HSA.out HPA.out).mono ?_
 rintro e w1 ⟨va,rfl,hta,hb1⟩
 obtain ⟨ak,ax,ala,all',alc,aka,akl,akc⟩:=va
 have HTA:=hQ hta
 have HB1:=hQ hb1
 have HBA:=hQ (Qcu w1 (trO ⟨ak,ax,ala,all',alc,aka,akl,akc⟩))
 have HXA:=hQ (xH w1 (trO ⟨ak,ax,ala,all',alc,aka,akl,akc⟩))
 clear hta hb1
 go_wp2_with fail
 go_at_call 41
 refine (parse_syn (n:=200) (Nat.le_of_ble_eq_true rfl) _ HSB.out HPB.out).mono ?_
 rintro e w2 ⟨vb,rfl,htb,hb2⟩
 obtain ⟨bk,bx,bla,bll,blc,bka,bkl,bkc⟩:=vb
 have HTB:=hQ htb
 have HB2:=hQ hb2
 have HXA2:=hQ ((hb2.block _ (Qaa HXA.out)).trans HXA.out)
 have HB12:=hQ (HBA.out.trans (hb2.mono HBA.out.size))
 have a0:w2.cell? ⟨w1.heap.size,0,none⟩ = some (.int .i64 ak):=Qab HXA2.out 0 _ rfl
 have a1:w2.cell? ⟨w1.heap.size,1,none⟩ = some (.string ax):=Qab HXA2.out 1 _ rfl
 have a2:w2.cell? ⟨w1.heap.size,2,none⟩ = some (.slice ala all' alc):=Qab HXA2.out 2 _ rfl
 have a3:w2.cell? ⟨w1.heap.size,3,none⟩ = some (.slice aka akl akc):=Qab HXA2.out 3 _ rfl
 have al:=Qaa HXA2.out
 clear htb hb2
 go_wp2_with fail
 go_at_call 34
 obtain ⟨W3,hW3⟩:∃ W3,W3 = (w2.alloc (.cells #[.int .i64 bk,.string bx,.slice bla bll blc,.slice bka bkl bkc] 25)).alloc (.cells #[.int .i64 ak,.string ax,.slice ala all' alc,.slice aka akl akc,.int .i64 bk,.string bx,.slice bla bll blc,.slice bka bkl bkc] 25):=⟨_,rfl⟩
 rw [← hW3]
 have hrow3:W3.heap[w2.heap.size + 1]? = some (.cells #[.int .i64 ak,.string ax,.slice ala all' alc,.slice aka akl akc,.int .i64 bk,.string bx,.slice bla bll blc,.slice bka bkl bkc] 25 (0,0)):=by rw [hW3];exact (tgt_boxes w2 _ _).2
 have hxb3:W3.heap[w2.heap.size]? = some (trO ⟨bk,bx,bla,bll,blc,bka,bkl,bkc⟩):=by rw [hW3];exact (tgt_boxes w2 _ _).1
 have hb3:Below w2.heap.size w2 W3:=by rw [hW3];exact tgt_below w2 _ _
 have HB3:=hQ hb3
 have HXB3:=hQ hxb3
 have HXA3:=hQ ((hb3.block _ (Qaa HXA2.out)).trans HXA2.out)
 have HTA3:=hQ (HTA.out.keep (HB12.out.trans (hb3.mono HB12.out.size)))
 have HTB3:=hQ (HTB.out.keep hb3)
 have HLA:=hQ (show ∀ k,(w.heap.size ≤ k ∧ k < w1.heap.size) → k < W3.heap.size from fun k h=>xE h.2 (Nat.le_trans HB12.out.size hb3.size))
 have HLB:=hQ (show ∀ k,((w1.alloc (trO ⟨ak,ax,ala,all',alc,aka,akl,akc⟩)).heap.size ≤ k ∧ k < w2.heap.size) → k < W3.heap.size from fun k h=>xE h.2 hb3.size)
 have HR3:=hQ (root_two HTA3.out HTB3.out HLA.out HLB.out hrow3)
 clear hrow3 hxb3 hb3 hW3 a0 a1 a2 a3 al
 refine (targets_lnk _ (some ⟨w2.heap.size + 1,0,none⟩) 2 [a,b] W3 HR3.out HF.out HS.out HW.out HZ.out).mono ?_
 rintro e w4 ⟨v4,rfl,ht4,hb4⟩
 have HB4:=hQ hb4
 rw [HTG.out] at ht4
 obtain ⟨TA,tc,rfl⟩:=ht4.slice
 obtain ⟨_,g,pv0,hTA,_,gl,_,_,c2,_,c4,_⟩:=ht4.at (j:=0) rfl
 subst hTA
 obtain ⟨_,g',pv2,hTA',_,_,_,_,_,_,d4,_⟩:=ht4.at (j:=2) rfl
 injection hTA' with hTA'
 injection hTA' with hTA'
 subst hTA'
 have xa4:=(hb4.block _ (Qaa HXA3.out)).trans HXA3.out
 have xb4:=(hb4.block _ (Qaa HXB3.out)).trans HXB3.out
 have a0:w4.cell? ⟨w1.heap.size,0,none⟩ = some (.int .i64 ak):=Qab xa4 0 _ rfl
 have a1:w4.cell? ⟨w1.heap.size,1,none⟩ = some (.string ax):=Qab xa4 1 _ rfl
 have a2:w4.cell? ⟨w1.heap.size,2,none⟩ = some (.slice ala all' alc):=Qab xa4 2 _ rfl
 have a3:w4.cell? ⟨w1.heap.size,3,none⟩ = some (.slice aka akl akc):=Qab xa4 3 _ rfl
 have b0:w4.cell? ⟨w2.heap.size,0,none⟩ = some (.int .i64 bk):=Qab xb4 0 _ rfl
 have b1:w4.cell? ⟨w2.heap.size,1,none⟩ = some (.string bx):=Qab xb4 1 _ rfl
 have b2:w4.cell? ⟨w2.heap.size,2,none⟩ = some (.slice bla bll blc):=Qab xb4 2 _ rfl
 have b3:w4.cell? ⟨w2.heap.size,3,none⟩ = some (.slice bka bkl bkc):=Qab xb4 3 _ rfl
 have al:=Qaa xa4
 have bl':=Qaa xb4
 simp only [Nat.zero_mul,Nat.zero_add,xD,xG] at c2 c4 d4 ⊢
 clear ht4 hb4 xa4 xb4
 go_wp2_with fail
 go_at_call 38
 have hb5:=Qcu w4 (.cells #[.int .i64 ak,.string ax,.slice ala all' alc,.slice aka akl akc,.int .i64 bk,.string bx,.slice bla bll blc,.slice bka bkl bkc] 25)
 have HB5:=hQ hb5
 have HB45:=hQ (show Below W3.heap.size W3 (w4.alloc (.cells #[.int .i64 ak,.string ax,.slice ala all' alc,.slice aka akl akc,.int .i64 bk,.string bx,.slice bla bll blc,.slice bka bkl bkc] 25)) from HB4.out.trans (hb5.mono HB4.out.size))
 have HR5:=hQ (root_two (HTA3.out.keep HB45.out) (HTB3.out.keep HB45.out) (fun k h=>xE (HLA.out k h) HB45.out.size) (fun k h=>xE (HLB.out k h) HB45.out.size) (xH w4 (.cells #[.int .i64 ak,.string ax,.slice ala all' alc,.slice aka akl akc,.int .i64 bk,.string bx,.slice bla bll blc,.slice bka bkl bkc] 25)))
 clear hb5
 refine (uses_lnk _ (some ⟨w4.heap.size,0,none⟩) 2 [a,b] 0 0 _ HR5.out HF.out HS.out HW.out HZ.out).mono ?_
 rintro e w6 ⟨v6,rfl,hp6,hb6⟩
 rw [HTG.out] at hp6
 obtain ⟨UA,uc,rfl⟩:=hp6.slice
 rw [show (usesP 0 0 [(0,[0,1],1,0,false),(0,[0,1,0,0],0,0,false),(1,[0,2],0,0,true)]).length = 1 from rfl]
 have HEND:=hQ (show Below w.heap.size w w6 from (HB1.out.trans (HB12.out.mono HB1.out.size)).trans ((HB3.out.trans ((HB45.out.trans (hb6.mono HB45.out.size)).mono HB3.out.size)).mono (Nat.le_trans HB1.out.size HB12.out.size)))
 clear hp6 hb6
 go_wp2
 go_ret
 exact ⟨rfl,HEND.out⟩
end Go.Proofs.YtnnfdbmanamfdaaGreat
namespace Go.Proofs.YtnnfdbmanamfdaaGreat
open Go.RowKit
def nineW:List ByteArray:=[⟨#[102]⟩,⟨#[103]⟩,⟨#[84]⟩,⟨#[65,46,102]⟩,⟨#[66,46,103]⟩,⟨#[66,46,85]⟩,⟨#[67,46,102]⟩,⟨#[65,46,84]⟩,⟨#[120]⟩]
theorem nine_small {k:Nat} {y:ByteArray} (h:nineW[k]? = some y):y.size ≤ maxLen:=by
 have h1:∀ z ∈ nineW,z.size ≤ 3:=by decide
 have:=h1 y (List.mem_of_getElem? h)
 unfold maxLen
 omega
theorem nine_cell {w:World} {b:Nat} (h:w.heap[b]? = some (.cells (nineW.map Value.string).toArray 53 (0,0))) {k:Nat} {y:ByteArray} (hy:nineW[k]? = some y):w.cell? ⟨b,k,none⟩ = some (.string y):=by
 refine Qab h k _ ?_
 rw [List.getElem?_toArray,List.getElem?_map,hy]
 rfl
theorem light_mak (A:Option Addr) (n c:Nat) (w:World):Calls Tryz.prog 25 #[.slice A n c] w fun e w'=>e = .returned (.bool (decide (n ≤ 120))) ∧ w' = w:=by
 have h:(decide ((n:Int) ≤ 120)) = decide (n ≤ 120):=by simp;omega
 go_enter Tryz.func25,Tryz.ntmps25
 go_wp2
 go_ret
 first | exact ⟨rfl,rfl⟩ | (rw [← h];exact ⟨rfl,rfl⟩) | (simp;done) | (simp;omega)
theorem linkWords_walk (HA:∀ w:World,Calls Tryz.prog 31 #[] w fun e w'=>e = .returned (.bool true) ∧ Below w.heap.size w w') (A:Option Addr) (c:Nat) (xs:List Int) (w:World) (hx:IntsAt w A xs) :
  Calls Tryz.prog 9 #[.slice A xs.length c] w fun e w'=>e = .returned (.bool true) ∧ Below w.heap.size w w':=by
 have HA':=hQ HA
 clear HA
 by_cases hl:xs.length ≤ 120
 ·have d0:=decide_eq_true hl
  have HP:=hQ (program_any A c xs w hx hl)
  clear hx hl
  go_enter Tryz.func9,Tryz.ntmps9
  go_wp2_with (first | (go_at_call 25;refine (light_mak _ _ _ _).mono ?_;rintro e w0 ⟨rfl,h0⟩;rw [h0];clear h0 w0) | fail)
  go_at_call 32
  refine HP.out.mono ?_
  rintro e w1 ⟨r,ps,rfl,hm,hlen,hgood,hb⟩
  obtain ⟨A1,c1,us,rfl,hc1,hus,hrow,hat⟩:=hm
  have HM:=hQ hrow
  have HT:=hQ hat
  have HG:=hQ hgood
  have HB:=hQ hb
  have hcnt:=root_cnt hlen hgood
  have hfit:=fit_cnt _ (show cntT (Qbx ps) ≤ 1048576 from by omega)
  have HR:=hQ (root_at hc1 hus hrow hat)
  have HF:=hQ hfit
  have HS:=hQ (small_cnt _ (show cntT (Qbx ps) ≤ 1048576 from by omega))
  have HW:=hQ (words_cnt _ (show cntT (Qbx ps) ≤ 1048576 from by omega))
  have HZ:=hQ (fun t ht=>Nat.le_trans (hgood t ht).2.2.1 (show 352 ≤ 1000 from by decide))
  clear hrow hat hgood hb hcnt hfit HM HT HG
  have hnl:(ps.length:Int) ≤ 3:=by omega
  go_wp2_with fail
  generalize hWA:w1.alloc _ = WA
  have HK:=hQ (show WA.heap[w1.heap.size]? = some (.cells (nineW.map Value.string).toArray 53 (0,0)) from hWA ▸ xH w1 _)
  have HBA:=hQ (show Below w.heap.size w WA from hWA ▸ HB.out.trans (((xC w1.heap.size w1).alloc (xA _) _).mono HB.out.size))
  have HB1A:=hQ (show Below w1.heap.size w1 WA from hWA ▸ (xC w1.heap.size w1).alloc (xA _) _)
  have HRA:=hQ (HR.out.keep HB1A.out)
  clear hWA
  go_loopw [5] (fun i wr=>∃ z:Int,i = .int .i64 z ∧ -1 ≤ z ∧ z ≤ (ps.length:Int) + 1 ∧ Below WA.heap.size WA wr) (fun i _=>((ps.length:Int) + 1 - intOf i).toNat)
  case atStart=>exact ⟨-1,rfl,by omega,by omega,xC _ _⟩
  case round =>
   obtain ⟨z,rfl,hz1,hz2,hb⟩:=hrel
   obtain ⟨wo,hwo⟩:∃ w',w' = wr:=⟨_,rfl⟩
   subst hwo
   have HBR:=hQ hb
   clear hb
   by_cases hlt:z ≤ (ps.length:Int)
   ·have d1:=decide_eq_true hlt
    go_wp2
    go_loopw [6] (fun i wq=>∃ k:Nat,i = .int .i64 k ∧ k ≤ 9 ∧ Below WA.heap.size WA wq) (fun i _=>9 - (intOf i).toNat)
    case atStart=>exact ⟨0,rfl,Nat.zero_le _,HBR.out⟩
    case round =>
     obtain ⟨k,rfl,hk,hb⟩:=hrel
     have HBQ:=hQ hb
     clear hb
     by_cases hkl:k < 9
     ·obtain ⟨y,hy⟩:∃ y,nineW[k]? = some y:=⟨_,xF (show k < nineW.length from hkl)⟩
      have cy:wr.cell? ⟨w1.heap.size,k,none⟩ = some (.string y):=nine_cell ((HBQ.out.block _ (Qaa HK.out)).trans HK.out) hy
      have HY:=hQ (nine_small hy)
      have HCY:=hQ (fun (w':World) (hb:Below WA.heap.size WA w')=>nine_cell ((hb.block _ (Qaa HK.out)).trans HK.out) hy)
      have el:w1.heap.size < wr.heap.size:=xK wr _ cy
      have hk0:(0:Int) ≤ (k:Int):=by omega
      have hk1:(k:Int) < 9:=by omega
      have hk2:(k:Int) + 1 ≤ 10:=by omega
      obtain ⟨r0,hr0⟩:∃ r,r = Qc1 ps z y:=⟨_,rfl⟩
      have HL:=hQ (fun w' (hb:Below WA.heap.size WA w')=>lookup_lnk _ A1 c1 ps z y w' (HRA.out.keep hb) HF.out HS.out HW.out HY.out)
      have HQ:=hQ (fun w' (hb:Below WA.heap.size WA w')=>lookup_r06 _ A1 c1 ps z y w' (HRA.out.keep hb) HF.out HS.out HZ.out HW.out HY.out)
      rw [← hr0] at HL HQ
      clear hr0 hy
      go_wp2_with (first
       | (go_at_call 36;refine (HL.out _ HBQ.out).mono ?_;rintro e w2 ⟨rfl,hb⟩;have HB2:=hQ (HBQ.out.trans (hb.mono HBQ.out.size));clear hb;have cy2:=HCY.out _ HB2.out;have el2:=xK w2 _ cy2)
       | (go_at_call 37;refine (HQ.out _ HB2.out).mono ?_;rintro e w3 ⟨rfl,hb⟩;have HB3:=hQ (HB2.out.trans (hb.mono HB2.out.size));clear hb))
      go_roundw
      case measure=>first | (simp [intOf];done) | (simp [intOf];omega)
      case rel=>exact ⟨k + 1,by go_num,by omega,HB3.out⟩
     ·obtain rfl:k = 9:=by omega
      have hz3:z + 1 ≤ 4:=by omega
      go_wp2
      refine ⟨⟨z + 1,rfl,by omega,by omega,HBQ.out⟩,?_⟩
      show ((ps.length:Int) + 1 - (z + 1)).toNat < ((ps.length:Int) + 1 - z).toNat
      omega
   ·have d1:=decide_eq_false hlt
    go_wp2_with (go_at_call 31;refine (HA'.out _).mono ?_;rintro e w4 ⟨rfl,hb⟩;have HB4:=hQ (HBR.out.trans (hb.mono HBR.out.size));clear hb)
    go_ret
    exact ⟨rfl,HBA.out.trans (HB4.out.mono HBA.out.size)⟩
 ·have d0:=decide_eq_false hl
  clear hx hl
  go_enter Tryz.func9,Tryz.ntmps9
  go_wp2_with (first | (go_at_call 25;refine (light_mak _ _ _ _).mono ?_;rintro e w0 ⟨rfl,h0⟩;rw [h0];clear h0 w0) | (go_at_call 31;refine (HA'.out _).mono ?_;rintro e w1 ⟨rfl,hb⟩;have HB:=hQ hb;clear hb))
  go_ret
  exact ⟨rfl,HB.out⟩
theorem linkTargets_walk (A:Option Addr) (c:Nat) (xs:List Int) (w:World) (hx:IntsAt w A xs) :
  Calls Tryz.prog 8 #[.slice A xs.length c] w fun e w'=>e = .returned (.bool true) ∧ Below w.heap.size w w':=by
 by_cases hl:xs.length ≤ 120
 ·have d0:=decide_eq_true hl
  have HP:=hQ (program_any A c xs w hx hl)
  clear hx hl
  go_enter Tryz.func8,Tryz.ntmps8
  go_wp2_with (first | (go_at_call 25;refine (light_mak _ _ _ _).mono ?_;rintro e w0 ⟨rfl,h0⟩;rw [h0];clear h0 w0) | fail)
  go_at_call 32
  refine HP.out.mono ?_
  rintro e w1 ⟨r,ps,rfl,hm,hlen,hgood,hb⟩
  obtain ⟨A1,c1,us,rfl,hc1,hus,hrow,hat⟩:=hm
  have HB:=hQ hb
  have hcnt:=root_cnt hlen hgood
  have HR:=hQ (root_at hc1 hus hrow hat)
  have HF:=hQ (fit_cnt _ (show cntT (Qbx ps) ≤ 1048576 from by omega))
  have HS:=hQ (small_cnt _ (show cntT (Qbx ps) ≤ 1048576 from by omega))
  have HW:=hQ (words_cnt _ (show cntT (Qbx ps) ≤ 1048576 from by omega))
  have HZ:=hQ (fun t ht=>Nat.le_trans (hgood t ht).2.2.1 (show 352 ≤ 1000 from by decide))
  have HZL:=hQ (show Qap ps ≤ 90000 from by
   have h1:=good_size ps hgood
   have h2:352 * ps.length ≤ 352 * 3:=Nat.mul_le_mul_left _ hlen
   omega)
  clear hrow hat hgood hb hcnt
  go_wp2_with (first
   | (go_at_call 31;refine (awake_lnk _).mono ?_;rintro e w2 ⟨rfl,hb⟩;have HB2:=hQ hb;clear hb)
   | (go_at_call 34;refine (targets_lnk _ A1 c1 ps _ (HR.out.keep HB2.out) HF.out HS.out HW.out HZL.out).mono ?_;rintro e w3 ⟨v3,rfl,ht,hb⟩;obtain ⟨TA,tc,rfl⟩:=ht.slice;have HT3:=hQ ht;have HB3:=hQ (HB2.out.trans (hb.mono HB2.out.size));clear ht hb)
   | (go_at_call 35;refine (targets_r06 _ A1 c1 ps _ (HR.out.keep HB3.out) HF.out HS.out HW.out HZ.out HZL.out).mono ?_;rintro e w4 ⟨v4,rfl,ht,hb⟩;obtain ⟨RA,rc,rfl⟩:=ht.slice;have HT4:=hQ ht;have HT34:=hQ (HT3.out.keep hb);have HB4:=hQ (HB3.out.trans (hb.mono HB3.out.size));clear ht hb)
   | (go_at_call 33;refine (sametargets_any _ _ TA RA tc rc _ _ HT34.out HT4.out (Nat.le_trans (Nat.le_trans (tgtsG_len ps) HZL.out) (by decide)) (fun z hz=>Nat.le_trans (tgts_long hz HZL.out) (by decide))).mono ?_;rintro e w5 ⟨rfl,hb⟩;have HB5:=hQ (HB4.out.trans (hb.mono HB4.out.size));clear hb))
  go_ret
  exact ⟨rfl,HB.out.trans (HB5.out.mono HB.out.size)⟩
 ·have d0:=decide_eq_false hl
  clear hx hl
  go_enter Tryz.func8,Tryz.ntmps8
  go_wp2_with (first | (go_at_call 25;refine (light_mak _ _ _ _).mono ?_;rintro e w0 ⟨rfl,h0⟩;rw [h0];clear h0 w0) | (go_at_call 31;refine (awake_lnk _).mono ?_;rintro e w1 ⟨rfl,hb⟩;have HB:=hQ hb;clear hb))
  go_ret
  exact ⟨rfl,HB.out⟩
end Go.Proofs.YtnnfdbmanamfdaaGreat
