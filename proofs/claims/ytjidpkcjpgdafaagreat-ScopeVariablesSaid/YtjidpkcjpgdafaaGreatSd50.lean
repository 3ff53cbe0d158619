/- Part 50 -/
import Derived.Test.YtjidpkcjpgdafaaGreatSd49
set_option maxRecDepth 100000
set_option maxHeartbeats 4000000
namespace Go.Proofs.YtjidpkcjpgdafaaGreat
open Go.RowKit Go.Shelf
theorem Qrf {w:World} {B n k:Nat} {r:Value} {xs:List Value} {cs:Array Value} (h:w.ownsRow B 29 4 r n xs) (hk:w.heap[k]? = some (.cells cs 9 (0,0))):r.ownBlock≠some k:=fun e=>by
 rcases h.2 with ⟨rfl,_⟩|⟨g',cap,cur',rfl,_,hh,_⟩
 ·cases e
 ·injection e with e
  subst e
  rw [hk] at hh
  injection hh with hh
  injection hh with _ h2
  exact absurd h2 (by decide)
def PrL (B NBK:Nat) (w:World) (r k:Value) (wr:World):Prop:=∃ (j:Nat) (ps:List Tr) (us:List TV) (A:Option Addr) (c:Nat),k = .int .i64 j∧r = .slice A ps.length c∧j+ps.length≤3∧PrW B w wr ps us A c∧wr.heap[NBK]? = some (.cells #[.string ⟨#[65]⟩,.string ⟨#[66]⟩,.string ⟨#[67]⟩] 9 (0,0))
theorem Qs7 (A:Option Addr) (c:Nat) (xs:List Int) (w:World) (hx:IntsAt w A xs) (hl:xs.length≤120):Calls Tryz.prog 24 #[.slice A xs.length c] w (ProgP w):=by
 obtain ⟨it,hit,ht0,ht1,ht2⟩:=info_parts Qcp
 go_enter Tryz.func24,Tryz.ntmps24
 go_wp2_with fail
 go_at_call 29
 refine (Zdq A c xs w hx hl).mono ?_
 rintro e w1 ⟨B,rfl,hB,hd1,hb1⟩
 have HWB:=hQ hB
 have HD1:=hQ hd1
 have HB1:=hQ hb1
 have HWN:=hQ ((xC w1.heap.size w1).alloc (xA _) (.cells #[.string ⟨#[65]⟩,.string ⟨#[66]⟩,.string ⟨#[67]⟩] 9))
 have HNB:=hQ (xH w1 (.cells #[.string ⟨#[65]⟩,.string ⟨#[66]⟩,.string ⟨#[67]⟩] 9))
 have HDN:=hQ (HD1.out.keep HWN.out)
 clear hB hd1 hb1
 go_wp2_with fail
 go_at_call 61
 refine (Qb6 B 4 _ HDN.out (by decide) (by decide)).mono ?_
 rintro e w2 ⟨q,rfl,q0,q1,hrest,hd2⟩
 obtain ⟨NBK,hnbk⟩:∃ n,n=w1.heap.size:=⟨_,rfl⟩
 have HN2:=hQ (show w2.heap[w1.heap.size]? = some (.cells #[.string ⟨#[65]⟩,.string ⟨#[66]⟩,.string ⟨#[67]⟩] 9 (0,0)) from (hrest.block w1.heap.size (Qaa HNB.out) (by have:=HD1.out.lt;omega)).trans HNB.out)
 have HP2:=hQ (show PrW B w w2 [] [] none 0 from ⟨fun t h=>by simp at h,rfl,World.ownsRow_nil _ _ _ _,fun i k u h=>by simp at h,(HB1.out.trans (HWN.out.mono HB1.out.size)).trans (hrest.down HWB.out (by have:=HB1.out.size;have:=HWN.out.size;omega)),hd2,HWB.out⟩)
 have HNBK:=hQ hnbk
 rw [←hnbk] at HN2 ⊢
 clear hrest hd2 hnbk
 obtain ⟨q,rfl⟩:∃ z:Nat,q=(z:Int):=⟨q.toNat,by omega⟩
 go_wp2
 go_loopw [4,6] (fun r k wr=>PrL B NBK w r k wr) (fun _ k _=>(intOf k).toNat)
 case atStart=>exact ⟨q,[],[],none,0,rfl,rfl,by simp;omega,HP2.out,HN2.out⟩
 case round =>
  obtain ⟨j,ps,us,A,c,rfl,rfl,hj,hp,hnb⟩:=hrel
  have HJ:=hQ hj
  have HP:=hQ hp
  have HNB3:=hQ hnb
  cases j with
  | zero =>
   clear hj hp hnb
   go_wp2
   go_ret
   exact ⟨_,ps,rfl,HP.out.mods,by have:=HJ.out;omega,HP.out.good,HP.out.below⟩
  | succ i =>
   have hp1:(ps.length:Int)<3:=by omega
   have hp2:ps.length<3:=by omega
   have hp0:(0:Int)≤(ps.length:Int):=by omega
   obtain ⟨nm,hnm,hnc⟩:∃ nm:ByteArray,nm.size≤7∧wr.cell? ⟨NBK,ps.length,none⟩=some (.string nm):=by
    have h3:ps.length=0∨ps.length=1∨ps.length=2:=by omega
    rcases h3 with h | h | h
    ·exact ⟨⟨#[65]⟩,by decide,by rw [h];exact Qab hnb 0 _ rfl⟩
    ·exact ⟨⟨#[66]⟩,by decide,by rw [h];exact Qab hnb 1 _ rfl⟩
    ·exact ⟨⟨#[67]⟩,by decide,by rw [h];exact Qab hnb 2 _ rfl⟩
   have nbl:=Qaa hnb
   have hi0:(0:Int)≤(i:Int):=by omega
   have hi1:(i:Int)≤3:=by omega
   clear hj hp hnb
   go_wp2_with fail
   go_at_call 62
   refine (Qw5 B nm wr HP.out.dice hnm).mono ?_
   rintro e w5 ⟨t1,u1,rfl,ht,hz,hy,hrest,hd5,hk5⟩
   have HZ1:=hQ hz
   have HY1:=hQ hy
   have HK1:=hQ (show t1.kind=1∨t1.kind=0 from hk5)
   have HWL:=hQ ((xC w5.heap.size w5).alloc (xA _) (trO u1))
   have HR5:=hQ (hrest.trans (Rest1.below HWL.out))
   have HD5:=hQ (hd5.keep HWL.out)
   have HL5:=hQ (xH w5 (trO u1))
   have HN5:=hQ ((HWL.out.block NBK (xE nbl hrest.size)).trans ((hrest.block NBK nbl (by have h1:=HNBK.out;have h2:=HD1.out.lt;omega)).trans HNB3.out))
   have HT5:=hQ (TrAt.move (w':=w5.alloc (trO u1)) (S':=fun b=>wr.heap.size≤b∧b<w5.heap.size) (fun _ h=>h) (fun b hb _=>HWL.out.block b hb.2) _ _ ht)
   have HBL:=hQ HP.out.dice.lt
   have HSW:=hQ hrest.size
   clear ht hz hy hrest hd5 hk5 hnc nbl hnm
   go_wp2_with fail
   go_at_call 61
   refine (Qb6 B 8 _ HD5.out (by decide) (by decide)).mono ?_
   rintro e w6 ⟨r,rfl,r0,r1,hrest,hd6⟩
   have HR6:=hQ (HR5.out.trans hrest)
   have HD6:=hQ hd6
   have HL6:=hQ ((hrest.block w5.heap.size (Qaa HL5.out) (by have h1:=HBL.out;have h2:=HSW.out;omega)).trans HL5.out)
   have HN6:=hQ ((hrest.block NBK (Qaa HN5.out) (by have h1:=HNBK.out;have h2:=HD1.out.lt;omega)).trans HN5.out)
   have HT6:=hQ (TrAt.move (w':=w6) (S':=fun b=>wr.heap.size≤b∧b<w5.heap.size) (fun _ h=>h) (fun b hb hl=>hrest.block b hl (by have h1:=HBL.out;omega)) _ _ HT5.out)
   have HS6:=hQ (show w5.heap.size<w6.heap.size from Qaa HL6.out)
   clear hrest hd6
   have y0:w6.cell? ⟨w5.heap.size,0,none⟩=some (.int .i64 u1.kind):=Qab HL6.out 0 _ rfl
   have y1:w6.cell? ⟨w5.heap.size,1,none⟩=some (.string u1.text):=Qab HL6.out 1 _ rfl
   have y2:w6.cell? ⟨w5.heap.size,2,none⟩=some (.slice u1.la u1.ll u1.lc):=Qab HL6.out 2 _ rfl
   have y3:w6.cell? ⟨w5.heap.size,3,none⟩=some (.slice u1.ka u1.kl u1.kc):=Qab HL6.out 3 _ rfl
   have yl:w5.heap.size<w6.heap.size:=Qaa HL6.out
   have yf:∀ o,w6.frozen? ⟨w5.heap.size,o,none⟩=false:=fun o=>xL HL6.out _
   by_cases hr:r=7
   ·subst hr
    have kL:(w6.setCell ⟨w5.heap.size,1,none⟩ (.string ⟨#[65]⟩)).heap[w5.heap.size]? = some (trO (⟨u1.kind,⟨#[65]⟩,u1.la,u1.ll,u1.lc,u1.ka,u1.kl,u1.kc⟩:TV)):=Qa2 HL6.out rfl
    have kD:DiceAt B (w6.setCell ⟨w5.heap.size,1,none⟩ (.string ⟨#[65]⟩)):=HD6.out.other fun k hk=>Qav (by have h1:=HBL.out;have h2:=HSW.out;omega)
    have kR:Rest1 B wr (w6.setCell ⟨w5.heap.size,1,none⟩ (.string ⟨#[65]⟩)):=⟨HR6.out.os,HR6.out.tape,HR6.out.output,by have:=HR6.out.size;simpa [World.setCell] using this,fun k hk hne=>(Qav (by have h2:=HSW.out;omega)).trans (HR6.out.block k hk hne)⟩
    have kN:(w6.setCell ⟨w5.heap.size,1,none⟩ (.string ⟨#[65]⟩)).heap[NBK]? = some (.cells #[.string ⟨#[65]⟩,.string ⟨#[66]⟩,.string ⟨#[67]⟩] 9 (0,0)):=(Qav (fun e=>by have h1:=HL6.out;rw [←e,HN6.out] at h1;injection h1 with h1;injection h1 with _ h2;exact absurd h2 (by decide))).trans HN6.out
    have kT:TrAt (fun b=>wr.heap.size≤b∧b<(w6.setCell ⟨w5.heap.size,1,none⟩ (.string ⟨#[65]⟩)).heap.size) (w6.setCell ⟨w5.heap.size,1,none⟩ (.string ⟨#[65]⟩)) (.mk t1.kind ⟨#[65]⟩ t1.leads t1.kids) (⟨u1.kind,⟨#[65]⟩,u1.la,u1.ll,u1.lc,u1.ka,u1.kl,u1.kc⟩:TV):=TrAt.text (TrAt.move (w:=w6) (fun b hb=>⟨hb.1,by have h1:=HS6.out;have h2:(w6.setCell ⟨w5.heap.size,1,none⟩ (.string ⟨#[65]⟩)).heap.size=w6.heap.size:=(by simp [World.setCell]);omega⟩) (fun b hb _=>Qav (by omega)) _ _ HT6.out) ⟨#[65]⟩
    have HK7:=hQ (show ((.mk t1.kind ⟨#[65]⟩ t1.leads t1.kids):Tr).kind=1∨((.mk t1.kind ⟨#[65]⟩ t1.leads t1.kids):Tr).kind=0 from HK1.out)
    have HY7:=hQ (Za8 HY1.out (x:=⟨#[65]⟩) (by decide))
    have HZ7:=hQ (show Qak (.mk t1.kind ⟨#[65]⟩ t1.leads t1.kids)≤352 from by rw [Za9];exact HZ1.out)
    go_upto_region 10 with fail
    generalize w6.setCell ⟨w5.heap.size,1,none⟩ (.string ⟨#[65]⟩)=w7 at kL kD kR kN kT ⊢
    have HL7:=hQ kL
    have HD7:=hQ kD
    have HR7:=hQ kR
    have HNB7:=hQ kN
    have HT7:=hQ kT
    clear kL kD kR kN kT y0 y1 y2 y3 yl yf
    have y0:w7.cell? ⟨w5.heap.size,0,none⟩=some (.int .i64 u1.kind):=Qab HL7.out 0 _ rfl
    have y1:w7.cell? ⟨w5.heap.size,1,none⟩=some (.string ⟨#[65]⟩):=Qab HL7.out 1 _ rfl
    have y2:w7.cell? ⟨w5.heap.size,2,none⟩=some (.slice u1.la u1.ll u1.lc):=Qab HL7.out 2 _ rfl
    have y3:w7.cell? ⟨w5.heap.size,3,none⟩=some (.slice u1.ka u1.kl u1.kc):=Qab HL7.out 3 _ rfl
    have yl:w5.heap.size<w7.heap.size:=Qaa HL7.out
    have yf:∀ o,w7.frozen? ⟨w5.heap.size,o,none⟩=false:=fun o=>xL HL7.out _
    go_wp2_with fail
    go_at_call 63
    refine (Qon _ (.mk t1.kind ⟨#[65]⟩ t1.leads t1.kids) (⟨u1.kind,⟨#[65]⟩,u1.la,u1.ll,u1.lc,u1.ka,u1.kl,u1.kc⟩:TV) w7 HT7.out HY7.out HZ7.out).mono ?_
    rintro e w8 ⟨rfl,hb8⟩
    have HR8:=hQ (HR7.out.trans (Rest1.below hb8))
    have HD8:=hQ (HD7.out.keep hb8)
    have HL8:=hQ ((hb8.block w5.heap.size (Qaa HL7.out)).trans HL7.out)
    have HN8:=hQ ((hb8.block NBK (Qaa HNB7.out)).trans HNB7.out)
    have HT8:=hQ (TrAt.move (S':=fun b=>wr.heap.size≤b∧b<w8.heap.size) (fun b hb=>⟨hb.1,xE hb.2 hb8.size⟩) (fun b _ hl=>hb8.block b hl) _ _ HT7.out)
    clear hb8 y0 y1 y2 y3 yl yf
    cases hv:Qgl (.mk t1.kind ⟨#[65]⟩ t1.leads t1.kids) with
    | false =>
     have HV:=hQ hv
     clear hv
     go_wp2
     go_roundw
     case measure=>first | (simp [intOf];done) | (simp [intOf];omega)
     case rel=>exact ⟨i,ps,us,A,c,by go_num,rfl,by have:=HJ.out;omega,HP.out.keep HR8.out HD8.out,HN8.out⟩
    | true =>
     have HG:=hQ (Zba hv HY7.out HZ7.out HK7.out)
     clear hv
     have y0:w8.cell? ⟨w5.heap.size,0,none⟩=some (.int .i64 u1.kind):=Qab HL8.out 0 _ rfl
     have y1:w8.cell? ⟨w5.heap.size,1,none⟩=some (.string ⟨#[65]⟩):=Qab HL8.out 1 _ rfl
     have y2:w8.cell? ⟨w5.heap.size,2,none⟩=some (.slice u1.la u1.ll u1.lc):=Qab HL8.out 2 _ rfl
     have y3:w8.cell? ⟨w5.heap.size,3,none⟩=some (.slice u1.ka u1.kl u1.kc):=Qab HL8.out 3 _ rfl
     have yl:w5.heap.size<w8.heap.size:=Qaa HL8.out
     have yf:∀ o,w8.frozen? ⟨w5.heap.size,o,none⟩=false:=fun o=>xL HL8.out _
     have HB1:=hQ (show ps.length+1≤maxLen from by have:=HJ.out;unfold maxLen;omega)
     have HB2:=hQ (show (ps.length+1)*72≤140737488355328 from by have:=HJ.out;omega)
     have HO8:=hQ (Qdg HP.out.row HR8.out (xW _))
     have HNW:=hQ (xM (cs:=(Qag [((⟨u1.kind,⟨#[65]⟩,u1.la,u1.ll,u1.lc,u1.ka,u1.kl,u1.kc⟩:TV):TV)]).toArray) (t:=29) (fr:=(0,0)) (xH w8 (.cells (Qag [((⟨u1.kind,⟨#[65]⟩,u1.la,u1.ll,u1.lc,u1.ka,u1.kl,u1.kc⟩:TV):TV)]).toArray 29)))
     have HON:=hQ (Qdc [((⟨u1.kind,⟨#[65]⟩,u1.la,u1.ll,u1.lc,u1.ka,u1.kl,u1.kc⟩:TV):TV)])
     have HSZ:=hQ (show B+1≤(w8.alloc (.cells (Qag [((⟨u1.kind,⟨#[65]⟩,u1.la,u1.ll,u1.lc,u1.ka,u1.kl,u1.kc⟩:TV):TV)]).toArray 29)).heap.size from by rw [xI];have:=HD8.out.lt;omega)
     go_wp2_with (at_builtin;refine wpList_append_lies _ rfl _ _ 22 rfl (B+1) 29 it _ 4 72 Tryz.underlying22 hit ht0 ht1 ht2 rfl (by decide) (.slice A ps.length c) ps.length (Qag us) rfl (HO8.out.alloc _) ⟨w8.heap.size,0,none⟩ 1 1 (Qag [((⟨u1.kind,⟨#[65]⟩,u1.la,u1.ll,u1.lc,u1.ka,u1.kl,u1.kc⟩:TV):TV)]) rfl rfl HNW.out HON.out (by decide) HB1.out HB2.out HSZ.out (w8.heap.size+1) (xI _ _) ?_;intro g cap w9 hown hgr hat hlt9;have HO9:=hQ hown;have HG9:=hQ hgr;have HA9:=hQ hat;have HN9:=hQ (Qfy HN8.out hgr (Qrf HP.out.row HNB3.out));clear hown hgr hat hlt9 y0 y1 y2 y3 yl yf)
     go_roundw
     case measure=>first | (simp [intOf];done) | (simp [intOf];omega)
     case rel=>exact ⟨i,ps ++ [(.mk t1.kind ⟨#[65]⟩ t1.leads t1.kids)],us ++ [(⟨u1.kind,⟨#[65]⟩,u1.la,u1.ll,u1.lc,u1.ka,u1.kl,u1.kc⟩:TV)],some ⟨g,0,none⟩,cap,by go_num,by rw [xB];rfl,by rw [xB,List.length_singleton];have:=HJ.out;omega,HP.out.next HR8.out HD8.out HT8.out HG.out rfl HO9.out HG9.out HA9.out,HN9.out⟩
   ·have hr2:decide (r=7)=false:=xR hr
    have hr3:(r==7)=false:=by simpa using hr
    have HT7:=hQ (TrAt.move (S':=fun b=>wr.heap.size≤b∧b<w6.heap.size) (fun b hb=>⟨hb.1,Nat.lt_trans hb.2 HS6.out⟩) (fun _ _ _=>rfl) _ _ HT6.out)
    have HL7:=HL6
    have HD7:=HD6
    have HR7:=HR6
    have HNB7:=HN6
    have HK7:=HK1
    have HY7:=HY1
    have HZ7:=HZ1
    go_wp2_with fail
    go_at_call 63
    refine (Qon _ t1 u1 w6 HT7.out HY7.out HZ7.out).mono ?_
    rintro e w8 ⟨rfl,hb8⟩
    have HR8:=hQ (HR7.out.trans (Rest1.below hb8))
    have HD8:=hQ (HD7.out.keep hb8)
    have HL8:=hQ ((hb8.block w5.heap.size (Qaa HL7.out)).trans HL7.out)
    have HN8:=hQ ((hb8.block NBK (Qaa HNB7.out)).trans HNB7.out)
    have HT8:=hQ (TrAt.move (S':=fun b=>wr.heap.size≤b∧b<w8.heap.size) (fun b hb=>⟨hb.1,xE hb.2 hb8.size⟩) (fun b _ hl=>hb8.block b hl) _ _ HT7.out)
    clear hb8 y0 y1 y2 y3 yl yf
    cases hv:Qgl t1 with
    | false =>
     have HV:=hQ hv
     clear hv
     go_wp2
     go_roundw
     case measure=>first | (simp [intOf];done) | (simp [intOf];omega)
     case rel=>exact ⟨i,ps,us,A,c,by go_num,rfl,by have:=HJ.out;omega,HP.out.keep HR8.out HD8.out,HN8.out⟩
    | true =>
     have HG:=hQ (Zba hv HY7.out HZ7.out HK7.out)
     clear hv
     have y0:w8.cell? ⟨w5.heap.size,0,none⟩=some (.int .i64 u1.kind):=Qab HL8.out 0 _ rfl
     have y1:w8.cell? ⟨w5.heap.size,1,none⟩=some (.string u1.text):=Qab HL8.out 1 _ rfl
     have y2:w8.cell? ⟨w5.heap.size,2,none⟩=some (.slice u1.la u1.ll u1.lc):=Qab HL8.out 2 _ rfl
     have y3:w8.cell? ⟨w5.heap.size,3,none⟩=some (.slice u1.ka u1.kl u1.kc):=Qab HL8.out 3 _ rfl
     have yl:w5.heap.size<w8.heap.size:=Qaa HL8.out
     have yf:∀ o,w8.frozen? ⟨w5.heap.size,o,none⟩=false:=fun o=>xL HL8.out _
     have HB1:=hQ (show ps.length+1≤maxLen from by have:=HJ.out;unfold maxLen;omega)
     have HB2:=hQ (show (ps.length+1)*72≤140737488355328 from by have:=HJ.out;omega)
     have HO8:=hQ (Qdg HP.out.row HR8.out (xW _))
     have HNW:=hQ (xM (cs:=(Qag [(u1:TV)]).toArray) (t:=29) (fr:=(0,0)) (xH w8 (.cells (Qag [(u1:TV)]).toArray 29)))
     have HON:=hQ (Qdc [(u1:TV)])
     have HSZ:=hQ (show B+1≤(w8.alloc (.cells (Qag [(u1:TV)]).toArray 29)).heap.size from by rw [xI];have:=HD8.out.lt;omega)
     go_wp2_with (at_builtin;refine wpList_append_lies _ rfl _ _ 22 rfl (B+1) 29 it _ 4 72 Tryz.underlying22 hit ht0 ht1 ht2 rfl (by decide) (.slice A ps.length c) ps.length (Qag us) rfl (HO8.out.alloc _) ⟨w8.heap.size,0,none⟩ 1 1 (Qag [(u1:TV)]) rfl rfl HNW.out HON.out (by decide) HB1.out HB2.out HSZ.out (w8.heap.size+1) (xI _ _) ?_;intro g cap w9 hown hgr hat hlt9;have HO9:=hQ hown;have HG9:=hQ hgr;have HA9:=hQ hat;have HN9:=hQ (Qfy HN8.out hgr (Qrf HP.out.row HNB3.out));clear hown hgr hat hlt9 y0 y1 y2 y3 yl yf)
     go_roundw
     case measure=>first | (simp [intOf];done) | (simp [intOf];omega)
     case rel=>exact ⟨i,ps ++ [t1],us ++ [u1],some ⟨g,0,none⟩,cap,by go_num,by rw [xB];rfl,by rw [xB,List.length_singleton];have:=HJ.out;omega,HP.out.next HR8.out HD8.out HT8.out HG.out rfl HO9.out HG9.out HA9.out,HN9.out⟩
end Go.Proofs.YtjidpkcjpgdafaaGreat
