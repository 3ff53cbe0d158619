/- Part 52 -/
import Derived.Test.YtfjpemdejoejbaaGreatSg51
import Derived.WalkSmall
set_option maxRecDepth 100000
set_option maxHeartbeats 4000000
namespace Go.Proofs.YtfjpemdejoejbaaGreat
open Go.RowKit Go.Shelf
theorem Qrj {w:World} {B n k:Nat} {r:Value} {xs:List Value} {cs:Array Value} (h:w.ownsRow B 25 4 r n xs) (hk:w.heap[k]? = some (.cells cs 9 (0,0))):r.ownBlock≠some k:=fun e=>by
 rcases h.2 with ⟨rfl,_⟩|⟨g',cap,cur',rfl,_,hh,_⟩
 ·cases e
 ·injection e with e;subst e;rw [hk] at hh;injection hh with hh;injection hh with _ h2;exact absurd h2 (by decide)
def PrL (B NBK:Nat) (w:World) (r k:Value) (wr:World):Prop:=∃ (j:Nat) (ps:List Tr) (us:List TV) (A:Option Addr) (c:Nat),k = .int .i64 j∧r = .slice A ps.length c∧j+ps.length≤3∧PrW B w wr ps us A c∧wr.heap[NBK]? = some (.cells #[.string ⟨#[65]⟩,.string ⟨#[66]⟩,.string ⟨#[67]⟩] 9 (0,0))
theorem Qtp (A:Option Addr) (c:Nat) (xs:List Int) (w:World) (hx:IntsAt w A xs) (hl:xs.length≤120):Calls Tryz.prog 16 #[.slice A xs.length c] w (ProgP w):=by
 obtain ⟨it,hit,ht0,ht1,ht2⟩:=info_parts Qcd
 go_enter Tryz.func16,Tryz.ntmps16
 go_wp2_with fail
 go_at_call 41;refine (Zer A c xs w hx hl).mono ?_;rintro e w1 ⟨B,rfl,hB,hd1,hb1⟩;have HWB:=hQ hB;have HD1:=hQ hd1;have HB1:=hQ hb1;have HWN:=hQ ((xC w1.heap.size w1).alloc (xA _) (.cells #[.string ⟨#[65]⟩,.string ⟨#[66]⟩,.string ⟨#[67]⟩] 9));have HNB:=hQ (xH w1 (.cells #[.string ⟨#[65]⟩,.string ⟨#[66]⟩,.string ⟨#[67]⟩] 9));have HDN:=hQ (HD1.out.keep HWN.out);clear hB hd1 hb1;go_wp2_with fail
 go_at_call 42;refine (Qb9 B 4 _ HDN.out (by decide) (by decide)).mono ?_;rintro e w2 ⟨q,rfl,q0,q1,hrest,hd2⟩;obtain ⟨NBK,hnbk⟩:∃ n,n=w1.heap.size:=⟨_,rfl⟩;have HN2:=hQ (show w2.heap[w1.heap.size]? = some (.cells #[.string ⟨#[65]⟩,.string ⟨#[66]⟩,.string ⟨#[67]⟩] 9 (0,0)) from (hrest.block w1.heap.size (Qaa HNB.out) (by have:=HD1.out.lt;omega)).trans HNB.out);have HP2:=hQ (show PrW B w w2 [] [] none 0 from ⟨fun t h=>by simp at h,rfl,World.ownsRow_nil _ _ _ _,fun i k u h=>by simp at h,(HB1.out.trans (HWN.out.mono HB1.out.size)).trans (hrest.down HWB.out (by have:=HB1.out.size;have:=HWN.out.size;omega)),hd2,HWB.out⟩);have HNBK:=hQ hnbk;rw [←hnbk] at HN2 ⊢;clear hrest hd2 hnbk;obtain ⟨q,rfl⟩:∃ z:Nat,q=(z:Int):=⟨q.toNat,by omega⟩
 go_wp2
 go_loopw [4,6] (fun r k wr=>PrL B NBK w r k wr) (fun _ k _=>(intOf k).toNat)
 case atStart=>exact ⟨q,[],[],none,0,rfl,rfl,by simp;omega,HP2.out,HN2.out⟩
 case round =>
  obtain ⟨j,ps,us,A,c,rfl,rfl,hj,hp,hnb⟩:=hrel;have HJ:=hQ hj;have HP:=hQ hp;have HNB3:=hQ hnb;cases j with
  | zero =>
   clear hj hp hnb
   go_wp2
   go_ret
   exact ⟨_,ps,rfl,HP.out.mods,by have:=HJ.out;omega,HP.out.good,HP.out.below⟩
  | succ i =>
   have hp1:(ps.length:Int)<3:=by omega
   have hp2:ps.length<3:=by omega
   have hp0:(0:Int)≤(ps.length:Int):=by omega
   obtain ⟨nm,hnm,hnc⟩:∃ nm:ByteArray,szq nm≤7∧wr.cell? ⟨NBK,ps.length,none⟩=some (.string nm):=by
    have h3:ps.length=0∨ps.length=1∨ps.length=2:=by omega
    rcases h3 with h | h | h
    ·exact ⟨⟨#[65]⟩,by decide,by rw [h];exact Qab hnb 0 _ rfl⟩
    ·exact ⟨⟨#[66]⟩,by decide,by rw [h];exact Qab hnb 1 _ rfl⟩
    ·exact ⟨⟨#[67]⟩,by decide,by rw [h];exact Qab hnb 2 _ rfl⟩
   have nbl:=Qaa hnb;have hi0:(0:Int)≤(i:Int):=by omega
   have hi1:(i:Int)≤3:=by omega
   clear hj hp hnb;go_wp2_with fail
   go_at_call 43;refine (Qxw B nm wr HP.out.dice hnm).mono ?_;rintro e w5 ⟨t1,u1,rfl,ht,hz,hy,hrest,hd5,hk5⟩;have HZ1:=hQ hz;have HY1:=hQ hy;have HK1:=hQ (show t1.kind=1∨t1.kind=0 from hk5);have HWL:=hQ ((xC w5.heap.size w5).alloc (xA _) (trO u1));have HR5:=hQ (hrest.trans (Rest1.below HWL.out));have HD5:=hQ (hd5.keep HWL.out);have HL5:=hQ (xH w5 (trO u1));have HN5:=hQ ((HWL.out.block NBK (xE nbl hrest.size)).trans ((hrest.block NBK nbl (by have h1:=HNBK.out;have h2:=HD1.out.lt;omega)).trans HNB3.out));have HT5:=hQ (TrAt.move (w':=w5.alloc (trO u1)) (S':=fun b=>wr.heap.size≤b∧b<w5.heap.size) (fun _ h=>h) (fun b hb _=>HWL.out.block b hb.2) _ _ ht);have HBL:=hQ HP.out.dice.lt;have HSW:=hQ hrest.size;clear ht hz hy hrest hd5 hk5 hnc nbl hnm;go_wp2_with fail
   go_at_call 42;refine (Qb9 B 8 _ HD5.out (by decide) (by decide)).mono ?_;rintro e w6 ⟨r,rfl,r0,r1,hrest,hd6⟩;have HR6:=hQ (HR5.out.trans hrest);have HD6:=hQ hd6;have HL6:=hQ ((hrest.block w5.heap.size (Qaa HL5.out) (by have h1:=HBL.out;have h2:=HSW.out;omega)).trans HL5.out);have HN6:=hQ ((hrest.block NBK (Qaa HN5.out) (by have h1:=HNBK.out;have h2:=HD1.out.lt;omega)).trans HN5.out);have HT6:=hQ (TrAt.move (w':=w6) (S':=fun b=>wr.heap.size≤b∧b<w5.heap.size) (fun _ h=>h) (fun b hb hl=>hrest.block b hl (by have h1:=HBL.out;omega)) _ _ HT5.out);have HS6:=hQ (show w5.heap.size<w6.heap.size from Qaa HL6.out);clear hrest hd6;have y0:w6.cell? ⟨w5.heap.size,0,none⟩=some (.int .i64 u1.kind):=Qab HL6.out 0 _ rfl;have y1:w6.cell? ⟨w5.heap.size,1,none⟩=some (.string u1.text):=Qab HL6.out 1 _ rfl;have y2:w6.cell? ⟨w5.heap.size,2,none⟩=some (.slice u1.la u1.ll u1.lc):=Qab HL6.out 2 _ rfl;have y3:w6.cell? ⟨w5.heap.size,3,none⟩=some (.slice u1.ka u1.kl u1.kc):=Qab HL6.out 3 _ rfl;have yl:w5.heap.size<w6.heap.size:=Qaa HL6.out;have yf:∀ o,w6.frozen? ⟨w5.heap.size,o,none⟩=false:=fun o=>xL HL6.out _
   by_cases hr:r=7
   ·subst hr;have kL:(w6.setCell ⟨w5.heap.size,1,none⟩ (.string ⟨#[65]⟩)).heap[w5.heap.size]? = some (trO (⟨u1.kind,⟨#[65]⟩,u1.la,u1.ll,u1.lc,u1.ka,u1.kl,u1.kc⟩:TV)):=Qay HL6.out rfl;have kD:DiceAt B (w6.setCell ⟨w5.heap.size,1,none⟩ (.string ⟨#[65]⟩)):=HD6.out.other fun k hk=>Qao (by have h1:=HBL.out;have h2:=HSW.out;omega)
    have kR:Rest1 B wr (w6.setCell ⟨w5.heap.size,1,none⟩ (.string ⟨#[65]⟩)):=⟨HR6.out.os,HR6.out.tape,HR6.out.output,by have:=HR6.out.size;simpa [World.setCell] using this,fun k hk hne=>(Qao (by have h2:=HSW.out;omega)).trans (HR6.out.block k hk hne)⟩;have kN:(w6.setCell ⟨w5.heap.size,1,none⟩ (.string ⟨#[65]⟩)).heap[NBK]? = some (.cells #[.string ⟨#[65]⟩,.string ⟨#[66]⟩,.string ⟨#[67]⟩] 9 (0,0)):=(Qao (fun e=>by have h1:=HL6.out;rw [←e,HN6.out] at h1;injection h1 with h1;injection h1 with _ h2;exact absurd h2 (by decide))).trans HN6.out;have kT:TrAt (fun b=>wr.heap.size≤b∧b<(w6.setCell ⟨w5.heap.size,1,none⟩ (.string ⟨#[65]⟩)).heap.size) (w6.setCell ⟨w5.heap.size,1,none⟩ (.string ⟨#[65]⟩)) (.mk t1.kind ⟨#[65]⟩ t1.leads t1.kids) (⟨u1.kind,⟨#[65]⟩,u1.la,u1.ll,u1.lc,u1.ka,u1.kl,u1.kc⟩:TV):=TrAt.text (TrAt.move (w:=w6) (fun b hb=>⟨hb.1,by have h1:=HS6.out;have h2:(w6.setCell ⟨w5.heap.size,1,none⟩ (.string ⟨#[65]⟩)).heap.size=w6.heap.size:=(by simp [World.setCell]);omega⟩) (fun b hb _=>Qao (by omega)) _ _ HT6.out) ⟨#[65]⟩;have HK7:=hQ (show ((.mk t1.kind ⟨#[65]⟩ t1.leads t1.kids):Tr).kind=1∨((.mk t1.kind ⟨#[65]⟩ t1.leads t1.kids):Tr).kind=0 from HK1.out);have HY7:=hQ (Zbw HY1.out (x:=⟨#[65]⟩) (by decide));have HZ7:=hQ (show Qak (.mk t1.kind ⟨#[65]⟩ t1.leads t1.kids)≤352 from by rw [Zbx];exact HZ1.out)
    go_upto_region 10 with fail
    generalize w6.setCell ⟨w5.heap.size,1,none⟩ (.string ⟨#[65]⟩)=w7 at kL kD kR kN kT ⊢
    have HL7:=hQ kL;have HD7:=hQ kD;have HR7:=hQ kR;have HNB7:=hQ kN;have HT7:=hQ kT;clear kL kD kR kN kT y0 y1 y2 y3 yl yf;have y0:w7.cell? ⟨w5.heap.size,0,none⟩=some (.int .i64 u1.kind):=Qab HL7.out 0 _ rfl;have y1:w7.cell? ⟨w5.heap.size,1,none⟩=some (.string ⟨#[65]⟩):=Qab HL7.out 1 _ rfl;have y2:w7.cell? ⟨w5.heap.size,2,none⟩=some (.slice u1.la u1.ll u1.lc):=Qab HL7.out 2 _ rfl;have y3:w7.cell? ⟨w5.heap.size,3,none⟩=some (.slice u1.ka u1.kl u1.kc):=Qab HL7.out 3 _ rfl;have yl:w5.heap.size<w7.heap.size:=Qaa HL7.out;have yf:∀ o,w7.frozen? ⟨w5.heap.size,o,none⟩=false:=fun o=>xL HL7.out _
    go_wp2_with fail
    go_at_call 44;refine (Qoj _ (.mk t1.kind ⟨#[65]⟩ t1.leads t1.kids) (⟨u1.kind,⟨#[65]⟩,u1.la,u1.ll,u1.lc,u1.ka,u1.kl,u1.kc⟩:TV) w7 HT7.out HY7.out HZ7.out).mono ?_;rintro e w8 ⟨rfl,hb8⟩;have HR8:=hQ (HR7.out.trans (Rest1.below hb8));have HD8:=hQ (HD7.out.keep hb8);have HL8:=hQ ((hb8.block w5.heap.size (Qaa HL7.out)).trans HL7.out);have HN8:=hQ ((hb8.block NBK (Qaa HNB7.out)).trans HNB7.out);have HT8:=hQ (TrAt.move (S':=fun b=>wr.heap.size≤b∧b<w8.heap.size) (fun b hb=>⟨hb.1,xE hb.2 hb8.size⟩) (fun b _ hl=>hb8.block b hl) _ _ HT7.out);clear hb8 y0 y1 y2 y3 yl yf;cases hv:Qgl (.mk t1.kind ⟨#[65]⟩ t1.leads t1.kids) with
    | false =>
     have HV:=hQ hv;clear hv
     go_wp2
     go_roundw
     case measure=>first | (simp [intOf];done) | (simp [intOf];omega)
     case rel=>exact ⟨i,ps,us,A,c,by go_num,rfl,by have:=HJ.out;omega,HP.out.keep HR8.out HD8.out,HN8.out⟩
    | true =>
     have HG:=hQ (Zby hv HY7.out HZ7.out HK7.out);clear hv;have y0:w8.cell? ⟨w5.heap.size,0,none⟩=some (.int .i64 u1.kind):=Qab HL8.out 0 _ rfl;have y1:w8.cell? ⟨w5.heap.size,1,none⟩=some (.string ⟨#[65]⟩):=Qab HL8.out 1 _ rfl;have y2:w8.cell? ⟨w5.heap.size,2,none⟩=some (.slice u1.la u1.ll u1.lc):=Qab HL8.out 2 _ rfl;have y3:w8.cell? ⟨w5.heap.size,3,none⟩=some (.slice u1.ka u1.kl u1.kc):=Qab HL8.out 3 _ rfl;have yl:w5.heap.size<w8.heap.size:=Qaa HL8.out;have yf:∀ o,w8.frozen? ⟨w5.heap.size,o,none⟩=false:=fun o=>xL HL8.out _
     have HB1:=hQ (show ps.length+1≤maxLen from by have:=HJ.out;unfold maxLen;omega);have HB2:=hQ (show (ps.length+1)*72≤140737488355328 from by have:=HJ.out;omega);have HO8:=hQ (Qdj HP.out.row HR8.out (xW _));have HNW:=hQ (xM (cs:=(Qag [((⟨u1.kind,⟨#[65]⟩,u1.la,u1.ll,u1.lc,u1.ka,u1.kl,u1.kc⟩:TV):TV)]).toArray) (t:=25) (fr:=(0,0)) (xH w8 (.cells (Qag [((⟨u1.kind,⟨#[65]⟩,u1.la,u1.ll,u1.lc,u1.ka,u1.kl,u1.kc⟩:TV):TV)]).toArray 25)));have HON:=hQ (Qcv [((⟨u1.kind,⟨#[65]⟩,u1.la,u1.ll,u1.lc,u1.ka,u1.kl,u1.kc⟩:TV):TV)]);have HSZ:=hQ (show B+1≤(w8.alloc (.cells (Qag [((⟨u1.kind,⟨#[65]⟩,u1.la,u1.ll,u1.lc,u1.ka,u1.kl,u1.kc⟩:TV):TV)]).toArray 25)).heap.size from by rw [xI];have:=HD8.out.lt;omega);go_wp2_with (at_builtin;refine wpList_append_lies _ rfl _ _ 22 rfl (B+1) 25 it _ 4 72 Tryz.underlying22 hit ht0 ht1 ht2 rfl (by decide) (.slice A ps.length c) ps.length (Qag us) rfl (HO8.out.alloc _) ⟨w8.heap.size,0,none⟩ 1 1 (Qag [((⟨u1.kind,⟨#[65]⟩,u1.la,u1.ll,u1.lc,u1.ka,u1.kl,u1.kc⟩:TV):TV)]) rfl rfl HNW.out HON.out (by decide) HB1.out HB2.out HSZ.out (w8.heap.size+1) (xI _ _) ?_;intro g cap w9 hown hgr hat hlt9;have HO9:=hQ hown;have HG9:=hQ hgr;have HA9:=hQ hat;have HN9:=hQ (Qf1 HN8.out hgr (Qrj HP.out.row HNB3.out));clear hown hgr hat hlt9 y0 y1 y2 y3 yl yf)
     go_roundw
     case measure=>first | (simp [intOf];done) | (simp [intOf];omega)
     case rel=>exact ⟨i,ps ++ [(.mk t1.kind ⟨#[65]⟩ t1.leads t1.kids)],us ++ [(⟨u1.kind,⟨#[65]⟩,u1.la,u1.ll,u1.lc,u1.ka,u1.kl,u1.kc⟩:TV)],some ⟨g,0,none⟩,cap,by go_num,by rw [xB];rfl,by rw [xB,List.length_singleton];have:=HJ.out;omega,HP.out.next HR8.out HD8.out HT8.out HG.out rfl HO9.out HG9.out HA9.out,HN9.out⟩
   ·have hr2:decide (r=7)=false:=xR hr;have hr3:(r==7)=false:=by simpa using hr
    have HT7:=hQ (TrAt.move (S':=fun b=>wr.heap.size≤b∧b<w6.heap.size) (fun b hb=>⟨hb.1,Nat.lt_trans hb.2 HS6.out⟩) (fun _ _ _=>rfl) _ _ HT6.out);have HL7:=HL6;have HD7:=HD6;have HR7:=HR6;have HNB7:=HN6;have HK7:=HK1;have HY7:=HY1;have HZ7:=HZ1;go_wp2_with fail
    go_at_call 44;refine (Qoj _ t1 u1 w6 HT7.out HY7.out HZ7.out).mono ?_;rintro e w8 ⟨rfl,hb8⟩;have HR8:=hQ (HR7.out.trans (Rest1.below hb8));have HD8:=hQ (HD7.out.keep hb8);have HL8:=hQ ((hb8.block w5.heap.size (Qaa HL7.out)).trans HL7.out);have HN8:=hQ ((hb8.block NBK (Qaa HNB7.out)).trans HNB7.out);have HT8:=hQ (TrAt.move (S':=fun b=>wr.heap.size≤b∧b<w8.heap.size) (fun b hb=>⟨hb.1,xE hb.2 hb8.size⟩) (fun b _ hl=>hb8.block b hl) _ _ HT7.out);clear hb8 y0 y1 y2 y3 yl yf;cases hv:Qgl t1 with
    | false =>
     have HV:=hQ hv;clear hv
     go_wp2
     go_roundw
     case measure=>first | (simp [intOf];done) | (simp [intOf];omega)
     case rel=>exact ⟨i,ps,us,A,c,by go_num,rfl,by have:=HJ.out;omega,HP.out.keep HR8.out HD8.out,HN8.out⟩
    | true =>
     have HG:=hQ (Zby hv HY7.out HZ7.out HK7.out);clear hv;have y0:w8.cell? ⟨w5.heap.size,0,none⟩=some (.int .i64 u1.kind):=Qab HL8.out 0 _ rfl;have y1:w8.cell? ⟨w5.heap.size,1,none⟩=some (.string u1.text):=Qab HL8.out 1 _ rfl;have y2:w8.cell? ⟨w5.heap.size,2,none⟩=some (.slice u1.la u1.ll u1.lc):=Qab HL8.out 2 _ rfl;have y3:w8.cell? ⟨w5.heap.size,3,none⟩=some (.slice u1.ka u1.kl u1.kc):=Qab HL8.out 3 _ rfl;have yl:w5.heap.size<w8.heap.size:=Qaa HL8.out;have yf:∀ o,w8.frozen? ⟨w5.heap.size,o,none⟩=false:=fun o=>xL HL8.out _
     have HB1:=hQ (show ps.length+1≤maxLen from by have:=HJ.out;unfold maxLen;omega);have HB2:=hQ (show (ps.length+1)*72≤140737488355328 from by have:=HJ.out;omega);have HO8:=hQ (Qdj HP.out.row HR8.out (xW _));have HNW:=hQ (xM (cs:=(Qag [(u1:TV)]).toArray) (t:=25) (fr:=(0,0)) (xH w8 (.cells (Qag [(u1:TV)]).toArray 25)));have HON:=hQ (Qcv [(u1:TV)]);have HSZ:=hQ (show B+1≤(w8.alloc (.cells (Qag [(u1:TV)]).toArray 25)).heap.size from by rw [xI];have:=HD8.out.lt;omega);go_wp2_with (at_builtin;refine wpList_append_lies _ rfl _ _ 22 rfl (B+1) 25 it _ 4 72 Tryz.underlying22 hit ht0 ht1 ht2 rfl (by decide) (.slice A ps.length c) ps.length (Qag us) rfl (HO8.out.alloc _) ⟨w8.heap.size,0,none⟩ 1 1 (Qag [(u1:TV)]) rfl rfl HNW.out HON.out (by decide) HB1.out HB2.out HSZ.out (w8.heap.size+1) (xI _ _) ?_;intro g cap w9 hown hgr hat hlt9;have HO9:=hQ hown;have HG9:=hQ hgr;have HA9:=hQ hat;have HN9:=hQ (Qf1 HN8.out hgr (Qrj HP.out.row HNB3.out));clear hown hgr hat hlt9 y0 y1 y2 y3 yl yf)
     go_roundw
     case measure=>first | (simp [intOf];done) | (simp [intOf];omega)
     case rel=>exact ⟨i,ps ++ [t1],us ++ [u1],some ⟨g,0,none⟩,cap,by go_num,by rw [xB];rfl,by rw [xB,List.length_singleton];have:=HJ.out;omega,HP.out.next HR8.out HD8.out HT8.out HG.out rfl HO9.out HG9.out HA9.out,HN9.out⟩
end Go.Proofs.YtfjpemdejoejbaaGreat
namespace Go.Proofs.YtfjpemdejoejbaaGreat
open Go.RowKit
def Qnb (ps:List Tr):Tr:=.mk 0 ⟨#[]⟩ [] ps
theorem Qkl:(ps:List Tr)→(∀ t∈ps,Qna t)→Qaq ps≤352*ps.length
 | [],_=>by rw [Qaq];simp
 | t :: r,h=>by
  rw [Qaq,xD];have h1:=(h t (by simp)).2.2.1;have h2:=Qkl r (fun u hu=>h u (by simp [hu]));omega
theorem Qrk:(ps:List Tr)→(∀ t∈ps,Qna t)→Qbm ps=true
 | [],_=>rfl
 | t :: r,h=>by
  rw [Qbm,(h t (by simp)).2.1,Qrk r (fun u hu=>h u (by simp [hu]))];rfl
theorem Qu4 {ps:List Tr} (h3:ps.length≤3) (hg:∀ t∈ps,Qna t):Qry (Qnb ps)≤70000:=by
 have h1:Qe6 (Qnb ps)=true:=Qbz.2 ⟨by decide,by simp,by simp,Qrk ps hg⟩;have h2:=Ql3 _ h1;have h4:Qak (Qnb ps)=1+Qaq ps:=by unfold Qnb;rw [Qak] <;> omega
 have h5:=Qkl ps hg;have h6:352*ps.length≤352*3:=Nat.mul_le_mul_left _ h3;omega
theorem Zhd {lo c:Nat} {A:Option Addr} {w:World} {ps:List Tr} {us:List TV} (hc:ps.length≤c) (hlen:us.length=ps.length)
  (hrow:ps≠[]→∃ g cs,A=some ⟨g,0,none⟩∧lo≤g∧w.heap[g]? = some (.cells cs 25 (0,0))∧RowIs cs us)
  (hat:∀ (i:Nat) (k:Tr) (u:TV),ps[i]? = some k→us[i]? = some u→TrAt (fun b=>lo≤b∧b<w.heap.size) w k u) :
  TrAt (fun b=>lo≤b∧b<w.heap.size) w (Qnb ps) ⟨0,⟨#[]⟩,none,0,0,A,ps.length,c⟩:=by
 refine TrAt.make rfl rfl rfl rfl (fun h=>absurd rfl h) (fun h0=>?_) ⟨xA _,hc⟩;obtain ⟨g,cs,hA,hg,hh,hr⟩:=hrow h0;refine ⟨g,0,hA,⟨hg,Qaa hh⟩,TrsAt.of _ 0 fun i t ht=>?_⟩;have hi:i<us.length:=by rw [hlen];exact (xP.1 ht).1
 obtain ⟨u,hu⟩:∃ u,us[i]? = some u:=⟨_,xF hi⟩;obtain ⟨r0,r1,r2,r3⟩:=hr i u hu
 refine ⟨u,?_,?_,?_,?_,hat i t u ht hu⟩
 ·rw [show 0+i*4=i*4 from by omega];exact Qab hh _ _ r0
 ·rw [show 0+i*4+1=i*4+1 from by omega];exact Qab hh _ _ r1
 ·rw [show 0+i*4+2=i*4+2 from by omega];exact Qab hh _ _ r2
 ·rw [show 0+i*4+3=i*4+3 from by omega];exact Qab hh _ _ r3
end Go.Proofs.YtfjpemdejoejbaaGreat
namespace Go.Proofs.YtfjpemdejoejbaaGreat
open Go.RowKit Go.Shelf
def FR (S:Nat→Prop) (lo:Nat) (w:World) (l:Value) (ts:List Tr):Prop:=∃ vs:List TV,vs.length=ts.length∧w.ownsRow lo 25 4 l ts.length (Qag vs)∧∀ (i:Nat) (k:Tr) (u:TV),ts[i]? = some k→vs[i]? = some u→TrAt S w k u
theorem Zil (vs:List TV):∀ u∈Qag vs,u.oneCell'=true:=fun u hu=>by
 unfold Qag at hu;obtain ⟨v,_,h⟩:=List.mem_flatMap.1 hu;exact Qjj v u h
theorem FR.later {S:Nat→Prop} {w w':World} {lo:Nat} {l:Value} {ts:List Tr} (h:FR S lo w l ts) (hb:Below w.heap.size w w'):FR S lo w' l ts:=by
 obtain ⟨vs,h1,h2,h3⟩:=h;exact ⟨vs,h1,(Keeps.of_below (P:=fun _=>none) hb).row h2 fun _ _=>.inl rfl,fun i k u hk hu=>(h3 i k u hk hu).keep hb⟩
theorem FR.slice {S:Nat→Prop} {w:World} {lo:Nat} {l:Value} {ts:List Tr} (h:FR S lo w l ts):∃ A c,l = .slice A ts.length c:=by
 obtain ⟨vs,_,h2,_⟩:=h;exact Qet h2
theorem FR.join {S:Nat→Prop} {w w':World} {lo g cap:Nat} {l:Value} {ts us:List Tr} {vs xs:List TV} (h1:vs.length=ts.length) (hrow:w.ownsRow lo 25 4 l ts.length (Qag vs))
  (h3:∀ (i:Nat) (k:Tr) (u:TV),ts[i]? = some k→vs[i]? = some u→TrAt S w k u) (q1:xs.length=us.length) (q3:∀ (i:Nat) (k:Tr) (u:TV),us[i]? = some k→xs[i]? = some u→TrAt S w k u) (hS:∀ b,S b→b<lo)
  (ho:w'.ownsRow lo 25 4 (.slice (some ⟨g,0,none⟩) (ts.length+us.length) cap) (ts.length+us.length) (Qag vs ++ Qag xs)) (hk:Keeps (pre l (ts.length*4)) w w') :
  FR S lo w' (.slice (some ⟨g,0,none⟩) (ts.length+us.length) cap) (ts ++ us):=by
 have hown:∀ b,l.ownBlock=some b→lo≤b:=fun b e=>(World.ownsRow.lt hrow b e).1
 have hm:∀ (a:Tr) (u:TV),TrAt S w a u→TrAt S w' a u:=fun a u ha=>TrAt.move (fun _ h=>h) (fun b hb hl=>hk.block b hl (Qdp fun e=>by have:=hown b e;have:=hS b hb;omega)) _ _ ha
 refine ⟨vs ++ xs,by simp [h1,q1],?_,fun i k u hk hu=>?_⟩
 ·have e:Qag (vs ++ xs)=Qag vs ++ Qag xs:=by unfold Qag;simp
  rw [e,xB];exact ho
 ·by_cases hi:i<ts.length
  ·rw [yB hi] at hk;rw [yB (by rw [h1];exact hi)] at hu;exact hm _ _ (h3 i k u hk hu)
  ·rw [xX (by omega)] at hk;rw [xX (by omega),h1] at hu;exact hm _ _ (q3 _ k u hk hu)
theorem FR.at {S:Nat→Prop} {lo:Nat} {w:World} {A:Option Addr} {n c:Nat} {ts:List Tr} (h:FR S lo w (.slice A n c) ts) {j:Nat} {k:Tr} (hk:ts[j]? = some k):n=ts.length∧∃ (g:Nat) (u:TV),A=some ⟨g,0,none⟩∧lo≤g∧g<w.heap.size ∧
  w.cell? ⟨g,j*4,none⟩=some (.int .i64 u.kind)∧w.cell? ⟨g,j*4+1,none⟩=some (.string u.text)∧w.cell? ⟨g,j*4+2,none⟩=some (.slice u.la u.ll u.lc)∧w.cell? ⟨g,j*4+3,none⟩=some (.slice u.ka u.kl u.kc)∧TrAt S w k u:=by
 obtain ⟨vs,h1,h2,h3⟩:=h;have hj:=(xP.1 hk).1;obtain ⟨g,cap,hv,hg,hl⟩:=World.ownsRow.form h2 (by omega);injection hv with hv1 hv2 hv3;subst hv1;have hcs:=h2.cells (g:=g) rfl
 have hc:∀ (j:Nat) (x:Value),(Qag vs)[j]? = some x→w.cell? ⟨g,j,none⟩=some x:=fun j x hx=>by
  have h:=hcs j x hx;rw [Addr.add_lit] at h;simp only [Nat.zero_add] at h;exact h
 obtain ⟨u,hu⟩:∃ u,vs[j]? = some u:=⟨_,xF (by rw [h1];exact hj)⟩;obtain ⟨q0,q1,q2,q3⟩:=Qef vs j u hu;exact ⟨hv2,g,u,rfl,hg,hl,hc _ _ q0,hc _ _ q1,hc _ _ q2,hc _ _ q3,h3 j k u hk hu⟩
theorem FR.in {S:Nat→Prop} {lo g:Nat} {w:World} {n c:Nat} {ts:List Tr} (h:FR S lo w (.slice (some ⟨g,0,none⟩) n c) ts) {j:Nat} {k:Tr} (hk:ts[j]? = some k):lo≤g∧g<w.heap.size∧∃ u:TV,
  w.cell? ⟨g,j*4,none⟩=some (.int .i64 u.kind)∧w.cell? ⟨g,j*4+1,none⟩=some (.string u.text)∧w.cell? ⟨g,j*4+2,none⟩=some (.slice u.la u.ll u.lc)∧w.cell? ⟨g,j*4+3,none⟩=some (.slice u.ka u.kl u.kc)∧TrAt S w k u:=by
 obtain ⟨_,g2,u,hA,h1,h2,h3⟩:=h.at hk;injection hA with hA;injection hA with hA;subst hA;exact ⟨h1,h2,u,h3⟩
def fnB (t:Tr):Bool:=decide (t.kind=2)
def Qpp (ps:List Tr):List Tr:=ps.flatMap fun t=>t.kids.filter fnB
theorem Zes {ps:List Tr} {q:Nat} {T:Tr} (h:ps[q]? = some T):Qpp (ps.take (q+1))=Qpp (ps.take q) ++ T.kids.filter fnB:=by
 unfold Qpp;rw [List.take_add_one,h,Option.toList_some,List.flatMap_append,List.flatMap_singleton]
theorem Qtq:(ps:List Tr)→(Qpp ps).length≤Qaq ps
 | []=>by unfold Qpp;simp
 | t :: r=>by
  have h1:=Qtq r;have h2:=List.length_filter_le fnB t.kids;have h3:=Qba t.kids;have h4:=Qa7 t;unfold Qpp at h1 ⊢;rw [List.flatMap_cons,xB,Qaq];omega
theorem Qtr {ps:List Tr} {f:Tr} (h:f∈Qpp ps):∃ T∈ps,f∈T.kids∧f.kind=2:=by
 unfold Qpp at h;obtain ⟨T,h1,h2⟩:=List.mem_flatMap.1 h;obtain ⟨h3,h4⟩:=List.mem_filter.1 h2;unfold fnB at h4;exact ⟨T,h1,h3,by simpa using h4⟩
theorem Zbz {l:List Tr} {d:Nat} {k:Tr} (h:l[d]? = some k):(l.take (d+1)).filter fnB=(l.take d).filter fnB ++ (if fnB k=true then [k] else []):=by
 rw [List.take_add_one,h,Option.toList_some,List.filter_append,List.filter_cons,List.filter_nil]
def FnsO (ps:List Tr) (w1:World) (l i:Value) (wr:World):Prop:=∃ q:Nat,i = .int .i64 (q:Int)∧q≤ps.length∧FR (fun b=>b<w1.heap.size) w1.heap.size wr l (Qpp (ps.take q))∧Below w1.heap.size w1 wr
def FnsI (ps:List Tr) (q:Nat) (T:Tr) (w1:World) (l i:Value) (wr:World):Prop:=∃ d:Nat,i = .int .i64 (d:Int)∧d≤T.kids.length∧FR (fun b=>b<w1.heap.size) w1.heap.size wr l (Qpp (ps.take q) ++ (T.kids.take d).filter fnB)∧Below w1.heap.size w1 wr
def FnsP (w:World) (e:Ending) (w':World):Prop:=∃ (l:Value) (w1:World) (ps:List Tr),e = .returned l∧ps.length≤3∧(∀ t∈ps,Qna t)∧FR (fun b=>b<w1.heap.size) w1.heap.size w' l (Qpp ps)∧Below w1.heap.size w1 w'∧Below w.heap.size w w'
theorem Qpq (A:Option Addr) (c:Nat) (xs:List Int) (w:World) (hx:IntsAt w A xs) (hl:xs.length≤120):Calls Tryz.prog 19 #[.slice A xs.length c] w (FnsP w):=by
 obtain ⟨it,hit,ht0,ht1,ht2⟩:=info_parts Qcd;have HP:=hQ (Qtp A c xs w hx hl);clear hx hl
 go_enter Tryz.func19,Tryz.ntmps19
 go_wp2_with fail
 go_at_call 16;refine HP.out.mono ?_;rintro e w1 ⟨r,ps,rfl,hm,hlen,hgood,hb⟩;obtain ⟨A1,c1,us,rfl,hc1,hus,hrow,hat⟩:=hm;have HB:=hQ hb;have HLEN:=hQ hlen;have HG:=hQ hgood;have HR:=hQ (TrAt.move (S':=fun b=>b<w1.heap.size) (fun b h=>h.2) (fun _ _ _=>rfl) _ _ (Zhd hc1 hus hrow hat));have HZ:=hQ (fun t ht=>(hgood t ht).2.2.1);have hnl:(ps.length:Int)≤3:=by omega
 clear hrow hat hgood hb hc1 hus hlen;go_wp2_with fail
 go_loopw [3,5] (fun l i wr=>FnsO ps w1 l i wr) (fun _ i _=>ps.length-(intOf i).toNat)
 case atStart=>exact ⟨0,rfl,xZ _,⟨[],rfl,World.ownsRow_nil _ _ _ _,fun i k u hk=>by simp [Qpp] at hk⟩,xC _ _⟩
 case round =>
  obtain ⟨q,rfl,hq,hfr,hb⟩:=hrel;have HFR:=hQ hfr;have HBR:=hQ hb;clear hfr hb
  by_cases hlt:q<ps.length
  ·obtain ⟨T,hT⟩:∃ T,ps[q]? = some T:=⟨_,xF hlt⟩;obtain ⟨b,off,hka⟩:∃ b off,A1=some ⟨b,off,none⟩:=HR.out.addr.resolve_left (by show ¬ ps.length=0;omega);subst hka;have HT:=hQ hT;have HTZ:=hQ (show Qak T≤352 from HZ.out T (yA hT));have HTK:=hQ (show T.kids.length≤352 from by have h3:=Qba T.kids;have h4:=Qa7 T;have:=HTZ.out;omega);have HUX:=hQ (HR.out.at rfl (show (Qnb ps).kids[q]? = some T from hT))
   have HFL:=hQ (show (Qpp (ps.take q)).length≤1056 from by
    have h1:=Qtq (ps.take q);have h2:=Qkl (ps.take q) (fun t ht=>HG.out t (List.mem_of_mem_take ht));have h3:(ps.take q).length≤3:=by rw [List.length_take];have:=HLEN.out;omega
    have h4:352*(ps.take q).length≤352*3:=Nat.mul_le_mul_left _ h3;omega)
   have hq0:(0:Int)≤(q:Int):=by omega
   have hq1:(q:Int)<(ps.length:Int):=by omega
   have hq2:(q:Int)+1≤3:=by omega
   clear hT;go_wp2_with fail
   go_loopw [3,6] (fun l i wr=>FnsI ps q T w1 l i wr) (fun _ i _=>T.kids.length-(intOf i).toNat)
   case atStart=>exact ⟨0,rfl,xZ _,by rw [List.take_zero,List.filter_nil,List.append_nil];exact HFR.out,HBR.out⟩
   case round =>
    obtain ⟨d,rfl,hd,hfr,hb⟩:=hrel;have HB2:=hQ hb;obtain ⟨gs,hgs⟩:∃ gs,gs=Qpp (ps.take q) ++ (T.kids.take d).filter fnB:=⟨_,rfl⟩;rw [←hgs] at hfr;have HGS:=hQ hgs;have HFR2:=hQ hfr;obtain ⟨tv,t0,t1,t2,t3,htv⟩:=HUX.out;have t3:=(hb.cell (xK w1 _ t3)).trans t3;have tl:=xK wr _ t3;have hkl:=htv.kl.1;obtain ⟨tk,tx,tla,tll,tlc,tka,tkl,tkc⟩:=tv;simp only at hkl t3;subst hkl;have d2:(d:Int)+1≤353:=by have:=HTK.out;omega
    clear hfr hb t0 t1 t2 hgs
    by_cases hdl:d<T.kids.length
    ·obtain ⟨k,hk⟩:∃ k,T.kids[d]? = some k:=⟨_,xF hdl⟩;obtain ⟨kb,ko,hka⟩:∃ b off,tka=some ⟨b,off,none⟩:=htv.addr.resolve_left (by omega);subst hka;obtain ⟨kv,c0,c1',c2,c3,hkv⟩:=htv.at rfl hk;have c0:=(HB2.out.cell (xK w1 _ c0)).trans c0;have c1:=(HB2.out.cell (xK w1 _ c1')).trans c1';have c2:=(HB2.out.cell (xK w1 _ c2)).trans c2;have c3:=(HB2.out.cell (xK w1 _ c3)).trans c3;have cl:=xK wr _ c0;have d0:(0:Int)≤(d:Int):=by omega
     have d1:(d:Int)<(T.kids.length:Int):=by omega
     have hkk:=hkv.kl.2.2.1;have HKV:=hQ hkv;have HNX:=hQ (Zbz hk)
     have HGL:=hQ (show gs.length≤1408 from by
      have h1:=List.length_filter_le fnB (T.kids.take d);rw [List.length_take] at h1;rw [HGS.out,xB];have:=HFL.out
      have:=HTK.out
      omega)
     clear c1' htv hkv hk
     by_cases hkd:k.kind=2
     ·have e1:(kv.kind==2)=true:=by rw [hkk,hkd];rfl
      have HFB:=hQ (show fnB k=true from by unfold fnB;exact xS hkd);obtain ⟨vk,vx,vla,vll,vlc,vka,vkl,vkc⟩:=kv;simp only at hkk e1 c0 c1 c2 c3;have hvk:vk=2:=by rw [hkk,hkd]
      subst hvk;obtain ⟨vs,h1,h2,h3⟩:=HFR2.out;have H1:=hQ h1;have HBA:=hQ ((xC wr.heap.size wr).alloc (xA _) (trO ⟨2,vx,vla,vll,vlc,vka,vkl,vkc⟩));have H2:=hQ ((Keeps.of_below (P:=fun _=>none) HBA.out).row h2 fun _ _=>.inl rfl);have H3:=hQ (show ∀ (i:Nat) (k:Tr) (u:TV),gs[i]? = some k→vs[i]? = some u→TrAt (fun b=>b<w1.heap.size) (wr.alloc (trO ⟨2,vx,vla,vll,vlc,vka,vkl,vkc⟩)) k u from fun i k u hk hu=>(h3 i k u hk hu).keep HBA.out)
      have HNW:=hQ (show ∀ (j:Nat) (x:Value),(Qag [⟨2,vx,vla,vll,vlc,vka,vkl,vkc⟩])[j]? = some x→(wr.alloc (trO ⟨2,vx,vla,vll,vlc,vka,vkl,vkc⟩)).cell? ((⟨wr.heap.size,0,none⟩:Addr).add j)=some x from fun j x hx=>by
       rw [Addr.add_lit,Nat.zero_add];exact Qab (xH wr _) j x (by rw [←Array.getElem?_toList];exact hx))
      have HM1:=hQ (show gs.length+1≤maxLen from by have:=HGL.out;unfold maxLen;omega);have HM2:=hQ (show (gs.length+1)*72≤140737488355328 from by have:=HGL.out;omega);have HSZ:=hQ (show w1.heap.size≤(wr.alloc (trO ⟨2,vx,vla,vll,vlc,vka,vkl,vkc⟩)).heap.size from by rw [xI];have:=HB2.out.size;omega);have HALL:=hQ (Zil [⟨2,vx,vla,vll,vlc,vka,vkl,vkc⟩]);obtain ⟨LA,lc,hl⟩:=Qet h2;subst hl;clear h1 h2 h3 hkk hkd;go_wp2_with (at_builtin;refine Qhe _ rfl _ _ 22 rfl w1.heap.size 25 it _ 4 72 Tryz.underlying22 hit ht0 ht1 ht2 rfl (by decide) _ gs.length (Qag vs) rfl H2.out ⟨wr.heap.size,0,none⟩ 1 1 (Qag [⟨2,vx,vla,vll,vlc,vka,vkl,vkc⟩]) rfl rfl HNW.out HALL.out (by decide) HM1.out HM2.out HSZ.out ?_;intro g6 c6 w6 hown6 hk6 hg6 hlt6;have HO6:=hQ hown6;have HK6:=hQ hk6;clear hown6 hk6 hg6 hlt6)
      go_roundw
      case measure=>first | (simp [intOf];done) | (simp [intOf];omega)
      case rel =>
       refine ⟨d+1,rfl,by omega,?_,?_⟩
       ·have h:=FR.join H1.out H2.out H3.out (us:=[k]) (xs:=[⟨2,vx,vla,vll,vlc,vka,vkl,vkc⟩]) rfl (fun i a u ha hu=>by
         match i,ha,hu with
         | 0,ha,hu =>
          injection ha with ha;injection hu with hu;subst ha hu;exact HKV.out.keep (HB2.out.trans (HBA.out.mono HB2.out.size))
         | i+1,ha,_=>simp at ha) (fun b hb=>hb) HO6.out HK6.out
        rw [HNX.out,xO HFB.out,←xT,←HGS.out];exact h
       ·exact (HB2.out.trans (HBA.out.mono HB2.out.size)).trans (HK6.out.below HSZ.out fun b hl=>Qdp fun e=>by have:=(World.ownsRow.lt H2.out b e).1;omega)
     ·have e1:(kv.kind==2)=false:=by rw [hkk];simpa using hkd
      have HFB:=hQ (show fnB k=false from by unfold fnB;exact xR hkd);clear hkk hkd;go_wp2_with fail
      go_roundw
      case measure=>first | (simp [intOf];done) | (simp [intOf];omega)
      case rel=>exact ⟨d+1,rfl,by omega,by rw [HNX.out,xN (by rw [HFB.out];decide),List.append_nil,←HGS.out];exact HFR2.out,HB2.out⟩
    ·obtain rfl:d=T.kids.length:=by omega
     go_wp2_with fail
     go_roundw
     case measure=>first | (simp [intOf];done) | (simp [intOf];omega)
     case rel=>exact ⟨q+1,rfl,by omega,by rw [Zes HT.out];have h:=HGS.out;rw [List.take_length] at h;rw [←h];exact HFR2.out,HB2.out⟩
  ·obtain rfl:q=ps.length:=by omega
   go_wp2_with fail
   go_ret
   exact ⟨_,w1,ps,rfl,HLEN.out,HG.out,by have h:=HFR.out;rw [List.take_length] at h;exact h,HBR.out,HB.out.trans (HBR.out.mono HB.out.size)⟩
end Go.Proofs.YtfjpemdejoejbaaGreat
