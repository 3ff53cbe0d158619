/- Part 50 -/
import Derived.Test.YtfjpemdejoejbaaGreatSg49
set_option maxRecDepth 100000
set_option maxHeartbeats 4000000
namespace Go.Proofs.YtfjpemdejoejbaaGreat
open Go.RowKit Go.Shelf
theorem Zbu (B b n:Nat) (ls:List ByteArray) (w:World) (hd:DiceAt B w) (hn:ls.length=n) (h1:1≤n) (h2:n≤100) (hs:∀ s∈ls,s.size≤5) (hb:B<b) (hc:∀ (i:Nat) (s:ByteArray),ls[i]? = some s→w.cell? ⟨b,i,none⟩=some (.string s)) :
  Calls Tryz.prog 99 #[.pointer (some ⟨B,0,none⟩),.slice (some ⟨b,0,none⟩) n n] w fun e w'=>∃ s:ByteArray,e = .returned (.string s)∧s.size≤5∧Rest1 B w w'∧DiceAt B w':=by
 obtain ⟨r,q0,q1,hN⟩:=Qux B n w hd (by omega) (by omega);have HNX:=hQ (hN w fun _ _=>rfl);have HC:=hQ hc;have HS:=hQ hs;have HN:=hQ hn;clear hc hs hn hN
 go_enter Tryz.func99,Tryz.ntmps99
 go_wp2_with fail
 go_at_call 42;refine HNX.out.mono ?_;rintro e w1 ⟨rfl,hrest,hd1⟩;obtain ⟨k,rfl⟩:∃ k:Nat,r=(k:Int):=⟨r.toNat,by omega⟩;obtain ⟨s,hk⟩:∃ s,ls[k]? = some s:=⟨_,xF (by have:=HN.out;omega)⟩;have c:=HC.out k s hk;have c1:=(xJ (w:=w) (a:=⟨b,k,none⟩) (hrest.block b (xK w _ c) (by omega))).trans c;have hbl:=xK w1 _ c1;have HR:=hQ hrest;have HD1:=hQ hd1;have HSZ:=hQ (HS.out s (yA hk));clear hrest hd1 hk c
 go_wp2
 go_ret
 exact ⟨s,rfl,HSZ.out,HR.out,HD1.out⟩
theorem Zbv (B n:Nat) (ls:List ByteArray) (cs:Array Value) (w:World) (hd:DiceAt B w) (hcs:cs.toList=ls.map Value.string) (hn:ls.length=n) (h1:1≤n) (h2:n≤100) (hs:∀ s∈ls,s.size≤5) :
  Calls Tryz.prog 99 #[.pointer (some ⟨B,0,none⟩),.slice (some ⟨w.heap.size,0,none⟩) n n] (w.alloc (.cells cs 9)).drew fun e w'=>∃ s:ByteArray,e = .returned (.string s)∧s.size≤5∧Rest1 B w w'∧DiceAt B w':=by
 have hd0:=(hd.keep ((xC _ _).alloc (xA _) (.cells cs 9))).drew
 have hc:∀ (i:Nat) (s:ByteArray),ls[i]? = some s→(w.alloc (.cells cs 9)).drew.cell? ⟨w.heap.size,i,none⟩=some (.string s):=fun i s hi=>Qab (w:=(w.alloc (.cells cs 9)).drew) (xH w (.cells cs 9)) i _ (by
  rw [←Array.getElem?_toList,hcs,List.getElem?_map,hi];rfl)
 refine (Zbu B w.heap.size n ls _ hd0 hn h1 h2 hs hd.lt hc).mono ?_;rintro e w' ⟨s,q1,q2,q3,q4⟩;exact ⟨s,q1,q2,(Rest1.below ((xC _ _).alloc (xA _) (.cells cs 9))).trans q3.ofDrew,q4⟩
theorem Qxv (B:Nat) (N:Nat):∀ (t:Tr) (v:TV) (w:World),SizeOf.sizeOf t≤N→TrAt (fun b=>b<w.heap.size∧b≠B) w t v→DiceAt B w→Qe6 t=true→Qak t≤1000 →
  Calls Tryz.prog 68 #[.pointer (some ⟨B,0,none⟩),.agg #[.int .i64 v.kind,.string v.text,.slice v.la v.ll v.lc,.slice v.ka v.kl v.kc]] w (Qxe B (Qak t) v.kind w):=by
 induction N with
 | zero=>intro t v w h;have:=Qgu t;omega
 | succ N ih =>
  intro t v w hN h hd hti hsz;have HIH:=hQ ih;have HN:=hQ hN;have HSZ:=hQ hsz;have HB:=hQ hd.lt;obtain ⟨hx7,hll,hl5,hkt⟩:=Qbz.1 (show Qe6 (.mk t.kind t.text t.leads t.kids)=true from by rw [Tr.eta];exact hti);have HX7:=hQ hx7;have HLL:=hQ hll;have HL5:=hQ hl5;have HKT:=hQ hkt;have HKL:=hQ (show t.kids.length≤1000 from by have:=Qba t.kids;rw [Qa7] at hsz;omega);obtain ⟨e1,e2,e3,e4⟩:=h.kl;have HT:=hQ h;obtain ⟨vk,vx,vla,vll,vlc,vka,vkl,vkc⟩:=v;simp only at e1 e2 e3 e4;subst e1 e2 e4;have HW0:=hQ (((xC w.heap.size w).alloc (xA _) (trO ⟨vk,t.text,vla,t.leads.length,vlc,vka,t.kids.length,vkc⟩)).alloc (by rw [xI];omega) (.cells #[.int .i64 0,.string ⟨#[]⟩,.slice none 0 0,.slice none 0 0] 25));have HX:=hQ (show ((w.alloc (trO ⟨vk,t.text,vla,t.leads.length,vlc,vka,t.kids.length,vkc⟩)).alloc (.cells #[.int .i64 0,.string ⟨#[]⟩,.slice none 0 0,.slice none 0 0] 25)).heap[w.heap.size]? = some (trO ⟨vk,t.text,vla,t.leads.length,vlc,vka,t.kids.length,vkc⟩) from (((xC (w.alloc (trO ⟨vk,t.text,vla,t.leads.length,vlc,vka,t.kids.length,vkc⟩)).heap.size _).alloc (xA _) _).block w.heap.size (by simp)).trans (xH w _));have HR:=hQ (show ((w.alloc (trO ⟨vk,t.text,vla,t.leads.length,vlc,vka,t.kids.length,vkc⟩)).alloc (.cells #[.int .i64 0,.string ⟨#[]⟩,.slice none 0 0,.slice none 0 0] 25)).heap[w.heap.size+1]? = some (.cells #[.int .i64 0,.string ⟨#[]⟩,.slice none 0 0,.slice none 0 0] 25 (0,0)) from by rw [←xI w (trO ⟨vk,t.text,vla,t.leads.length,vlc,vka,t.kids.length,vkc⟩)];exact xH _ _);have HZ0:=hQ (show ((w.alloc (trO ⟨vk,t.text,vla,t.leads.length,vlc,vka,t.kids.length,vkc⟩)).alloc (.cells #[.int .i64 0,.string ⟨#[]⟩,.slice none 0 0,.slice none 0 0] 25)).heap.size=w.heap.size+2 from by simp);have HD0:=hQ (hd.keep HW0.out);have HR0:=hQ (Rest1.below (g:=B) HW0.out);have HT0:=hQ (HT.out.keep HW0.out);obtain ⟨it,hit,ht0,ht1,ht2⟩:=info_parts Qcd;obtain ⟨is,his,s0,s1,s2⟩:=info_parts Qcw;clear ih hN h hd hti hsz hx7 hll hl5 hkt e3
  go_enter Tryz.func68,Tryz.ntmps68
  go_upto_region 1 with fail
  have hx:((w.alloc (.cells #[.int .i64 vk,.string t.text,.slice vla t.leads.length vlc,.slice vka t.kids.length vkc] 25)).alloc (.cells #[.int .i64 0,.string ⟨#[]⟩,.slice none 0 0,.slice none 0 0] 25)).heap[w.heap.size]? = some (trO ⟨vk,t.text,vla,t.leads.length,vlc,vka,t.kids.length,vkc⟩):=HX.out;have hr:((w.alloc (.cells #[.int .i64 vk,.string t.text,.slice vla t.leads.length vlc,.slice vka t.kids.length vkc] 25)).alloc (.cells #[.int .i64 0,.string ⟨#[]⟩,.slice none 0 0,.slice none 0 0] 25)).heap[w.heap.size+1]? = some (.cells #[.int .i64 0,.string ⟨#[]⟩,.slice none 0 0,.slice none 0 0] 25 (0,0)):=HR.out;have hz0:((w.alloc (.cells #[.int .i64 vk,.string t.text,.slice vla t.leads.length vlc,.slice vka t.kids.length vkc] 25)).alloc (.cells #[.int .i64 0,.string ⟨#[]⟩,.slice none 0 0,.slice none 0 0] 25)).heap.size=w.heap.size+2:=HZ0.out;have hd0:DiceAt B ((w.alloc (.cells #[.int .i64 vk,.string t.text,.slice vla t.leads.length vlc,.slice vka t.kids.length vkc] 25)).alloc (.cells #[.int .i64 0,.string ⟨#[]⟩,.slice none 0 0,.slice none 0 0] 25)):=HD0.out;have hr0:Rest1 B w ((w.alloc (.cells #[.int .i64 vk,.string t.text,.slice vla t.leads.length vlc,.slice vka t.kids.length vkc] 25)).alloc (.cells #[.int .i64 0,.string ⟨#[]⟩,.slice none 0 0,.slice none 0 0] 25)):=HR0.out;have ht0':TrAt (fun b=>b<w.heap.size∧b≠B) ((w.alloc (.cells #[.int .i64 vk,.string t.text,.slice vla t.leads.length vlc,.slice vka t.kids.length vkc] 25)).alloc (.cells #[.int .i64 0,.string ⟨#[]⟩,.slice none 0 0,.slice none 0 0] 25)) t ⟨vk,t.text,vla,t.leads.length,vlc,vka,t.kids.length,vkc⟩:=HT0.out;clear HX HR HZ0 HD0 HR0 HT0 HW0
  generalize ((w.alloc (.cells #[.int .i64 vk,.string t.text,.slice vla t.leads.length vlc,.slice vka t.kids.length vkc] 25)).alloc (.cells #[.int .i64 0,.string ⟨#[]⟩,.slice none 0 0,.slice none 0 0] 25))=W at hx hr hz0 hd0 hr0 ht0' ⊢
  have HX:=hQ hx;have HR:=hQ hr;have HZ0:=hQ hz0;have HD0:=hQ hd0;have HR0:=hQ hr0;have HT0:=hQ ht0';clear hz0 hd0 hr0 ht0' hr;have k2:W.cell? ⟨w.heap.size,2,none⟩=some (.slice vla t.leads.length vlc):=Qab hx 2 _ rfl;have kl:w.heap.size<W.heap.size:=Qaa hx;have kf:∀ o,W.frozen? ⟨w.heap.size,o,none⟩=false:=fun o=>xL hx _
  clear hx
  go_cut [10] (fun _ wx=>Ls1C B vk t.text t.leads.length vka t.kids.length vkc w wx)
  case first =>
   by_cases hq:t.leads.length=0
   ·have HQ:=hQ hq;clear hq;go_wp2_with (at_builtin;refine Qfe rfl _ _ 23 rfl 9 is Tryz.underlying23 his (ad:=⟨W.heap.size,0,none⟩) (n:=0) (cap:=0) rfl (xA _) (A:=vla) (m:=t.leads.length) (c:=vlc) HQ.out rfl ?_)
    go_meet
    have hh:=Zeo (la':=some ⟨W.heap.size,0,none⟩) (lc':=0) HQ.out HB.out HR0.out HD0.out HX.out HR.out (.cells #[] 9);rw [HQ.out] at hh ⊢;exact ⟨_,_,hh⟩
   ·obtain ⟨lb,lo,hla,hcs⟩:=HT0.out.strsIn.vals (by show 0<t.leads.length;omega);have hla':vla=some ⟨lb,lo,none⟩:=hla;subst hla';have HW1:=hQ ((xC W.heap.size W).alloc (xA _) (.cells #[] 9));have HN1:=hQ (Zhc hcs HW1.out);have HQ0:=hQ (show 0<t.leads.length from by omega);have HM1:=hQ (show 0+t.leads.length≤maxLen from by have:=HLL.out;have:=HKL.out;unfold maxLen;omega);have HM2:=hQ (show (0+t.leads.length)*16≤140737488355328 from by have:=HLL.out;have:=HKL.out;omega);have HM3:=hQ (show W.heap.size≤(W.alloc (.cells #[] 9)).heap.size from HW1.out.size);have HON:=hQ (Qhv t.leads);clear hla hcs hq;go_wp2_with (at_builtin;refine wpList_append_lies _ rfl _ _ 23 rfl W.heap.size 9 is _ 1 16 Tryz.underlying23 his s0 s1 s2 rfl (by decide) (.slice (some ⟨W.heap.size,0,none⟩) 0 0) 0 [] rfl (Qkk W _) ⟨lb,lo,none⟩ t.leads.length vlc (t.leads.map Value.string) rfl (by rw [List.length_map,Nat.mul_one]) HN1.out HON.out HQ0.out HM1.out HM2.out HM3.out _ rfl ?_;intro g cap w5 hown hgr _ hlt;have hx5:=(show w5.heap[w.heap.size]? = _ from ((HW1.out.grown hgr HM3.out (fun k hk=>by simp [Value.ownBlock] at hk;omega)).block w.heap.size (Qaa HX.out)).trans HX.out);have HO5:=hQ hown;have HG5:=hQ hgr;clear k2 kl kf hown hgr hlt;simp only [Nat.zero_add];have k2:w5.cell? ⟨w.heap.size,2,none⟩=some (.slice (some ⟨lb,lo,none⟩) t.leads.length vlc):=Qab hx5 2 _ rfl;have kl:w.heap.size<w5.heap.size:=Qaa hx5;have kf:∀ o,w5.frozen? ⟨w.heap.size,o,none⟩=false:=fun o=>xL hx5 _;clear hx5)
    go_meet
    have ho:=HO5.out;simp only [Nat.zero_add,xU] at ho;exact ⟨_,_,Zep HB.out HZ0.out HR0.out HD0.out HX.out HR.out rfl HL5.out ho HG5.out⟩
  case rest =>
   obtain ⟨w3,hww⟩:∃ w',w'=wc:=⟨_,rfl⟩;subst hww;obtain ⟨la,lc,h3⟩:=hcut;have H3:=hQ h3;clear h3 k2 kl kf
   go_wp2
   go_loopw [5] (fun i wr=>∃ j:Nat,i = .int .i64 j∧j≤t.leads.length∧Ls1 B (⟨vk,t.text,la,t.leads.length,lc,vka,t.kids.length,vkc⟩:TV) w wr) (fun i _=>t.leads.length-(intOf i).toNat)
   case atStart=>exact ⟨0,rfl,xZ _,H3.out⟩
   case round =>
    obtain ⟨j,rfl,hj,h1⟩:=hrel;have H1:=hQ h1;clear h1;have hq1:(t.leads.length:Int)≤1006:=by have:=HLL.out;have:=HKL.out;omega
    by_cases hlt:j<t.leads.length
    ·have HLT:=hQ hlt;have k0:wr.cell? ⟨w.heap.size,0,none⟩=some (.int .i64 vk):=Qab H1.out.box 0 _ rfl;have k1:wr.cell? ⟨w.heap.size,1,none⟩=some (.string t.text):=Qab H1.out.box 1 _ rfl;have k2:wr.cell? ⟨w.heap.size,2,none⟩=some (.slice la t.leads.length lc):=Qab H1.out.box 2 _ rfl;have k3:wr.cell? ⟨w.heap.size,3,none⟩=some (.slice vka t.kids.length vkc):=Qab H1.out.box 3 _ rfl;have kl:w.heap.size<wr.heap.size:=Qaa H1.out.box;have kf:∀ o,wr.frozen? ⟨w.heap.size,o,none⟩=false:=fun o=>xL H1.out.box _
     obtain ⟨g,hla,hg1,_,_,_⟩:=H1.out.ld.at hlt;have hla':la=some ⟨g,0,none⟩:=hla;subst hla';have HG1:=hQ hg1;clear hla hg1;have hj0:(0:Int)≤(j:Int):=by omega
     have hj1:(j:Int)<(t.leads.length:Int):=by omega
     go_wp2_with fail
     go_at_call 42;refine (Qb9 B 9 _ H1.out.dice (by decide) (by decide)).mono ?_;rintro e w5 ⟨r,rfl,r0,r1,hrest,hd1⟩;have H5:=hQ (H1.out.step HB.out hrest hd1);clear hrest hd1 k0 k1 k2 k3 kl kf;have k0:w5.cell? ⟨w.heap.size,0,none⟩=some (.int .i64 vk):=Qab H5.out.box 0 _ rfl;have k1:w5.cell? ⟨w.heap.size,1,none⟩=some (.string t.text):=Qab H5.out.box 1 _ rfl;have k2:w5.cell? ⟨w.heap.size,2,none⟩=some (.slice (some ⟨g,0,none⟩) t.leads.length lc):=Qab H5.out.box 2 _ rfl;have k3:w5.cell? ⟨w.heap.size,3,none⟩=some (.slice vka t.kids.length vkc):=Qab H5.out.box 3 _ rfl;have kl:w.heap.size<w5.heap.size:=Qaa H5.out.box;have kf:∀ o,w5.frozen? ⟨w.heap.size,o,none⟩=false:=fun o=>xL H5.out.box _
     by_cases hr1:r=1
     ·subst hr1;have ng1:g≠w.heap.size:=by have:=HG1.out;omega
      have ng2:w.heap.size≠g:=fun e=>ng1 e.symm
      go_wp2_with fail
      go_region_held3 (fun w'=>w'.cell? ⟨w.heap.size,2,none⟩=some (.slice (some ⟨g,0,none⟩) t.leads.length lc)) (first | with_reducible exact k2 | go_keep) (first
       | (go_simp;go_at_call 99;refine (Zbv B 4 [(⟨#[32,35,32,99,10]⟩:ByteArray),⟨#[32,32]⟩,⟨#[10,9]⟩,⟨#[35,10]⟩] _ w5 H5.out.dice rfl rfl (by decide) (by decide) (by decide)).mono ?_;rintro e w6 ⟨s,rfl,hs,hrest6,hd6⟩;have HS6:=hQ hs;have H6:=hQ (H5.out.step HB.out hrest6 hd6);obtain ⟨g6,hla6,_,hgl6,hgf6,p6,hp6⟩:=H6.out.ld.at HLT.out;injection hla6 with hla6;injection hla6 with hla6 _ _;subst hla6;clear hs hrest6 hd6 k0 k1 k2 k3 kl kf;have k2:w6.cell? ⟨w.heap.size,2,none⟩=some (.slice (some ⟨g,0,none⟩) t.leads.length lc):=Qab H6.out.box 2 _ rfl;have kl:w.heap.size<w6.heap.size:=Qaa H6.out.box;have kf:∀ o,w6.frozen? ⟨w.heap.size,o,none⟩=false:=fun o=>xL H6.out.box _)
       | fail)
      all_goals
       go_wp2
       go_roundw
       case measure=>first | (simp [intOf];done) | (simp [intOf];omega)
       case rel=>exact ⟨j+1,by go_num,by omega,H6.out.put HB.out rfl HG1.out HLT.out HS6.out⟩
     ·have hr2:decide (r=1)=false:=xR hr1;have hr3:(r==1)=false:=by simpa using hr1
      go_wp2
      go_roundw
      case measure=>first | (simp [intOf];done) | (simp [intOf];omega)
      case rel=>exact ⟨j+1,by go_num,by omega,H5.out⟩
    ·obtain rfl:j=t.leads.length:=by omega
     have k0:wr.cell? ⟨w.heap.size,0,none⟩=some (.int .i64 vk):=Qab H1.out.box 0 _ rfl;have k1:wr.cell? ⟨w.heap.size,1,none⟩=some (.string t.text):=Qab H1.out.box 1 _ rfl;have k2:wr.cell? ⟨w.heap.size,2,none⟩=some (.slice la t.leads.length lc):=Qab H1.out.box 2 _ rfl;have k3:wr.cell? ⟨w.heap.size,3,none⟩=some (.slice vka t.kids.length vkc):=Qab H1.out.box 3 _ rfl;have kl:w.heap.size<wr.heap.size:=Qaa H1.out.box;have kf:∀ o,wr.frozen? ⟨w.heap.size,o,none⟩=false:=fun o=>xL H1.out.box _
     go_upto_region 7 with fail
     go_cut [32] (fun _ wx=>Ls2C B vk t.text la t.leads.length lc (fun b=>b<w.heap.size∧b≠B) t w wx)
     case first =>
      by_cases hn:t.kids.length=0
      ·have HNZ:=hQ hn;clear hn;go_wp2_with (at_builtin;refine Qfe rfl _ _ 22 rfl 25 it Tryz.underlying22 hit (ad:=⟨wr.heap.size,0,none⟩) (n:=0) (cap:=0) rfl (xA _) (A:=vka) (m:=t.kids.length) (c:=vkc) HNZ.out rfl ?_)
       go_meet
       have hh:=(H1.out.kids HB.out (some ⟨wr.heap.size,0,none⟩) t.kids.length 0 (xC _ _));have hk:=hh.step HB.out (Rest1.below ((xC _ _).alloc (xA _) (.cells #[] 25))) (hh.dice.keep ((xC _ _).alloc (xA _) (.cells #[] 25)));rw [HNZ.out] at hk;exact ⟨some ⟨wr.heap.size,0,none⟩,0,by rw [HNZ.out];exact hk,fun h0=>absurd h0 (by rw [HNZ.out];exact Nat.lt_irrefl 0)⟩
      ·obtain ⟨us,hul,hus,hucs⟩:=KidsIn.vals (TrAt.move (w':=wr) (S':=(fun b=>b<w.heap.size∧b≠B)) (fun _ h=>h) (fun b hb _=>H1.out.rest.block b hb.1 hb.2) _ _ HT.out);obtain ⟨kb,ko,hka,hcs⟩:=hucs (by omega);have hka':vka=some ⟨kb,ko,none⟩:=hka;subst hka';have HW1:=hQ ((xC wr.heap.size wr).alloc (xA _) (.cells #[] 25));have HN1:=hQ (Zhc hcs HW1.out);have HQ0:=hQ (show 0<t.kids.length from by omega);have HM1:=hQ (show 0+t.kids.length≤maxLen from by have:=HKL.out;unfold maxLen;omega);have HM2:=hQ (show (0+t.kids.length)*72≤140737488355328 from by have:=HKL.out;omega);have HM3:=hQ (show wr.heap.size≤(wr.alloc (.cells #[] 25)).heap.size from HW1.out.size);have HON:=hQ (Qcv us);have HUL:=hQ hul;have HUS:=hQ hus;clear hka hcs hn hul hus hucs k0 k1 k2;go_wp2_with (at_builtin;refine wpList_append_lies _ rfl _ _ 22 rfl wr.heap.size 25 it _ 4 72 Tryz.underlying22 hit ht0 ht1 ht2 rfl (by decide) (.slice (some ⟨wr.heap.size,0,none⟩) 0 0) 0 [] rfl (Qri wr _) ⟨kb,ko,none⟩ t.kids.length vkc (Qag us) rfl (by rw [Qd0,HUL.out]) HN1.out HON.out HQ0.out HM1.out HM2.out HM3.out _ rfl ?_;intro g cap w5 hown hgr _ hlt;have HB5:=hQ (show Below wr.heap.size wr w5 from HW1.out.grown hgr HM3.out (fun k hk=>by simp [Value.ownBlock] at hk;omega));have hx5:=(HB5.out.block w.heap.size (Qaa H1.out.box)).trans H1.out.box;have HO5:=hQ hown;clear k3 kl kf hown hgr hlt;simp only [Nat.zero_add];have k3:w5.cell? ⟨w.heap.size,3,none⟩=some (.slice (some ⟨kb,ko,none⟩) t.kids.length vkc):=Qab hx5 3 _ rfl;have kl:w.heap.size<w5.heap.size:=Qaa hx5;have kf:∀ o,w5.frozen? ⟨w.heap.size,o,none⟩=false:=fun o=>xL hx5 _;clear hx5)
       go_meet
       have ho:=HO5.out;simp only [Nat.zero_add,xU] at ho;obtain ⟨hc1,hc2⟩:=Ls3.start HB.out H1.out rfl HQ0.out HB5.out ho HUL.out HUS.out;exact ⟨_,_,hc2.one,fun _=>⟨hc1,g,us,rfl,hc2⟩⟩
     case rest =>
      obtain ⟨w4,hww⟩:∃ w',w'=wc:=⟨_,rfl⟩;subst hww;obtain ⟨ka,kc,h4,hs4⟩:=Ls2C.start hcut;have H4:=hQ h4;have HS4:=hQ hs4;clear h4 hs4 hcut k0 k1 k2 k3 kl kf
      go_wp2
      go_loopw [6] (fun i wx=>LkR B vk t.text la t.leads.length lc ka kc (fun b=>b<w.heap.size∧b≠B) t w i wx) (fun i _=>t.kids.length-(intOf i).toNat)
      case atStart=>exact HS4.out
      case round =>
       obtain ⟨j,rfl,hj,hd⟩:=hrel;have hn1:(t.kids.length:Int)≤1000:=by have:=HKL.out;omega
       rcases hd with ⟨hn,h1⟩|⟨hc,gk,ks,vs,hka,h3⟩
       ·have HNZ:=hQ hn;have HZ:=hQ h1;obtain rfl:j=0:=by omega
        have hn2:¬ 0<t.kids.length:=by omega
        obtain ⟨x0,x1,x2,x3,xl,xf⟩:=Qai HZ.out.res;have k0:wr.cell? ⟨w.heap.size,0,none⟩=some (.int .i64 vk):=Qab HZ.out.box 0 _ rfl;have k1:wr.cell? ⟨w.heap.size,1,none⟩=some (.string t.text):=Qab HZ.out.box 1 _ rfl;have k2:wr.cell? ⟨w.heap.size,2,none⟩=some (.slice la t.leads.length lc):=Qab HZ.out.box 2 _ rfl;have k3:wr.cell? ⟨w.heap.size,3,none⟩=some (.slice ka t.kids.length kc):=Qab HZ.out.box 3 _ rfl;have kl:w.heap.size<wr.heap.size:=Qaa HZ.out.box;have kf:∀ o,wr.frozen? ⟨w.heap.size,o,none⟩=false:=fun o=>xL HZ.out.box _
        clear hn h1
        go_wp2
        refine bodyPost_ret (v:=.agg #[.int .i64 vk,.string t.text,.slice la t.leads.length lc,.slice ka t.kids.length kc]) (by simp [results,Tryz.results68,go_sem, *]) rfl ?_;have hz:=HZ.out;rw [HNZ.out] at hz ⊢;exact hz.made HX7.out (by have:=HLL.out;have:=HNZ.out;omega) (xA _) HB.out
       ·subst hka;have H3:=hQ h3;have HC:=hQ hc;clear h3 hc;have k0:wr.cell? ⟨w.heap.size,0,none⟩=some (.int .i64 vk):=Qab H3.out.one.box 0 _ rfl;have k1:wr.cell? ⟨w.heap.size,1,none⟩=some (.string t.text):=Qab H3.out.one.box 1 _ rfl;have k2:wr.cell? ⟨w.heap.size,2,none⟩=some (.slice la t.leads.length lc):=Qab H3.out.one.box 2 _ rfl;have k3:wr.cell? ⟨w.heap.size,3,none⟩=some (.slice (some ⟨gk,0,none⟩) t.kids.length kc):=Qab H3.out.one.box 3 _ rfl;have kl:w.heap.size<wr.heap.size:=Qaa H3.out.one.box;have kf:∀ o,wr.frozen? ⟨w.heap.size,o,none⟩=false:=fun o=>xL H3.out.one.box _
        by_cases hlt:j<t.kids.length
        ·obtain ⟨k,hk⟩:∃ k,t.kids[j]? = some k:=⟨_,xF hlt⟩;obtain ⟨u,hu⟩:∃ u,vs[j]? = some u:=⟨_,xF (by rw [H3.out.vlen];exact hlt)⟩;obtain ⟨cs,hcs,hrow⟩:=H3.out.row;obtain ⟨c0,c1,c2,c3⟩:=RowIs.at hcs hrow hu;have cl:=Qaa hcs;have HK:=hQ hk;have GC0:=hQ c0;have GC1:=hQ c1;have GC2:=hQ c2;have GC3:=hQ c3;have HCS:=hQ hcs;have HNK:=hQ (show SizeOf.sizeOf k≤N from by have:=Qa0 hk;have:=HN.out;omega);have HTIK:=hQ (Qir t.kids j k HKT.out hk);have HSZK:=hQ (xQ (Qbe hk) HSZ.out);have HTK:=hQ (show TrAt (fun b=>b<wr.drew.heap.size∧b≠B) wr.drew k u from TrAt.move (w':=wr.drew) (fun b hb=>⟨xE hb.1 H3.out.one.rest.size,hb.2⟩) (fun b hb _=>H3.out.one.rest.block b hb.1 hb.2) _ _ (H3.out.todo j k u (xA _) hk hu));have hj0:(0:Int)≤(j:Int):=by omega
         have hj1:(j:Int)<(t.kids.length:Int):=by omega
         have hgk:=H3.out.glo;have gn1:gk≠w.heap.size:=by omega
         have gn2:w.heap.size≠gk:=by omega
         have hj2:(j:Int)+1≤1001:=by omega
         clear hk hu hcs hrow hgk;go_wp2_with fail
         go_region_law (first
          | (go_simp;go_at_call 68;refine (HIH.out k u _ HNK.out HTK.out H3.out.one.dice.drew HTIK.out HSZK.out).mono ?_;rintro e w5 ⟨k',y,rfl,hty0,hsz',hti',hrest0,hd5,_⟩;have hrest:=hrest0.ofDrew;have HTY:=hQ (show TrAt (fun b=>wr.heap.size≤b∧b<w5.heap.size) w5 k' y from hty0);have HSZ':=hQ hsz';have HTI':=hQ hti';have HR5:=hQ hrest;have HD5:=hQ hd5;have HX5:=hQ ((hrest.block w.heap.size (Qaa H3.out.one.box) (by have:=HB.out;omega)).trans H3.out.one.box);have HC5:=hQ ((hrest.block gk (Qaa HCS.out) (by have:=HB.out;have:=H3.out.glo;omega)).trans HCS.out);clear hty0 hsz' hti' hrest0 hrest hd5 k0 k1 k2 k3 kl kf c0 c1 c2 c3 cl;have k3:w5.cell? ⟨w.heap.size,3,none⟩=some (.slice (some ⟨gk,0,none⟩) t.kids.length kc):=Qab HX5.out 3 _ rfl;have kl:w.heap.size<w5.heap.size:=Qaa HX5.out;have kf:∀ o,w5.frozen? ⟨w.heap.size,o,none⟩=false:=fun o=>xL HX5.out _;have c0:=(xJ (w:=wr) (a:=⟨gk,j*4,none⟩) (HC5.out.trans HCS.out.symm)).trans GC0.out;have c1:=(xJ (w:=wr) (a:=⟨gk,j*4+1,none⟩) (HC5.out.trans HCS.out.symm)).trans GC1.out;have c2:=(xJ (w:=wr) (a:=⟨gk,j*4+2,none⟩) (HC5.out.trans HCS.out.symm)).trans GC2.out;have c3:=(xJ (w:=wr) (a:=⟨gk,j*4+3,none⟩) (HC5.out.trans HCS.out.symm)).trans GC3.out;have cl:gk<w5.heap.size:=Qaa HC5.out;have cf:∀ o,w5.frozen? ⟨gk,o,none⟩=false:=fun o=>xL HC5.out _)
          | fail)
         all_goals
          go_wp2
          go_roundw
          case measure=>first | (simp [intOf];done) | (simp [intOf];omega)
          case rel=>exact ⟨j+1,by go_num,by omega,.inr ⟨HC.out,gk,_,_,rfl,H3.out.next HB.out HK.out HR5.out HD5.out HTY.out HSZ'.out HTI'.out⟩⟩
        ·obtain rfl:j=t.kids.length:=by omega
         obtain ⟨x0,x1,x2,x3,xl,xf⟩:=Qai H3.out.one.res
         go_wp2
         refine bodyPost_ret (v:=.agg #[.int .i64 vk,.string t.text,.slice la t.leads.length lc,.slice (some ⟨gk,0,none⟩) t.kids.length kc]) (by simp [results,Tryz.results68,go_sem, *]) rfl ?_;exact H3.out.made rfl HX7.out HLL.out HC.out (xA _) HB.out
end Go.Proofs.YtfjpemdejoejbaaGreat
