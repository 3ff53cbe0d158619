/- Part 53 -/
import Derived.Test.YtjidpkcjpgdafaaGreatSe52
set_option maxRecDepth 100000
set_option maxHeartbeats 4000000
namespace Go.Proofs.YtjidpkcjpgdafaaGreat
open Go.RowKit Go.Shelf
theorem Zap {t:Tr} (hz:Qal t≤1000) (zs:List Int):∀ b∈Qbk t zs,b.2≠[]:=by
 intro b hb he;unfold Qbk at hb
 split at hb
 ·rename_i hc
  obtain ⟨h2,hs⟩:=Qhh hc.1;obtain ⟨w,hw⟩:=(Qiv zs t 0).1 hc.2;obtain ⟨k,k1,_,k3⟩:=Qj9 hs hz h2 zs t w [] [] (by rw [Qbr]) hw (fun b hb=>by simp at hb) b hb;rw [he,Qbr] at k1;injection k1 with k1;subst k1;omega
 ·simp at hb
theorem Qrg {t:Tr} (hz:Qal t≤1000) (zs:List Int):∀ b∈Qbk t zs,b.2.length≤1000:=by
 intro b hb;unfold Qbk at hb
 split at hb
 ·rename_i hc
  obtain ⟨h2,hs⟩:=Qhh hc.1;obtain ⟨w,hw⟩:=(Qiv zs t 0).1 hc.2;obtain ⟨k,k1,_,_⟩:=Qj9 hs hz h2 zs t w [] [] (by rw [Qbr]) hw (fun b hb=>by simp at hb) b hb;have:=Qud _ _ _ k1
  omega
 ·simp at hb
theorem Qll {t:Tr} (hf:Qfb t=true) (hz:Qal t≤1000) (zs:List Int):(∀ q∈Qej t zs,q≠[]∧q.length≤1000):=by
 intro q hq;rw [Ql6 hf hz] at hq;obtain ⟨b,hb,rfl⟩:=List.mem_map.1 hq;exact ⟨Zap hz zs b (List.mem_reverse.1 hb),Qrg hz zs b (List.mem_reverse.1 hb)⟩
theorem Qjj (t:Tr) (hz:Qal t≤1000) (zs:List Int) (hl:zs.length≤10000):(Qej t zs).length≤11000:=by
 unfold Qej
 split
 ·rw [xB,Qrd];have h1:=Qka t zs zs.length;have h2:=Qa5 t.kids;have h3:=Qa0 t;omega
 ·simp
theorem Qwn (S:Nat→Prop) (t:Tr) (v:TV) (PA:Option Addr) (c:Nat) (zs:List Int) (x:ByteArray) (w:World) (ht:TrAt S w t v) (hw:Qdi t=true) (hz:Qal t≤1000) (hA:IntsAt w PA zs) (hzl:zs.length≤10000) (hc:zs.length≤c) :
  Calls Tryz.prog 34 #[.agg #[.int .i64 v.kind,.string v.text,.slice v.la v.ll v.lc,.slice v.ka v.kl v.kc],.slice PA zs.length c,.string x] w (InnPost (Qeh (Qbk t zs) x) w):=by
 obtain ⟨ii,hii,iz0,iz1,iz2⟩:=info_parts Qmx;have hb0:=Qai w (trO v);have HT0:=hQ ht;have HT:=hQ (ht.keep hb0);have HX:=hQ (xH w (trO v));have HB0:=hQ hb0;have HZ:=hQ hz;have HW:=hQ hw;have HA:=hQ (hA.keep hb0);have HZL:=hQ hzl;have HC:=hQ hc;obtain ⟨vk,vx,vla,vll,vlc,vka,vkl,vkc⟩:=v;clear ht hb0 hz hw hA hzl hc
 cases hf:Qfb t
 ·have HN:=hQ (show Qeh (Qbk t zs) x=none from by rw [Qk3 hf];rfl);have HF:=hQ hf;clear hf;rw [HN.out]
  go_enter Tryz.func34,Tryz.ntmps34
  go_wp2_with (go_at_call 68;refine (Ql5 _ t _ _ HT.out HW.out HZ.out).mono ?_;rw [HF.out];rintro e w1 ⟨rfl,hb⟩;have HB1:=hQ (HB0.out.trans (hb.mono HB0.out.size));clear hb)
  go_ret2
  exact ⟨HB1.out,rfl⟩
 ·have HF:=hQ hf;have HIQ:=hQ (Zf3 hf HZ.out zs x);have HPQ:=hQ (Qll hf HZ.out zs);clear hf
  go_enter Tryz.func34,Tryz.ntmps34
  go_wp2_with fail
  go_at_call 68;refine (Ql5 _ t ⟨vk,vx,vla,vll,vlc,vka,vkl,vkc⟩ _ HT.out HW.out HZ.out).mono ?_;rw [HF.out];rintro e w1 ⟨rfl,hb1⟩;have HB1:=hQ (HB0.out.trans (hb1.mono HB0.out.size));have HX1:=hQ ((hb1.block _ (Qaa HX.out)).trans HX.out);have HT1:=hQ (HT.out.keep hb1);have HA1:=hQ (HA.out.keep hb1);have b0:w1.cell? ⟨w.heap.size,0,none⟩=some (.int .i64 vk):=Qab HX1.out 0 _ rfl;have b1:w1.cell? ⟨w.heap.size,1,none⟩=some (.string vx):=Qab HX1.out 1 _ rfl;have b2:w1.cell? ⟨w.heap.size,2,none⟩=some (.slice vla vll vlc):=Qab HX1.out 2 _ rfl;have b3:w1.cell? ⟨w.heap.size,3,none⟩=some (.slice vka vkl vkc):=Qab HX1.out 3 _ rfl;clear hb1;go_wp2_with fail
  go_at_call 69;refine (Qoq _ t ⟨vk,vx,vla,vll,vlc,vka,vkl,vkc⟩ PA c zs w1 HT1.out HZ.out HA1.out HZL.out HC.out).mono ?_;rintro e w2 ⟨r,rfl,hq,hb2⟩;obtain ⟨LA,lc,rfl⟩:=hq.slice;obtain ⟨ps,hps⟩:∃ ps,ps=Qej t zs:=⟨_,rfl⟩;have hpl:=Qjj t HZ.out zs HZL.out;rw [←hps] at hq hpl HIQ HPQ ⊢;have HQ:=hQ hq;have HB2:=hQ (HB1.out.trans (hb2.mono HB1.out.size));have HW2:=hQ hb2.size;have HX2:=hQ ((hb2.block _ (Qaa HX1.out)).trans HX1.out);have hpi:(ps.length:Int)≤11000:=by omega
  clear hq hps hpl hb2 b0 b1 b2 b3;go_wp2_with fail
  go_loopw [9] (fun i wr=>∃ k:Nat,i = .int .i64 (k:Int)∧k≤ps.length∧Qeh (Qbk t zs) x=(ps.drop k).find? (fun q=>decide (Qfg t q=x))∧Below w2.heap.size w2 wr) (fun i _=>ps.length-(intOf i).toNat)
  case atStart=>exact ⟨0,rfl,xZ _,HIQ.out,xC _ _⟩
  case round =>
   obtain ⟨k,rfl,hk,hfd,hb⟩:=hrel;obtain ⟨w5,hwo⟩:∃ w',w'=wr:=⟨_,rfl⟩;subst hwo;have HFD:=hQ hfd;have HB5:=hQ hb;clear hfd hb
   by_cases hkl:k<ps.length
   ·obtain ⟨q,hq⟩:∃ q,ps[k]? = some q:=⟨_,xF hkl⟩;obtain ⟨hq0,hq1⟩:=HPQ.out q (yA hq);obtain ⟨_,lg,QA,qc,rfl,_,gl,p0,hqi⟩:=(HQ.out.keep HW2.out HB5.out).at (xQ HW2.out HB5.out.size) hq
    have HFN:=hQ (show (ps.drop k).find? (fun q=>decide (Qfg t q=x))=if Qfg t q=x then some q else (ps.drop (k+1)).find? (fun q=>decide (Qfg t q=x)) from by
     rw [Qfx hq,List.find?_cons]
     by_cases h:Qfg t q=x
     ·rw [xS h,xO h]
     ·rw [xR h,xN h])
    have HX5:=hQ ((HB5.out.block _ (Qaa HX2.out)).trans HX2.out);have HBA:=hQ (HB2.out.trans (HB5.out.mono HB2.out.size));have HT5:=hQ (HT0.out.keep HBA.out);have HQI:=hQ hqi;have HQ0:=hQ hq0;have HQ1:=hQ hq1;have HCA:=hQ (fun (w':World) (hb:Below w5.heap.size w5 w')=>Qjd _ t ⟨vk,vx,vla,vll,vlc,vka,vkl,vkc⟩ QA qc q w' (HT5.out.keep hb) (HQI.out.keep hb) (by unfold maxLen;omega));have HB55:=hQ (xC w5.heap.size w5);have b0:w5.cell? ⟨w.heap.size,0,none⟩=some (.int .i64 vk):=Qab HX5.out 0 _ rfl;have b1:w5.cell? ⟨w.heap.size,1,none⟩=some (.string vx):=Qab HX5.out 1 _ rfl;have b2:w5.cell? ⟨w.heap.size,2,none⟩=some (.slice vla vll vlc):=Qab HX5.out 2 _ rfl;have b3:w5.cell? ⟨w.heap.size,3,none⟩=some (.slice vka vkl vkc):=Qab HX5.out 3 _ rfl;have dl:=Qaa HX5.out;have k0:(0:Int)≤(k:Int):=by omega
    have k1:(k:Int)<(ps.length:Int):=by omega
    have k2:(k:Int)+1≤11001:=by omega
    have n0:=World.new_ne w5 _ b0;have n1:=World.new_ne w5 _ p0;clear hq hqi hq0 hq1;go_wp2_with fail
    go_cut [10] (fun s7 wx=>AtK t q w5 s7 wx)
    case first =>
     go_region_held3 (fun w'=>w'.cell? ⟨w.heap.size,0,none⟩=some (.int .i64 vk)∧w'.cell? ⟨w.heap.size,1,none⟩=some (.string vx)∧w'.cell? ⟨w.heap.size,2,none⟩=some (.slice vla vll vlc)∧w'.cell? ⟨w.heap.size,3,none⟩=some (.slice vka vkl vkc)∧w'.cell? ⟨lg,k,none⟩=some (.slice QA q.length qc)) (first | with_reducible exact ⟨b0,b1,b2,b3,p0⟩ | go_keep) (first
      | (go_at_call 42;refine (HCA.out ((w5.alloc (.cells #[.int .i64 0,.string ⟨#[]⟩,.slice none 0 0,.slice none 0 0] 29)).drew) ((HB55.out.alloc HB55.out.size _).drew)).mono ?_;rintro e w3 ⟨hb3,x,rfl,S3,_,hx3⟩;have HKX:=hQ (And.intro hx3.kl.2.2.1 hx3.kl.2.2.2);have HB3:=hQ (show Below w5.heap.size w5 w3 from (((xC w5.heap.size w5).alloc (xA _) (.cells #[.int .i64 0,.string ⟨#[]⟩,.slice none 0 0,.slice none 0 0] 29)).drew).trans (hb3.mono (by show _≤(w5.alloc _).heap.size;rw [xI];omega)));have hzb:=(show w3.heap[w5.heap.size]? = some (.cells #[.int .i64 0,.string ⟨#[]⟩,.slice none 0 0,.slice none 0 0] 29 (0,0)) from (hb3.block _ (by show _<(w5.alloc _).heap.size;rw [xI];omega)).trans (xH w5 _));have HZB:=hQ hzb;have zf:∀ o,w3.frozen? ⟨w5.heap.size,o,none⟩=false:=(fun o=>xL hzb _);have zl:=Qaa hzb;have z0:w3.cell? ⟨w5.heap.size,0,none⟩=some (.int .i64 0):=Qab hzb 0 _ rfl;have z1:w3.cell? ⟨w5.heap.size,1,none⟩=some (.string ⟨#[]⟩):=Qab hzb 1 _ rfl;have z2:w3.cell? ⟨w5.heap.size,2,none⟩=some (.slice none 0 0):=Qab hzb 2 _ rfl;have z3:w3.cell? ⟨w5.heap.size,3,none⟩=some (.slice none 0 0):=Qab hzb 3 _ rfl;replace b0:=Qby HB3.out dl b0;replace b1:=Qby HB3.out dl b1;replace b2:=Qby HB3.out dl b2;replace b3:=Qby HB3.out dl b3;replace p0:=Qby HB3.out gl p0;replace dl:=xE dl HB3.out.size;replace gl:=xE gl HB3.out.size;clear hb3 hx3 hzb)
      | (go_at_call 42;refine (HCA.out w5.drew (HB55.out.drew)).mono ?_;rintro e w3 ⟨hb3,x,rfl,S3,_,hx3⟩;have HKX:=hQ (And.intro hx3.kl.2.2.1 hx3.kl.2.2.2);have HB3:=hQ (show Below w5.heap.size w5 w3 from (show Below w5.heap.size w5 w5.drew from (xC _ _).drew).trans hb3);replace b0:=Qby HB3.out dl b0;replace b1:=Qby HB3.out dl b1;replace b2:=Qby HB3.out dl b2;replace b3:=Qby HB3.out dl b3;replace p0:=Qby HB3.out gl p0;replace dl:=xE dl HB3.out.size;replace gl:=xE gl HB3.out.size;clear hb3 hx3))
     all_goals
      go_wp2_with fail
      go_meet
      first
       | (have hh:=HZB.out;clear hh;exact Qpy HZB.out HKX.out.1 HKX.out.2 HB3.out)
       | exact Qni HKX.out.1 HKX.out.2 HB3.out
    case rest =>
     obtain ⟨w6,hww⟩:∃ w',w'=wc:=⟨_,rfl⟩;subst hww;obtain ⟨g10,y,rfl,hxb,_,hxt,hb6⟩:=hcut;obtain ⟨yk,yx,yla,yll,ylc,yka,ykl,ykc⟩:=y;simp only at hxt;have x1:w6.cell? ⟨g10,1,none⟩=some (.string yx):=Qab hxb 1 _ rfl;have xl:=Qaa hxb;have p0:=Qby hb6 gl p0;have gl:=xE gl hb6.size;have HB6:=hQ (HB5.out.trans (hb6.mono HB5.out.size));have HBE:=hQ (HBA.out.trans (hb6.mono HBA.out.size));have HQI6:=hQ (HQI.out.keep hb6);have hyx:yx=Qfg t q:=hxt;rw [←hyx] at HFN;clear b0 b1 b2 b3 dl n0 n1 hxb hxt hyx hb6
     by_cases hxx:yx=x
     ·subst hxx;have HR:=hQ (show Qeh (Qbk t zs) yx=some q from by rw [HFD.out,HFN.out,xO rfl]);obtain ⟨qb,qo,rfl,hqb,hqc⟩:=HQI6.out HQ0.out
      have HC6:=hQ (show ∀ (j:Nat) (u:Value),(q.map (Value.int .i64))[j]? = some u→(w6.alloc (.cells #[] 3)).cell? ((⟨qb,qo,none⟩:Addr).add j)=some u from fun j u hu=>by
       rw [List.getElem?_map,Option.map_eq_some_iff] at hu;obtain ⟨z,hz,rfl⟩:=hu;have h2:=hqc j z hz;rw [Qqr];exact (xJ (w:=w6) (a:=⟨qb,qo+j,none⟩) (Below.heap_alloc _ _ qb hqb)).trans h2)
      have HO6:=hQ (show (w6.alloc (.cells #[] 3)).ownsRow w.heap.size 3 1 (.slice (some ⟨w6.heap.size,0,none⟩) 0 0) 0 [] from ⟨rfl,.inr ⟨w6.heap.size,0,#[],rfl,HBE.out.size,xH w6 _,xA _,xZ _,rfl,rfl⟩⟩);have HSZ:=hQ (show w.heap.size≤(w6.alloc (.cells #[] 3)).heap.size from by rw [xI];have:=HBE.out.size;omega);have HB7:=hQ (HBE.out.trans ((Qai w6 (.cells #[] 3)).mono HBE.out.size));have HP:=hQ (show 0<q.length from List.length_pos_iff.2 HQ0.out);clear hqb hqc;go_wp2_with (at_builtin;refine wpList_append_lies _ rfl _ _ 23 rfl w.heap.size 3 ii _ 1 8 Tryz.underlying23 hii iz0 iz1 iz2 rfl (by decide) (.slice (some ⟨w6.heap.size,0,none⟩) 0 0) 0 [] rfl HO6.out ⟨qb,qo,none⟩ q.length qc (q.map (Value.int .i64)) rfl (by simp) HC6.out (fun u hu=>by obtain ⟨x,_,rfl⟩:=List.mem_map.1 hu;rfl) HP.out (by have:=HQ1.out;unfold maxLen;omega) (by have:=HQ1.out;omega) HSZ.out _ rfl ?_;intro g2 c2 w8 hown hgr _ hlt;simp only [Nat.zero_add,xU] at hown ⊢;have HR3:=hQ (show IRow w8 w.heap.size (.slice (some ⟨g2,0,none⟩) q.length c2) q from hown);have HB8:=hQ (HB7.out.grown hgr HSZ.out (fun k hk=>by injection hk with hk;subst hk;exact HBE.out.size));clear hown hgr hlt)
      go_ret2
      rw [HR.out];exact ⟨HB8.out,_,rfl,HR3.out⟩
     ·have HR:=hQ (show Qeh (Qbk t zs) x=(ps.drop (k+1)).find? (fun q=>decide (Qfg t q=x)) from by rw [HFD.out,HFN.out,xN hxx]);have e1:=Qwm hxx;clear hxx;go_wp2_with fail
      go_roundw
      case measure=>first | (simp [intOf];done) | (simp [intOf];omega)
      case rel=>exact ⟨k+1,rfl,by omega,HR.out,HB6.out⟩
   ·obtain rfl:k=ps.length:=by omega
    have HR:=hQ (show Qeh (Qbk t zs) x=none from by rw [HFD.out,List.drop_length];rfl);go_wp2_with fail
    go_ret2
    rw [HR.out];exact ⟨HB2.out.trans (HB5.out.mono HB2.out.size),rfl⟩
theorem Qtg (S:Nat→Prop) (t:Tr) (v:TV) (PA:Option Addr) (c:Nat) (zs:List Int) (w:World) (ht:TrAt S w t v) (hw:Qdi t=true) (hz:Qal t≤1000) (hA:IntsAt w PA zs) (hzl:zs.length≤10000) (hc:zs.length≤c) :
  Calls Tryz.prog 40 #[.agg #[.int .i64 v.kind,.string v.text,.slice v.la v.ll v.lc,.slice v.ka v.kl v.kc],.slice PA zs.length c] w fun e w'=>∃ r,e = .returned r∧NRow w' w.heap.size r (Qxb t zs)∧Below w.heap.size w w':=by
 have hb0:=Qai w (trO v);have HT0:=hQ ht;have HT:=hQ (ht.keep hb0);have HX:=hQ (xH w (trO v));have HB0:=hQ hb0;have HZ:=hQ hz;have HW:=hQ hw;have HA:=hQ (hA.keep hb0);have HZL:=hQ hzl;have HC:=hQ hc;obtain ⟨vk,vx,vla,vll,vlc,vka,vkl,vkc⟩:=v;clear ht hb0 hz hw hA hzl hc
 cases hf:Qfb t
 ·have HN:=hQ (show Qxb t zs = [] from by unfold Qxb;rw [Qk3 hf];rfl);have HF:=hQ hf;clear hf
  go_enter Tryz.func40,Tryz.ntmps40
  go_wp2_with (go_at_call 68;refine (Ql5 _ t _ _ HT.out HW.out HZ.out).mono ?_;rw [HF.out];rintro e w1 ⟨rfl,hb⟩;have HB1:=hQ (HB0.out.trans (hb.mono HB0.out.size));clear hb)
  go_ret
  exact ⟨_,rfl,by rw [HN.out];exact NRow.nil _ _,HB1.out⟩
 ·have HF:=hQ hf;have HIQ:=hQ (vis_q hf HZ.out zs);have HPQ:=hQ (Qll hf HZ.out zs);clear hf
  go_enter Tryz.func40,Tryz.ntmps40
  go_wp2_with fail
  go_at_call 68;refine (Ql5 _ t ⟨vk,vx,vla,vll,vlc,vka,vkl,vkc⟩ _ HT.out HW.out HZ.out).mono ?_;rw [HF.out];rintro e w1 ⟨rfl,hb1⟩;have HB1:=hQ (HB0.out.trans (hb1.mono HB0.out.size));have HX1:=hQ ((hb1.block _ (Qaa HX.out)).trans HX.out);have HT1:=hQ (HT.out.keep hb1);have HA1:=hQ (HA.out.keep hb1);have b0:w1.cell? ⟨w.heap.size,0,none⟩=some (.int .i64 vk):=Qab HX1.out 0 _ rfl;have b1:w1.cell? ⟨w.heap.size,1,none⟩=some (.string vx):=Qab HX1.out 1 _ rfl;have b2:w1.cell? ⟨w.heap.size,2,none⟩=some (.slice vla vll vlc):=Qab HX1.out 2 _ rfl;have b3:w1.cell? ⟨w.heap.size,3,none⟩=some (.slice vka vkl vkc):=Qab HX1.out 3 _ rfl;clear hb1;go_wp2_with fail
  go_at_call 69;refine (Qoq _ t ⟨vk,vx,vla,vll,vlc,vka,vkl,vkc⟩ PA c zs w1 HT1.out HZ.out HA1.out HZL.out HC.out).mono ?_;rintro e w2 ⟨r,rfl,hq,hb2⟩;obtain ⟨LA,lc,rfl⟩:=hq.slice;obtain ⟨ps,hps⟩:∃ ps,ps=Qej t zs:=⟨_,rfl⟩;have hpl:=Qjj t HZ.out zs HZL.out;rw [←hps] at hq hpl HIQ HPQ ⊢;have HQ:=hQ hq;have HB2:=hQ (HB1.out.trans (hb2.mono HB1.out.size));have HW2:=hQ hb2.size;have HX2:=hQ ((hb2.block _ (Qaa HX1.out)).trans HX1.out);have hpi:(ps.length:Int)≤11000:=by omega
  clear hq hps hpl hb2 b0 b1 b2 b3;go_wp2_with fail
  go_loopw [5,7] (fun l i wr=>∃ k:Nat,i = .int .i64 (k:Int)∧k≤ps.length∧NRow wr w.heap.size l (Qfz ((ps.take k).map (Qfg t)))∧Below w2.heap.size w2 wr) (fun _ i _=>ps.length-(intOf i).toNat)
  case atStart=>exact ⟨0,rfl,xZ _,NRow.nil _ _,xC _ _⟩
  case round =>
   obtain ⟨k,rfl,hk,hfd,hb⟩:=hrel;obtain ⟨w5,hwo⟩:∃ w',w'=wr:=⟨_,rfl⟩;subst hwo;have HFD:=hQ hfd;have HB5:=hQ hb;clear hfd hb
   by_cases hkl:k<ps.length
   ·obtain ⟨q,hq⟩:∃ q,ps[k]? = some q:=⟨_,xF hkl⟩;obtain ⟨hq0,hq1⟩:=HPQ.out q (yA hq);obtain ⟨_,lg,QA,qc,rfl,_,gl,p0,hqi⟩:=(HQ.out.keep HW2.out HB5.out).at (xQ HW2.out HB5.out.size) hq
    have HNX:=hQ (show Qfz ((ps.take (k+1)).map (Qfg t))=Ql3 (Qfz ((ps.take k).map (Qfg t))) (Qfg t q) from by
     rw [List.take_add_one,hq,Option.toList_some,List.map_append,List.map_cons,List.map_nil,Qm3])
    have HNL:=hQ (show (Qfz ((ps.take k).map (Qfg t))).length≤100000 from by
     have h1:=Qkw ((ps.take k).map (Qfg t));rw [List.length_map,List.length_take] at h1;omega)
    have HX5:=hQ ((HB5.out.block _ (Qaa HX2.out)).trans HX2.out);have HBA:=hQ (HB2.out.trans (HB5.out.mono HB2.out.size));have HT5:=hQ (HT0.out.keep HBA.out);have HQI:=hQ hqi;have HQ0:=hQ hq0;have HQ1:=hQ hq1;have HCA:=hQ (fun (w':World) (hb:Below w5.heap.size w5 w')=>Qjd _ t ⟨vk,vx,vla,vll,vlc,vka,vkl,vkc⟩ QA qc q w' (HT5.out.keep hb) (HQI.out.keep hb) (by unfold maxLen;omega));have HB55:=hQ (xC w5.heap.size w5);have b0:w5.cell? ⟨w.heap.size,0,none⟩=some (.int .i64 vk):=Qab HX5.out 0 _ rfl;have b1:w5.cell? ⟨w.heap.size,1,none⟩=some (.string vx):=Qab HX5.out 1 _ rfl;have b2:w5.cell? ⟨w.heap.size,2,none⟩=some (.slice vla vll vlc):=Qab HX5.out 2 _ rfl;have b3:w5.cell? ⟨w.heap.size,3,none⟩=some (.slice vka vkl vkc):=Qab HX5.out 3 _ rfl;have dl:=Qaa HX5.out;have k0:(0:Int)≤(k:Int):=by omega
    have k1:(k:Int)<(ps.length:Int):=by omega
    have k2:(k:Int)+1≤11001:=by omega
    have n0:=World.new_ne w5 _ b0;have n1:=World.new_ne w5 _ p0;clear hq hqi hq0 hq1;go_wp2_with fail
    go_cut [8] (fun s7 wx=>AtK t q w5 s7 wx)
    case first =>
     go_region_held3 (fun w'=>w'.cell? ⟨w.heap.size,0,none⟩=some (.int .i64 vk)∧w'.cell? ⟨w.heap.size,1,none⟩=some (.string vx)∧w'.cell? ⟨w.heap.size,2,none⟩=some (.slice vla vll vlc)∧w'.cell? ⟨w.heap.size,3,none⟩=some (.slice vka vkl vkc)∧w'.cell? ⟨lg,k,none⟩=some (.slice QA q.length qc)) (first | with_reducible exact ⟨b0,b1,b2,b3,p0⟩ | go_keep) (first
      | (go_at_call 42;refine (HCA.out ((w5.alloc (.cells #[.int .i64 0,.string ⟨#[]⟩,.slice none 0 0,.slice none 0 0] 29)).drew) ((HB55.out.alloc HB55.out.size _).drew)).mono ?_;rintro e w3 ⟨hb3,x,rfl,S3,_,hx3⟩;have HKX:=hQ (And.intro hx3.kl.2.2.1 hx3.kl.2.2.2);have HB3:=hQ (show Below w5.heap.size w5 w3 from (((xC w5.heap.size w5).alloc (xA _) (.cells #[.int .i64 0,.string ⟨#[]⟩,.slice none 0 0,.slice none 0 0] 29)).drew).trans (hb3.mono (by show _≤(w5.alloc _).heap.size;rw [xI];omega)));have hzb:=(show w3.heap[w5.heap.size]? = some (.cells #[.int .i64 0,.string ⟨#[]⟩,.slice none 0 0,.slice none 0 0] 29 (0,0)) from (hb3.block _ (by show _<(w5.alloc _).heap.size;rw [xI];omega)).trans (xH w5 _));have HZB:=hQ hzb;have zf:∀ o,w3.frozen? ⟨w5.heap.size,o,none⟩=false:=(fun o=>xL hzb _);have zl:=Qaa hzb;have z0:w3.cell? ⟨w5.heap.size,0,none⟩=some (.int .i64 0):=Qab hzb 0 _ rfl;have z1:w3.cell? ⟨w5.heap.size,1,none⟩=some (.string ⟨#[]⟩):=Qab hzb 1 _ rfl;have z2:w3.cell? ⟨w5.heap.size,2,none⟩=some (.slice none 0 0):=Qab hzb 2 _ rfl;have z3:w3.cell? ⟨w5.heap.size,3,none⟩=some (.slice none 0 0):=Qab hzb 3 _ rfl;replace b0:=Qby HB3.out dl b0;replace b1:=Qby HB3.out dl b1;replace b2:=Qby HB3.out dl b2;replace b3:=Qby HB3.out dl b3;replace p0:=Qby HB3.out gl p0;replace dl:=xE dl HB3.out.size;replace gl:=xE gl HB3.out.size;clear hb3 hx3 hzb)
      | (go_at_call 42;refine (HCA.out w5.drew (HB55.out.drew)).mono ?_;rintro e w3 ⟨hb3,x,rfl,S3,_,hx3⟩;have HKX:=hQ (And.intro hx3.kl.2.2.1 hx3.kl.2.2.2);have HB3:=hQ (show Below w5.heap.size w5 w3 from (show Below w5.heap.size w5 w5.drew from (xC _ _).drew).trans hb3);replace b0:=Qby HB3.out dl b0;replace b1:=Qby HB3.out dl b1;replace b2:=Qby HB3.out dl b2;replace b3:=Qby HB3.out dl b3;replace p0:=Qby HB3.out gl p0;replace dl:=xE dl HB3.out.size;replace gl:=xE gl HB3.out.size;clear hb3 hx3))
     all_goals
      go_wp2_with fail
      go_meet
      first
       | (have hh:=HZB.out;clear hh;exact Qpy HZB.out HKX.out.1 HKX.out.2 HB3.out)
       | exact Qni HKX.out.1 HKX.out.2 HB3.out
    case rest =>
     obtain ⟨w6,hww⟩:∃ w',w'=wc:=⟨_,rfl⟩;subst hww;obtain ⟨g10,y,rfl,hxb,_,hxt,hb6⟩:=hcut;obtain ⟨yk,yx,yla,yll,ylc,yka,ykl,ykc⟩:=y;simp only at hxt;have x1:w6.cell? ⟨g10,1,none⟩=some (.string yx):=Qab hxb 1 _ rfl;have xl:=Qaa hxb;have HB6:=hQ (HB5.out.trans (hb6.mono HB5.out.size));have HBE:=hQ (HBA.out.trans (hb6.mono HBA.out.size));have HN6:=hQ (HFD.out.keep hb6);have hyx:yx=Qfg t q:=hxt;rw [←hyx] at HNX;clear b0 b1 b2 b3 dl n0 n1 hxb hxt hyx hb6 p0 gl;go_wp2_with fail
     go_at_call 74;refine (Zgi w.heap.size _ _ yx w6 HN6.out HNL.out HBE.out.size).mono ?_;rintro e w7 ⟨u,rfl,hu,hb7⟩;have HU:=hQ hu;have HB7:=hQ (HB6.out.trans (hb7.mono HB6.out.size));clear hu hb7;go_wp2_with fail
     go_roundw
     case measure=>first | (simp [intOf];done) | (simp [intOf];omega)
     case rel=>exact ⟨k+1,rfl,by omega,by rw [HNX.out];exact HU.out,HB7.out⟩
   ·obtain rfl:k=ps.length:=by omega
    go_wp2_with fail
    go_ret
    exact ⟨_,rfl,by have h:=HFD.out;rw [List.take_length,HIQ.out] at h;exact h,HB2.out.trans (HB5.out.mono HB2.out.size)⟩
end Go.Proofs.YtjidpkcjpgdafaaGreat
