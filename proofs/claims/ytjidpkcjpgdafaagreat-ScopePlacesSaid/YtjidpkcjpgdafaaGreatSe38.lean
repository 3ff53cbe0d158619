/- Part 38 -/
import Derived.Test.YtjidpkcjpgdafaaGreatSe37
import Derived.Deep.DeepCutAuto
set_option maxRecDepth 100000
set_option maxHeartbeats 4000000
namespace Go.Proofs.YtjidpkcjpgdafaaGreat
open Go.RowKit Go.Shelf
def Qpz (t:Tr) (zs:List Int) (k:Nat):Bool:=decide (((Qbr t (zs.take k)).getD Qkk).kind=20) && decide (zs[k]? = some 1)
def Qh1 (t:Tr) (zs:List Int):Nat→List (List Int)
 | 0=>[]
 | k+1=>(if Qpz t zs k=true then [zs.take k] else []) ++ Qh1 t zs k
def Qlx (n:Nat):List (List Int):=(List.range n).map fun (i:Nat)=>[(i:Int)]
theorem Qop (n:Nat):Qlx (n+1)=Qlx n ++ [[(n:Int)]]:=by
 unfold Qlx;rw [List.range_succ,List.map_append];rfl
theorem Qrd (n:Nat):(Qlx n).length=n:=by unfold Qlx;simp
theorem Qka (t:Tr) (zs:List Int):(k:Nat)→(Qh1 t zs k).length≤k
 | 0=>by rw [Qh1];exact xZ _
 | k+1=>by
  rw [Qh1,xB];have:=Qka t zs k
  split <;> simp <;> omega
def Qej (t:Tr) (zs:List Int):List (List Int):=if (Qbr t zs).isSome=true∧zs[0]? = some ((t.kids.length:Int)-1) then Qh1 t zs zs.length ++ Qlx (t.kids.length-2) else []
def QArL (t:Tr) (v:TV) (zs:List Int) (w W:World) (l i:Value) (wr:World):Prop:=∃ (k:Nat) (done:List (List Int)),i = .int .i64 (k:Int)∧k≤zs.length∧PhRow wr w.heap.size W.heap.size l done∧done ++ Qh1 t zs k=Qh1 t zs zs.length∧wr.heap[w.heap.size]? = some (trO v)∧Below W.heap.size W wr
def QArP (t:Tr) (_:TV) (zs:List Int) (w W:World) (l i:Value) (wr:World):Prop:=∃ k:Nat,i = .int .i64 (k:Int)∧k≤t.kids.length-2∧PhRow wr w.heap.size W.heap.size l (Qh1 t zs zs.length ++ Qlx k)∧Below W.heap.size W wr
theorem Qoq (S:Nat→Prop) (t:Tr) (v:TV) (PA:Option Addr) (c:Nat) (zs:List Int) (w:World) (ht:TrAt S w t v) (hz:Qal t≤1000) (hA:IntsAt w PA zs) (hzl:zs.length≤10000) (hc:zs.length≤c) :
  Calls Tryz.prog 69 #[.agg #[.int .i64 v.kind,.string v.text,.slice v.la v.ll v.lc,.slice v.ka v.kl v.kc],.slice PA zs.length c] w fun e w'=>∃ r,e = .returned r∧PhRow w' w.heap.size w.heap.size r (Qej t zs)∧Below w.heap.size w w':=by
 obtain ⟨it,hit,ht0,ht1,ht2⟩:=info_parts Zak;have hb0:=Qai w (trO v);have HT:=hQ (ht.keep hb0);have HT0:=hQ ht;have HX:=hQ (xH w (trO v));have HB0:=hQ hb0;have HZ:=hQ hz;have HA0:=hQ hA;have HA:=hQ (hA.keep hb0);have HZL:=hQ hzl;have HC:=hQ hc;have hkl:=ht.kl.1;have HK:=hQ (show t.kids.length≤1000 from by have h1:=Qa5 t.kids;have h2:=Qa0 t;omega);obtain ⟨vk,vx,vla,vll,vlc,vka,vkl,vkc⟩:=v;simp only at hkl;subst hkl;clear ht hb0 hz hA hzl hc
 cases hf:(Qbr t zs).isSome
 ·have HF:=hQ (show Qej t zs = [] from by unfold Qej;rw [hf,xN (by simp)]);have HFI:=hQ hf;clear hf
  go_enter Tryz.func69,Tryz.ntmps69
  go_wp2_with fail
  go_at_call 42;refine (Qjd _ t ⟨vk,vx,vla,vll,vlc,vka,t.kids.length,vkc⟩ PA c zs _ HT.out HA.out (by have:=HZL.out;unfold maxLen;omega)).mono ?_;rintro e w1 ⟨hb1,x,rfl,S3,_,hx3⟩;have HB1:=hQ (HB0.out.trans (hb1.mono HB0.out.size));have HX1:=hQ ((hb1.block _ (Qaa HX.out)).trans HX.out);obtain ⟨xk,xx,xla,xll,xlc,xka,xkl,xkc⟩:=x;have HBX:=hQ (Qai w1 (trO ⟨xk,xx,xla,xll,xlc,xka,xkl,xkc⟩));clear hb1 hx3;rw [HFI.out];go_wp2_with fail
  go_ret
  exact ⟨_,rfl,by rw [HF.out];exact PhRow.nil _ _ _,HB1.out.trans (HBX.out.mono HB1.out.size)⟩
 ·by_cases h0:zs[0]? = some ((t.kids.length:Int)-1)
  ·have HF:=hQ (show Qej t zs=Qh1 t zs zs.length ++ Qlx (t.kids.length-2) from by unfold Qej;rw [hf,xO ⟨rfl,h0⟩]);have hpos:=(xP.1 h0).1;have HFI:=hQ hf;have H0:=hQ h0;have HPOS:=hQ hpos;clear hf h0 hpos
   go_enter Tryz.func69,Tryz.ntmps69
   go_wp2_with fail
   go_at_call 42;refine (Qjd _ t ⟨vk,vx,vla,vll,vlc,vka,t.kids.length,vkc⟩ PA c zs _ HT.out HA.out (by have:=HZL.out;unfold maxLen;omega)).mono ?_;rintro e w1 ⟨hb1,x,rfl,S3,_,hx3⟩;have HB1:=hQ (HB0.out.trans (hb1.mono HB0.out.size));have HX1:=hQ ((hb1.block _ (Qaa HX.out)).trans HX.out);obtain ⟨xk,xx,xla,xll,xlc,xka,xkl,xkc⟩:=x;have HBX:=hQ (Qai w1 (trO ⟨xk,xx,xla,xll,xlc,xka,xkl,xkc⟩));clear hb1 hx3;rw [HFI.out];have hpos:=HPOS.out;have h0:=H0.out;obtain ⟨ab,ao,rfl,al0,hac⟩:=(HA0.out.keep HB1.out) (by intro h;rw [h] at hpos;simp at hpos);have a0:=hac 0 _ h0;rw [Nat.add_zero] at a0;have l0:((zs.length:Int)==0)=false:=by rw [beq_eq_false_iff_ne];omega
   have l1:(0:Int)<(zs.length:Int):=by omega
   have l2:¬ ((zs.length:Int)=0):=by omega
   have hkb:(t.kids.length:Int)≤1000:=by have:=HK.out;omega
   have hzb:(zs.length:Int)≤10000:=by have:=HZL.out;omega
   clear hac h0;go_wp2_with fail
   obtain ⟨W,hW⟩:∃ W,W=w1.alloc (trO ⟨xk,xx,xla,xll,xlc,xka,xkl,xkc⟩):=⟨_,rfl⟩;rw [show (w1.alloc (.cells #[.int .i64 xk,.string xx,.slice xla xll xlc,.slice xka xkl xkc] 29))=W from hW.symm];have HBW:=hQ (show Below w.heap.size w W from by rw [hW];exact HB1.out.trans (HBX.out.mono HB1.out.size));have HXW:=hQ (show W.heap[w.heap.size]? = some (trO ⟨vk,vx,vla,vll,vlc,vka,t.kids.length,vkc⟩) from by rw [hW];exact (HBX.out.block _ (Qaa HX1.out)).trans HX1.out);have HWS:=hQ (Qaa HXW.out);clear hW a0 al0 l0 l1 l2 hpos HBX HX1 HB1
   go_loopw [8,9] (fun l i wr=>QArL t ⟨vk,vx,vla,vll,vlc,vka,t.kids.length,vkc⟩ zs w W l i wr) (fun _ i _=>(intOf i).toNat)
   case atStart=>exact ⟨zs.length,[],rfl,xA _,PhRow.nil _ _ _,rfl,HXW.out,xC _ _⟩
   case round =>
    obtain ⟨k,done,rfl,hk,hq,hdn,hx,hb⟩:=hrel;obtain ⟨w5,hwo⟩:∃ w',w'=wr:=⟨_,rfl⟩;subst hwo;have HQ:=hQ hq;have HDN:=hQ hdn;have HX5:=hQ hx;have HB5:=hQ hb;clear hq hdn hx hb
    by_cases hkp:0<k
    ·obtain ⟨m,rfl⟩:∃ m,k=m+1:=⟨k-1,by omega⟩;rw [show (((m+1:Nat)):Int)=(m:Int)+1 from by omega];obtain ⟨z,hz⟩:∃ z,zs[m]? = some z:=⟨_,xF (by omega)⟩;have hlm:(zs.take m).length=m:=by rw [List.length_take];omega
     have HLM:=hQ hlm;have HAM:=hQ (show IntsAt w5 (some ⟨ab,ao,none⟩) (zs.take m) from (HA0.out.keep (HBW.out.trans (HB5.out.mono HBW.out.size))).take);have HAL:=hQ (show IntsAt w5 (some ⟨ab,ao,none⟩) zs from HA0.out.keep (HBW.out.trans (HB5.out.mono HBW.out.size)));have HTM:=hQ (HT0.out.keep (HBW.out.trans (HB5.out.mono HBW.out.size)))
     have HCA:=hQ (show ∀ (w':World) (hb:Below w5.heap.size w5 w'),Calls Tryz.prog 42 #[.agg #[.int .i64 vk,.string vx,.slice vla vll vlc,.slice vka t.kids.length vkc],.slice (some ⟨ab,ao,none⟩) m c] w' (Zd1 t (zs.take m) w') from fun w' hb=>by
      have h:=Qjd _ t ⟨vk,vx,vla,vll,vlc,vka,t.kids.length,vkc⟩ (some ⟨ab,ao,none⟩) c (zs.take m) w' (HTM.out.keep hb) (HAM.out.keep hb) (by rw [HLM.out];unfold maxLen;omega);rw [HLM.out] at h;exact h)
     have HB55:=hQ (xC w5.heap.size w5);have HLA:=hQ (show Qpz t zs m=(decide (((Qbr t (zs.take m)).getD Qkk).kind=20) && decide (z=1)) from by unfold Qpz;rw [hz];simp);have HLK:=hQ (show Qh1 t zs (m+1)=(if Qpz t zs m=true then [zs.take m] else []) ++ Qh1 t zs m from by rw [Qh1]);obtain ⟨_,_,hab,al,hac⟩:=HAL.out (by intro h;rw [h] at hz;simp at hz);injection hab with hab;injection hab with hab1 hab2;subst hab1 hab2;have am:=hac m z hz;have b0:w5.cell? ⟨w.heap.size,0,none⟩=some (.int .i64 vk):=Qab HX5.out 0 _ rfl;have b1:w5.cell? ⟨w.heap.size,1,none⟩=some (.string vx):=Qab HX5.out 1 _ rfl;have b2:w5.cell? ⟨w.heap.size,2,none⟩=some (.slice vla vll vlc):=Qab HX5.out 2 _ rfl;have b3:w5.cell? ⟨w.heap.size,3,none⟩=some (.slice vka t.kids.length vkc):=Qab HX5.out 3 _ rfl;have dl:=Qaa HX5.out
     have hw1:IntKind.i64.wrap ((m:Int)+1-1)=(m:Int):=by
      rw [show (m:Int)+1-1=(m:Int) from by omega];exact IntWalk.i64_in _ (by omega)
     have hw2:IntKind.i64.wrap (m:Int)=(m:Int):=IntWalk.i64_in _ (by omega);have m0:(0:Int)≤(m:Int):=by omega
     have m1:(m:Int)<(zs.length:Int):=by omega
     have m2:(m:Int)≤(c:Int):=by have:=HC.out;omega
     have m3:(m:Int)+1≤10001:=by omega
     have n0:=World.new_ne w5 _ b0;clear hac hz hlm;go_wp2_with fail
     go_cut [10] (fun s7 wx=>AtK t (zs.take m) w5 s7 wx)
     case first =>
      go_region_held3 (fun w'=>w'.cell? ⟨w.heap.size,0,none⟩=some (.int .i64 vk)∧w'.cell? ⟨w.heap.size,1,none⟩=some (.string vx)∧w'.cell? ⟨w.heap.size,2,none⟩=some (.slice vla vll vlc)∧w'.cell? ⟨w.heap.size,3,none⟩=some (.slice vka t.kids.length vkc)) (first | with_reducible exact ⟨b0,b1,b2,b3⟩ | go_keep) (first
       | (go_at_call 42;refine (HCA.out ((w5.alloc (.cells #[.int .i64 0,.string ⟨#[]⟩,.slice none 0 0,.slice none 0 0] 29)).drew) ((HB55.out.alloc HB55.out.size _).drew)).mono ?_;rintro e w3 ⟨hb3,x,rfl,S3,_,hx3⟩;have HKX:=hQ (And.intro hx3.kl.2.2.1 hx3.kl.2.2.2);have HB3:=hQ (show Below w5.heap.size w5 w3 from (((xC w5.heap.size w5).alloc (xA _) (.cells #[.int .i64 0,.string ⟨#[]⟩,.slice none 0 0,.slice none 0 0] 29)).drew).trans (hb3.mono (by show _≤(w5.alloc _).heap.size;rw [xI];omega)));have hzb:=(show w3.heap[w5.heap.size]? = some (.cells #[.int .i64 0,.string ⟨#[]⟩,.slice none 0 0,.slice none 0 0] 29 (0,0)) from (hb3.block _ (by show _<(w5.alloc _).heap.size;rw [xI];omega)).trans (xH w5 _));have HZB:=hQ hzb;have zf:∀ o,w3.frozen? ⟨w5.heap.size,o,none⟩=false:=(fun o=>xL hzb _);have zl:=Qaa hzb;have z0:w3.cell? ⟨w5.heap.size,0,none⟩=some (.int .i64 0):=Qab hzb 0 _ rfl;have z1:w3.cell? ⟨w5.heap.size,1,none⟩=some (.string ⟨#[]⟩):=Qab hzb 1 _ rfl;have z2:w3.cell? ⟨w5.heap.size,2,none⟩=some (.slice none 0 0):=Qab hzb 2 _ rfl;have z3:w3.cell? ⟨w5.heap.size,3,none⟩=some (.slice none 0 0):=Qab hzb 3 _ rfl;replace b0:=Qby HB3.out dl b0;replace b1:=Qby HB3.out dl b1;replace b2:=Qby HB3.out dl b2;replace b3:=Qby HB3.out dl b3;replace dl:=xE dl HB3.out.size;clear hb3 hx3 hzb)
       | (go_at_call 42;refine (HCA.out w5.drew (HB55.out.drew)).mono ?_;rintro e w3 ⟨hb3,x,rfl,S3,_,hx3⟩;have HKX:=hQ (And.intro hx3.kl.2.2.1 hx3.kl.2.2.2);have HB3:=hQ (show Below w5.heap.size w5 w3 from (show Below w5.heap.size w5 w5.drew from (xC _ _).drew).trans hb3);replace b0:=Qby HB3.out dl b0;replace b1:=Qby HB3.out dl b1;replace b2:=Qby HB3.out dl b2;replace b3:=Qby HB3.out dl b3;replace dl:=xE dl HB3.out.size;clear hb3 hx3))
      all_goals
       go_wp2_with fail
       go_meet
       first
        | (have hh:=HZB.out;clear hh;exact Qpy HZB.out HKX.out.1 HKX.out.2 HB3.out)
        | exact Qni HKX.out.1 HKX.out.2 HB3.out
     case rest =>
      obtain ⟨w6,hww⟩:∃ w',w'=wc:=⟨_,rfl⟩;subst hww;obtain ⟨g10,x,rfl,hxb,hxk,_,hb6⟩:=hcut;obtain ⟨yk,yx,yla,yll,ylc,yka,ykl,ykc⟩:=x;simp only at hxk;rw [←hxk] at HLA;have x0:w6.cell? ⟨g10,0,none⟩=some (.int .i64 yk):=Qab hxb 0 _ rfl;have xl:=Qaa hxb;have am:=Qby hb6 al am;have al:=xE al hb6.size;have HQ6:=hQ (HQ.out.keep (xQ (Nat.le_of_lt HWS.out) HB5.out.size) hb6);have HX6:=hQ ((hb6.block _ dl).trans HX5.out);have HB6:=hQ (HB5.out.trans (hb6.mono HB5.out.size));have HBE:=hQ (HBW.out.trans (HB6.out.mono HBW.out.size));clear b0 b1 b2 b3 dl n0 hxb hxk hb6
      by_cases h20:yk=20
      ·by_cases h1:z=1
       ·have HLN:=hQ (show Qpz t zs m=true from by rw [HLA.out,h20,h1];rfl);subst h20 h1;obtain ⟨hs,q1,q2,q3⟩:=HQ6.out;obtain ⟨LA,lc,hl⟩:=Qdv q2;subst hl;have Q1:=hQ q1;have HA6:=hQ (Qai w6 (.cells #[.slice (some ⟨ab,ao,none⟩) m c] 23));have Q2:=hQ ((Keeps.of_below (P:=fun _=>none) HA6.out).row q2 fun _ _=>.inl rfl);have Q3:=hQ (show ∀ (j:Nat) (h:Value) (p:List Int),hs[j]? = some h→done[j]? = some p→PthAt (w6.alloc (.cells #[.slice (some ⟨ab,ao,none⟩) m c] 23)) w.heap.size h p from fun j h p hh hp=>(q3 j h p hh hp).keep HBE.out.size HA6.out)
        have HNW:=hQ (show ∀ (j:Nat) (x:Value),([.slice (some ⟨ab,ao,none⟩) m c]:List Value)[j]? = some x→(w6.alloc (.cells #[.slice (some ⟨ab,ao,none⟩) m c] 23)).cell? ((⟨w6.heap.size,0,none⟩:Addr).add j)=some x from fun j x hx=>by
         rw [Addr.add_lit,Nat.zero_add];exact Qab (xH w6 _) j x (by rw [←Array.getElem?_toList];exact hx))
        have HALL:=hQ (show ∀ u∈([.slice (some ⟨ab,ao,none⟩) m c]:List Value),u.oneCell'=true from fun u hu=>by obtain rfl:=List.mem_singleton.1 hu;rfl)
        have HDL:=hQ (show done.length+1≤10000 from by
         have h:=congrArg List.length HDN.out;rw [HLK.out,xO HLN.out,xB,xB,List.length_singleton] at h;have h2:=Qka t zs zs.length;have:=HZL.out
         omega)
        have HM1:=hQ (show done.length+1≤maxLen from by have:=HDL.out;unfold maxLen;omega);have HM2:=hQ (show (done.length+1)*24≤140737488355328 from by have:=HDL.out;omega);have HSZ:=hQ (show W.heap.size≤(w6.alloc (.cells #[.slice (some ⟨ab,ao,none⟩) m c] 23)).heap.size from by rw [xI];have:=HB6.out.size;omega);clear q1 q2 q3;go_wp2_with (at_builtin;refine Qfm _ rfl _ _ 41 rfl W.heap.size 23 it _ 1 24 Tryz.underlying41 hit ht0 ht1 ht2 rfl (by decide) _ done.length hs rfl Q2.out ⟨w6.heap.size,0,none⟩ 1 1 [.slice (some ⟨ab,ao,none⟩) m c] rfl rfl HNW.out HALL.out (by decide) HM1.out HM2.out HSZ.out ?_;intro g7 c7 w7 hown7 hk7 hg7 hlt7;have HO7:=hQ hown7;have HK7:=hQ hk7;clear hown7 hk7 hg7 hlt7)
        go_roundw
        case measure=>first | (simp [intOf];done) | (simp [intOf];omega)
        case rel =>
         have hlow:∀ b,(Value.slice LA done.length lc).ownBlock=some b→W.heap.size≤b:=fun b e=>(World.ownsRow.lt Q2.out b e).1
         have hbk:Below W.heap.size (w6.alloc (.cells #[.slice (some ⟨ab,ao,none⟩) m c] 23)) w7:=HK7.out.below HSZ.out fun b hl=>Qcr fun e=>by have:=hlow b e;omega
         have hb7:=(HB6.out.trans (HA6.out.mono HB6.out.size)).trans hbk;refine ⟨m,done ++ [zs.take m],rfl,by omega,?_,by have h:=HDN.out;rw [HLK.out,xO HLN.out,←xT] at h;exact h,(hb7.block _ HWS.out).trans HXW.out,hb7⟩
         have hp:PthAt (w6.alloc (.cells #[.slice (some ⟨ab,ao,none⟩) m c] 23)) w.heap.size (.slice (some ⟨ab,ao,none⟩) m c) (zs.take m):=by
          have h:=PthAt.of_ints (p:=zs.take m) HA0.out.take (HBE.out.trans (HA6.out.mono HBE.out.size)) c;rw [HLM.out] at h;exact h
         have h:=PhRow.snoc Q1.out Q2.out Q3.out hp HBW.out.size (xQ HBE.out.size HA6.out.size) HO7.out HK7.out;exact h
       ·have HLN:=hQ (show Qpz t zs m=false from by rw [HLA.out,xR h1,Bool.and_false]);subst h20;have z1:(z==1)=false:=by simpa using h1
        clear h1;go_wp2_with fail
        go_roundw
        case measure=>first | (simp [intOf];done) | (simp [intOf];omega)
        case rel=>exact ⟨m,done,rfl,by omega,HQ6.out,by have h:=HDN.out;rw [HLK.out,xN (by rw [HLN.out];decide),xU] at h;exact h,HX6.out,HB6.out⟩
      ·have HLN:=hQ (show Qpz t zs m=false from by rw [HLA.out,xR h20,Bool.false_and]);have y1:(yk==20)=false:=by simpa using h20
       clear h20;go_wp2_with fail
       go_roundw
       case measure=>first | (simp [intOf];done) | (simp [intOf];omega)
       case rel=>exact ⟨m,done,rfl,by omega,HQ6.out,by have h:=HDN.out;rw [HLK.out,xN (by rw [HLN.out];decide),xU] at h;exact h,HX6.out,HB6.out⟩
    ·obtain rfl:k=0:=by omega
     rw [show ((0:Nat):Int)=0 from rfl];have HDN0:=hQ (show done=Qh1 t zs zs.length from by have h:=HDN.out;rw [Qh1,List.append_nil] at h;exact h);have HQ5:=hQ (show PhRow w5 w.heap.size W.heap.size _ (Qh1 t zs zs.length) from by rw [←HDN0.out];exact HQ.out);clear HDN HDN0 HQ;go_wp2_with fail
     go_loopw [8,12] (fun l i wr=>QArP t ⟨vk,vx,vla,vll,vlc,vka,t.kids.length,vkc⟩ zs w W l i wr) (fun _ i _=>t.kids.length-(intOf i).toNat)
     case atStart=>exact ⟨0,rfl,xZ _,by unfold Qlx;rw [List.range_zero,List.map_nil,List.append_nil];exact HQ5.out,HB5.out⟩
     case round =>
      obtain ⟨k,rfl,hk2,hq,hb⟩:=hrel;have HQ:=hQ hq;have HB7:=hQ hb;clear hq hb
      by_cases hkl:k<t.kids.length-2
      ·have k0:(0:Int)≤(k:Int):=by omega
       have k1:(k:Int)<(t.kids.length:Int)-2:=by omega
       have k2:(k:Int)+1≤1001:=by omega
       obtain ⟨hs,q1,q2,q3⟩:=HQ.out;obtain ⟨LA,lc,hl⟩:=Qdv q2;subst hl;obtain ⟨us,hus⟩:∃ us,us=Qh1 t zs zs.length ++ Qlx k:=⟨_,rfl⟩;rw [←hus] at q1 q2 q3 ⊢;have HUS:=hQ hus;obtain ⟨V,hV⟩:∃ V,V=(wr.alloc (.cells #[.int .i64 (k:Int)] 3)).alloc (.cells #[.slice (some ⟨wr.heap.size,0,none⟩) 1 1] 23):=⟨_,rfl⟩
       have hbv:Below wr.heap.size wr V:=by
        rw [hV];exact (Qai wr _).trans ((Qai _ _).mono (by rw [xI];omega))
       have hv0:V.heap[wr.heap.size]? = some (.cells #[.int .i64 (k:Int)] 3 (0,0)):=by
        rw [hV];exact ((Qai (wr.alloc (.cells #[.int .i64 (k:Int)] 3)) _).block _ (by rw [xI];omega)).trans (xH wr _)
       have hv1:V.heap[wr.heap.size+1]? = some (.cells #[.slice (some ⟨wr.heap.size,0,none⟩) 1 1] 23 (0,0)):=by
        have h:=xH (wr.alloc (.cells #[.int .i64 (k:Int)] 3)) (.cells #[.slice (some ⟨wr.heap.size,0,none⟩) 1 1] 23);rw [xI,←hV] at h;exact h
       have Q1:=hQ q1;have HBV:=hQ hbv;have HV0:=hQ hv0;have Q2:=hQ ((Keeps.of_below (P:=fun _=>none) hbv).row q2 fun _ _=>.inl rfl);have HWW:=hQ (HBW.out.trans (HB7.out.mono HBW.out.size));have Q3:=hQ (show ∀ (j:Nat) (h:Value) (p:List Int),hs[j]? = some h→us[j]? = some p→PthAt V w.heap.size h p from fun j h p hh hp=>(q3 j h p hh hp).keep HWW.out.size hbv)
       have HNW:=hQ (show ∀ (j:Nat) (x:Value),([.slice (some ⟨wr.heap.size,0,none⟩) 1 1]:List Value)[j]? = some x→V.cell? ((⟨wr.heap.size+1,0,none⟩:Addr).add j)=some x from fun j x hx=>by
        rw [Addr.add_lit,Nat.zero_add];exact Qab hv1 j x (by rw [←Array.getElem?_toList];exact hx))
       have HALL:=hQ (show ∀ u∈([.slice (some ⟨wr.heap.size,0,none⟩) 1 1]:List Value),u.oneCell'=true from fun u hu=>by obtain rfl:=List.mem_singleton.1 hu;rfl)
       have HDL:=hQ (show us.length+1≤12000 from by
        rw [hus,xB,Qrd];have h2:=Qka t zs zs.length;have:=HZL.out
        have:=HK.out
        omega)
       have HM1:=hQ (show us.length+1≤maxLen from by have:=HDL.out;unfold maxLen;omega);have HM2:=hQ (show (us.length+1)*24≤140737488355328 from by have:=HDL.out;omega);have HSZ:=hQ (show W.heap.size≤V.heap.size from xQ HB7.out.size hbv.size);have HVE:=hQ hV;clear q1 q2 q3 hus hbv hv0 hv1 hV;go_wp2_with (at_builtin;rw [show (wr.alloc (.cells #[.int .i64 (k:Int)] 3)).alloc (.cells #[.slice (some ⟨wr.heap.size,0,none⟩) 1 1] 23)=V from HVE.out.symm];refine Qfm _ rfl _ _ 41 rfl W.heap.size 23 it _ 1 24 Tryz.underlying41 hit ht0 ht1 ht2 rfl (by decide) _ us.length hs rfl Q2.out ⟨wr.heap.size+1,0,none⟩ 1 1 [.slice (some ⟨wr.heap.size,0,none⟩) 1 1] rfl rfl HNW.out HALL.out (by decide) HM1.out HM2.out HSZ.out ?_;intro g7 c7 w7 hown7 hk7 hg7 hlt7;have HO7:=hQ hown7;have HK7:=hQ hk7;clear hown7 hk7 hg7 hlt7)
       go_roundw
       case measure=>first | (simp [intOf];done) | (simp [intOf];omega)
       case rel =>
        have hlow:∀ b,(Value.slice LA us.length lc).ownBlock=some b→W.heap.size≤b:=fun b e=>(World.ownsRow.lt Q2.out b e).1
        have hbk:Below W.heap.size V w7:=HK7.out.below HSZ.out fun b hl=>Qcr fun e=>by have:=hlow b e;omega
        have hb7:=(HB7.out.trans (HBV.out.mono HB7.out.size)).trans hbk;refine ⟨k+1,rfl,by omega,?_,hb7⟩;have hp:PthAt V w.heap.size (.slice (some ⟨wr.heap.size,0,none⟩) 1 1) [(k:Int)]:=.inr ⟨wr.heap.size,1,_,rfl,HWW.out.size,HV0.out,rfl⟩;have h:=PhRow.snoc Q1.out Q2.out Q3.out hp HBW.out.size (xQ HWW.out.size HBV.out.size) HO7.out HK7.out;rw [HUS.out,xT,←Qop] at h;rw [HUS.out];exact h
      ·have k1:¬ ((k:Int)<(t.kids.length:Int)-2):=by omega
       have HKE:=hQ (show k=t.kids.length-2 by omega);go_wp2_with fail
       go_ret
       exact ⟨_,rfl,by rw [HF.out,←HKE.out];exact HQ.out.low HBW.out.size,HBW.out.trans (HB7.out.mono HBW.out.size)⟩
  ·have HF:=hQ (show Qej t zs = [] from by unfold Qej;rw [xN (fun h=>h0 h.2)]);have HFI:=hQ hf
   by_cases hpos:0<zs.length
   ·obtain ⟨z0,hz0⟩:∃ z,zs[0]? = some z:=⟨_,xF hpos⟩;have hzn:z0≠(t.kids.length:Int)-1:=fun e=>h0 (by rw [hz0,e])
    have HPOS:=hQ hpos;have HZ0:=hQ hz0;have HZN:=hQ hzn;clear hf h0 hpos hz0 hzn
    go_enter Tryz.func69,Tryz.ntmps69
    go_wp2_with fail
    go_at_call 42;refine (Qjd _ t ⟨vk,vx,vla,vll,vlc,vka,t.kids.length,vkc⟩ PA c zs _ HT.out HA.out (by have:=HZL.out;unfold maxLen;omega)).mono ?_;rintro e w1 ⟨hb1,x,rfl,S3,_,hx3⟩;have HB1:=hQ (HB0.out.trans (hb1.mono HB0.out.size));have HX1:=hQ ((hb1.block _ (Qaa HX.out)).trans HX.out);obtain ⟨xk,xx,xla,xll,xlc,xka,xkl,xkc⟩:=x;have HBX:=hQ (Qai w1 (trO ⟨xk,xx,xla,xll,xlc,xka,xkl,xkc⟩));clear hb1 hx3;rw [HFI.out];obtain ⟨ab,ao,rfl,al0,hac⟩:=(HA0.out.keep HB1.out) (by intro h;have hp:=HPOS.out;rw [h] at hp;simp at hp);have a0:=hac 0 _ HZ0.out;rw [Nat.add_zero] at a0;have l0:((zs.length:Int)==0)=false:=by rw [beq_eq_false_iff_ne];have:=HPOS.out;omega
    have l1:(0:Int)<(zs.length:Int):=by have:=HPOS.out;omega
    have l2:¬ ((zs.length:Int)=0):=by omega
    have hkb:(t.kids.length:Int)≤1000:=by have:=HK.out;omega
    have z1:(z0 != (t.kids.length:Int)-1)=true:=by rw [bne_iff_ne];exact HZN.out
    clear hac;go_wp2_with fail
    go_ret
    exact ⟨_,rfl,by rw [HF.out];exact PhRow.nil _ _ _,HB1.out.trans (HBX.out.mono HB1.out.size)⟩
   ·have HPOS:=hQ (show zs.length=0 by omega);clear hf h0 hpos
    go_enter Tryz.func69,Tryz.ntmps69
    go_wp2_with fail
    go_at_call 42;refine (Qjd _ t ⟨vk,vx,vla,vll,vlc,vka,t.kids.length,vkc⟩ PA c zs _ HT.out HA.out (by have:=HZL.out;unfold maxLen;omega)).mono ?_;rintro e w1 ⟨hb1,x,rfl,S3,_,hx3⟩;have HB1:=hQ (HB0.out.trans (hb1.mono HB0.out.size));have HX1:=hQ ((hb1.block _ (Qaa HX.out)).trans HX.out);obtain ⟨xk,xx,xla,xll,xlc,xka,xkl,xkc⟩:=x;have HBX:=hQ (Qai w1 (trO ⟨xk,xx,xla,xll,xlc,xka,xkl,xkc⟩));clear hb1 hx3;rw [HFI.out];rw [HPOS.out];go_wp2_with fail
    go_ret
    exact ⟨_,rfl,by rw [HF.out];exact PhRow.nil _ _ _,HB1.out.trans (HBX.out.mono HB1.out.size)⟩
mutual
def Zal:Tr→List (List Int)
 | .mk _ _ _ ks=>[] :: Zdo ks 0
def Zdo:List Tr→Nat→List (List Int)
 | [],_=>[]
 | t :: r,i=>(Zal t).map ((i:Int) :: ·) ++ Zdo r (i+1)
end
theorem Zam (t:Tr):Zal t = [] :: Zdo t.kids 0:=by cases t;rw [Zal];rfl
mutual
theorem Qre:(t:Tr)→(p:List Int)→Qhi t p=(Zal t).map (p ++ ·)
 | .mk _ _ _ ks,p=>by rw [Qhi,Zal,List.map_cons,Qor ks 0 p,List.append_nil]
theorem Qor:(l:List Tr)→(i:Nat)→(p:List Int)→Qei l i p=(Zdo l i).map (p ++ ·)
 | [],_,_=>by rw [Qei,Zdo];rfl
 | t :: r,i,p=>by
  rw [Qei,Zdo,List.map_append,Qor r,Qre t,List.map_map]
  congr 1
  apply List.map_congr_left
  intro q _;simp
end
theorem Qrf (t:Tr):Qhi t [] = Zal t:=by
 rw [Qre];simp
theorem Qp0 (t:Tr):(Zal t).length=Qal t:=by rw [←Qrf,Qk0]
theorem Qp1:(l:List Tr)→(i x:Nat)→(q:List Int)→(Zdo l i)[x]? = some q →
  ∃ (j:Nat) (k:Tr) (r:List Int),l[j]? = some k∧q=((i+j:Nat):Int) :: r∧Qao (l.take j)≤x∧(Zal k)[x-Qao (l.take j)]? = some r
 | [],i,x,q,h=>by rw [Zdo] at h;simp at h
 | t :: l,i,x,q,h=>by
  rw [Zdo] at h
  by_cases hx:x<Qal t
  ·rw [yB (by rw [List.length_map,Qp0];exact hx),List.getElem?_map] at h;cases hr:(Zal t)[x]? with
   | none=>rw [hr] at h;cases h
   | some r =>
    rw [hr] at h;injection h with h;exact ⟨0,t,r,rfl,h.symm,by rw [List.take_zero,Qao];omega,by rw [List.take_zero,Qao,Nat.sub_zero];exact hr⟩
  ·rw [xX (by rw [List.length_map,Qp0];omega),List.length_map,Qp0] at h;obtain ⟨j,k,r,h1,h2,h3,h4⟩:=Qp1 l (i+1) (x-Qal t) q h
   refine ⟨j+1,k,r,by simpa using h1,by rw [h2,show i+1+j=i+(j+1) from by omega],?_,?_⟩
   ·rw [List.take_succ_cons,Qao];omega
   ·rw [List.take_succ_cons,Qao,Nat.sub_add_eq];exact h4
theorem num_rel (N:Nat):∀ (t:Tr) (n x:Nat) (q:List Int),SizeOf.sizeOf t≤N→(Zal t)[x]? = some q→Qlu n t q=((n+x:Nat):Int):=by
 induction N with
 | zero=>intro t n x q h;have:=Qgx t;omega
 | succ N ih =>
  intro t n x q hN h;rw [Zam] at h;cases x with
  | zero =>
   simp at h
   subst h;rw [Qlu];rfl
  | succ x =>
   rw [List.getElem?_cons_succ] at h;obtain ⟨j,k,r,h1,h2,h3,h4⟩:=Qp1 t.kids 0 x q h;rw [Nat.zero_add] at h2;subst h2;have hj:=(xP.1 h1).1
   have hkb:Qmr t (j:Int)=true:=by
    unfold Qmr;rw [xS (by omega),xS (by omega)];rfl
   have hka:Qhs t (j:Int)=k:=by
    unfold Qhs;rw [Int.toNat_natCast,h1];rfl
   rw [Qlu,hkb];simp only [if_true];rw [hka,Int.toNat_natCast,ih k _ (x-Qao (t.kids.take j)) r (by have:=Qay h1;omega) h4]
   congr 1
   omega
theorem Zan (N:Nat):∀ (t:Tr) (x:Nat) (q:List Int),SizeOf.sizeOf t≤N→(Zal t)[x]? = some q→q.length+1≤Qal t:=by
 induction N with
 | zero=>intro t x q h;have:=Qgx t;omega
 | succ N ih =>
  intro t x q hN h;rw [Zam] at h;cases x with
  | zero =>
   simp at h
   subst h;rw [Qa0];simp
  | succ x =>
   rw [List.getElem?_cons_succ] at h;obtain ⟨j,k,r,h1,h2,h3,h4⟩:=Qp1 t.kids 0 x q h;have h5:=ih k _ r (by have:=Qay h1;omega) h4;have h6:=Qnh h1;rw [h2,xD];omega
theorem PsAt.at {w:World} {B n c j:Nat} {A:Option Addr} {ps:List (List Int)} {p:List Int} (h:PsAt w B (.slice A n c) ps) (hp:ps[j]? = some p) :
  ∃ g a c',A=some ⟨g,0,none⟩∧g<w.heap.size∧w.cell? ⟨g,j,none⟩=some (.slice a p.length c')∧IntRow w B (.slice a p.length c') p:=by
 obtain ⟨vs,h1,h2⟩:=h;have hj:=(xP.1 hp).1
 rcases h1.2 with ⟨_,h0⟩|⟨g,cap,cur,hv,hb,hh,hnc,hm,hsz,htk⟩
 ·omega
 ·injection hv with e1 e2 e3;have hl:=h1.1;obtain ⟨v,hvj⟩:∃ v,vs[j]? = some v:=⟨_,xF (by omega)⟩;have hr:=h2 j v p hvj hp;obtain ⟨a,c',rfl⟩:=Qdv hr;refine ⟨g,a,c',e1,Qaa hh,?_,hr⟩;rw [Lib.cell_of_heap hh];rw [←htk,List.getElem?_take_of_lt (by omega)] at hvj;rw [←Array.getElem?_toList];exact hvj
theorem PsAt.shape {w:World} {B:Nat} {L:Value} {ps:List (List Int)} (h:PsAt w B L ps):∃ A c,L = .slice A ps.length c:=by
 obtain ⟨vs,h1,_⟩:=h;exact Qdv h1
end Go.Proofs.YtjidpkcjpgdafaaGreat
namespace Go.Proofs.YtjidpkcjpgdafaaGreat
open Go.RowKit
theorem Zf2 {t:Tr} (hz:Qal t≤1000) (h:Qap t=true) (hk:t.kind=5∨t.kind=6∨t.kind=7∨t.kind=9∨t.kind=12):t.kids = []:=by
 have h1:=(Qgr hz h).1
 have h2:(t.kids.length:Int)=0:=by
  rcases hk with h | h | h | h | h
  all_goals
   rw [h] at h1;unfold Qat Qbb at h1;simp only [show ¬ ((5:Int)=1) from by decide,show ¬ ((5:Int)=2) from by decide,show ¬ ((5:Int)=3) from by decide,show ¬ ((5:Int)=4) from by decide,Int.reduceEq,if_true,if_false] at h1
   split at h1
   ·assumption
   ·omega
 exact List.eq_nil_of_length_eq_zero (by omega)
theorem Zdp {t k:Tr} {j:Nat} (hz:Qal t≤1000) (h:Qap t=true) (h4:4≤t.kind) (h9:t.kind≤9) (hk:t.kids[j]? = some k):4≤k.kind∧k.kind≤9:=by
 by_cases hn:t.kind=5∨t.kind=6∨t.kind=7∨t.kind=9∨t.kind=12
 ·rw [Zf2 hz h hn] at hk;simp at hk
 ·have h1:=Qua hz h hk;unfold Qgt at h1;rw [xN (by omega),xN (by omega),xO (by omega)] at h1;unfold Qfe at h1;simp at h1
  omega
theorem Qlj:(r:List Int)→(u v:Tr)→(p:List Int)→(st:List Bnd)→Qap u=true→Qal u≤1000→4≤u.kind→u.kind≤9→Qbr u r=some v→Qcq u p r st=st
 | [],_,_,_,_,_,_,_,_,_=>by rw [Qcq]
 | i :: r,u,v,p,st,hs,hz,h4,h9,hf=>by
  unfold Qbr at hf
  split at hf
  ·rename_i hk
   obtain ⟨_,_,h3⟩:=Qht hk;have hsz:=Qbd h3;obtain ⟨k4,k9⟩:=Zdp hz hs h4 h9 h3;rw [Qcq];have he:Qcw u.kind u.text u.kids p i = []:=by unfold Qcw;rw [xN (by omega),xN (by omega)]
   rw [he,List.append_nil];exact Qlj r _ v _ st ((Qgr hz hs).2 _ (yA h3)) (by omega) k4 k9 hf
  ·cases hf
theorem Qlk:(r:List Int)→(t u:Tr)→(p:List Int)→(st:List Bnd)→(i:Int)→Qbr t r=some u→Qcq t p (r ++ [i]) st=Qcq t p r st ++ Qcw u.kind u.text u.kids (p ++ r) i
 | [],t,u,p,st,i,h=>by
  rw [Qbr] at h;injection h with h;subst h;rw [xU,Qcq,Qcq,Qcq,List.append_nil]
 | j :: r,t,u,p,st,i,h=>by
  unfold Qbr at h
  split at h
  ·rw [xV,Qcq,Qcq,Qlk r _ u _ _ i h,xT p [j] r];rfl
  ·cases h
theorem Zao {t u:Tr} {zs:List Int} (h:Qbr t zs=some u) (k:Nat):∃ v,Qbr t (zs.take k)=some v:=by
 cases hv:Qbr t (zs.take k) with
 | some v=>exact ⟨v,rfl⟩
 | none =>
  have key:∀ (a b:List Int) (t:Tr),Qbr t a=none→Qbr t (a ++ b)=none:=by
   intro a
   induction a with
   | nil=>intro b t h;rw [Qbr] at h;cases h
   | cons i r ih =>
    intro b t h;unfold Qbr at h;rw [xV,Qbr]
    split at h
    ·rename_i hk
     rw [xO hk];exact ih b _ h
    ·rename_i hk
     rw [xN hk]
  have:=key (zs.take k) (zs.drop k) t hv
  rw [List.take_append_drop,h] at this;cases this
theorem Que (ks:List Tr):(m:Nat)→(Qef ks m).reverse.map (·.2)=Qlx m
 | 0=>by rw [Qef];rfl
 | m+1=>by
  rw [Qef,List.reverse_cons,List.map_append,Que ks m,Qop];rfl
theorem Quf {t w:Tr} {zs:List Int} (hf:Qfb t=true) (hz:Qal t≤1000) (h0:zs[0]? = some ((t.kids.length:Int)-1)) (hw:Qbr t zs=some w):(k:Nat)→0<k→k≤zs.length→(Qcq t [] (zs.take k) []).reverse.map (·.2)=Qh1 t zs k ++ Qlx (t.kids.length-2)
 | 0,h,_=>absurd h (Nat.lt_irrefl 0)
 | k+1,_,hk=>by
  obtain ⟨h2,hs⟩:=Qhh hf;obtain ⟨i,hi⟩:∃ i,zs[k]? = some i:=⟨_,xF (by omega)⟩;obtain ⟨u,hu⟩:=Zao hw k;have ht:zs.take (k+1)=zs.take k ++ [i]:=by rw [List.take_add_one,hi];rfl
  rw [ht,Qlk _ t u [] [] i hu,xU,List.reverse_append,List.map_append,Qh1]
  have hla:Qpz t zs k=(decide (u.kind=20) && decide (i=1)):=by
   unfold Qpz;rw [hu,hi,Option.getD_some];simp
  rcases Nat.eq_zero_or_pos k with rfl | hkp
  ·rw [List.take_zero,Qbr] at hu;injection hu with hu;subst hu;rw [hi] at h0;injection h0 with h0;subst h0;rw [hla,h2];have he:Qcw 2 t.text t.kids [] ((t.kids.length:Int)-1)=Qeg t.kids:=by unfold Qcw;rw [xN (by omega),xO ⟨rfl,rfl⟩]
   rw [List.take_zero,he,Qcq];unfold Qeg;rw [Que];simp [Qh1]
  ·have hne:zs.take k≠[]:=fun e=>by
    have:=congrArg List.length e
    rw [List.length_take,xG] at this;omega
   have hk2:=(Qnc _ t u hs hz (by omega) hu).2.2.2 hne;rw [Quf hf hz h0 hw k hkp (by omega),hla];unfold Qcw
   by_cases hc:u.kind=20∧i=1
   ·rw [xO hc,xS hc.1,xS hc.2];rfl
   ·rw [xN hc,xN (fun h=>hk2 h.1)]
    have:(decide (u.kind=20) && decide (i=1))=false:=by
     rw [Bool.and_eq_false_iff,decide_eq_false_iff_not,decide_eq_false_iff_not];exact Decidable.not_and_iff_or_not.1 hc
    rw [this];rfl
theorem Ql6 {t:Tr} (hf:Qfb t=true) (hz:Qal t≤1000) (zs:List Int):Qej t zs=(Qbk t zs).reverse.map (·.2):=by
 obtain ⟨h2,hs⟩:=Qhh hf;cases hw:Qbr t zs with
 | none =>
  have hA:Qbk t zs = []:=by
   unfold Qbk
   rw [xN (fun h=>by
    obtain ⟨u,hu⟩:=(Qiv zs t 0).1 h.2;rw [hw] at hu;cases hu)]
  rw [hA];unfold Qej;rw [hw,xN (by simp)];rfl
 | some w =>
  have hn:=(Qiv zs t 0).2 ⟨w,hw⟩
  have hA:Qbk t zs=Qcq t [] zs []:=by
   unfold Qbk;rw [xO ⟨hf,hn⟩]
  rw [hA];unfold Qej;rw [hw]
  by_cases h0:zs[0]? = some ((t.kids.length:Int)-1)
  ·rw [xO ⟨rfl,h0⟩];have:=Quf hf hz h0 hw zs.length (xP.1 h0).1 (xA _)
   rw [List.take_length] at this;exact this.symm
  ·rw [xN (fun h=>h0 h.2)];cases zs with
   | nil=>rw [Qcq];rfl
   | cons z r =>
    have hzn:z≠(t.kids.length:Int)-1:=fun e=>h0 (by rw [e];rfl)
    unfold Qbr at hw
    split at hw
    ·rename_i hk
     obtain ⟨hk0,hkl,h3⟩:=Qht hk;have hsz:=Qbd h3;have h1:=Qua hz hs h3;unfold Qgt at h1;rw [xN (by omega),xO h2,xN (by omega)] at h1
     have hkk:4≤(Qhs t z).kind∧(Qhs t z).kind≤9:=by
      split at h1
      ·unfold Qfe at h1;simp at h1
       omega
      ·simp at h1
       omega
     rw [Qcq];have he:Qcw t.kind t.text t.kids [] z = []:=by unfold Qcw;rw [xN (by omega),xN (fun h=>hzn h.2)]
     rw [he,List.append_nil,Qlj r _ w _ [] ((Qgr hz hs).2 _ (yA h3)) (by omega) hkk.1 hkk.2 hw];rfl
    ·cases hw
def Qfg (t:Tr) (q:List Int):ByteArray:=((Qbr t q).getD Qkk).text
theorem Qji {t:Tr} (hf:Qfb t=true) (hz:Qal t≤1000) (zs:List Int):∀ b∈Qbk t zs,Qfg t b.2=b.1:=by
 intro b hb;obtain ⟨h2,hs⟩:=Qhh hf;unfold Qbk at hb
 split at hb
 ·rename_i hc
  obtain ⟨w,hw⟩:=(Qiv zs t 0).1 hc.2;obtain ⟨k,k1,k2,_⟩:=Qj9 hs hz h2 zs t w [] [] (by rw [Qbr]) hw (fun b hb=>by simp at hb) b hb;unfold Qfg;rw [k1];exact k2
 ·simp at hb
theorem Qug {α β:Type} (f:α→β) (p:α→Bool) (q:β→Bool):(l:List α)→(∀ b∈l,p b=q (f b))→(l.find? p).map f=(l.map f).find? q
 | [],_=>rfl
 | a :: r,h=>by
  rw [List.find?_cons,List.map_cons,List.find?_cons,←h a (List.mem_cons_self ..)]
  cases p a
  ·exact Qug f p q r fun b hb=>h b (List.mem_cons_of_mem _ hb)
  ·rfl
theorem Zf3 {t:Tr} (hf:Qfb t=true) (hz:Qal t≤1000) (zs:List Int) (x:ByteArray):Qeh (Qbk t zs) x=(Qej t zs).find? fun q=>decide (Qfg t q=x):=by
 rw [Ql6 hf hz];unfold Qeh;exact Qug _ _ _ _ fun b hb=>by rw [Qji hf hz zs b (List.mem_reverse.1 hb)]
theorem vis_q {t:Tr} (hf:Qfb t=true) (hz:Qal t≤1000) (zs:List Int):Qfz ((Qej t zs).map (Qfg t))=Qxb t zs:=by
 unfold Qxb;refine Qy2 _ _ (Qkv _) (Qkv _) fun x=>?_
 rw [Qok,Qok,Ql6 hf hz,List.map_map,List.mem_map,List.mem_map]
 constructor
 ·rintro ⟨b,hb,rfl⟩;exact ⟨b,List.mem_reverse.1 hb,(Qji hf hz zs b (List.mem_reverse.1 hb)).symm⟩
 ·rintro ⟨b,hb,rfl⟩;exact ⟨b,List.mem_reverse.2 hb,Qji hf hz zs b hb⟩
theorem Qk3 {t:Tr} (hf:Qfb t=false) (zs:List Int):Qbk t zs = []:=by
 unfold Qbk;rw [xN (fun h=>by rw [hf] at h;cases h.1)]
end Go.Proofs.YtjidpkcjpgdafaaGreat
namespace Go.Proofs.YtjidpkcjpgdafaaGreat
open Go.RowKit Go.Shelf
def Qek:List Int→List Int→Bool
 | [],[]=>true
 | x :: r,y :: s=>(x==y) && Qek r s
 | _,_=>false
theorem Qnj:(p:List Int)→Qek p p=true
 | []=>rfl
 | x :: r=>by rw [Qek,Qnj r];simp
theorem Qos:(p q:List Int)→(Qek p q=true ↔ p=q)
 | [],[]=>by simp [Qek]
 | [],_ :: _=>by simp [Qek]
 | _ :: _,[]=>by simp [Qek]
 | x :: r,y :: s=>by rw [Qek,Bool.and_eq_true,Qos r s];simp
def SPAt (p q:List Int) (w:World) (i:Value) (wr:World):Prop:=∃ j:Nat,i = .int .i64 j∧j≤p.length∧Qek p q=Qek (p.drop j) (q.drop j)∧∃ n:Nat,wr=w.drewN n
theorem Qwq (A C:Option Addr) (a c:Nat) (p q:List Int) (w:World) (hA:IntsAt w A p) (hC:IntsAt w C q) (hp:p.length≤maxLen) (hq:q.length≤maxLen) :
  Calls Tryz.prog 31 #[.slice A p.length a,.slice C q.length c] w fun e w'=>e = .returned (.bool (Qek p q))∧∃ n:Nat,w'=w.drewN n:=by
 have HA:=hQ hA;have HC:=hQ hC;have hp6:p.length≤9223372036854775807:=by unfold maxLen at hp;omega
 have hq6:q.length≤9223372036854775807:=by unfold maxLen at hq;omega
 have mixedL:Tryz.prog.follows Departure.mixedOrders=true:=mixed;clear hA hC hp hq
 by_cases hl:p.length=q.length
 ·have HL:=hQ hl;rw [show Value.slice C q.length c = .slice C p.length c from by rw [hl]];clear hl hq6
  go_enter Tryz.func31,Tryz.ntmps31
  go_wp2
  go_loopw [5] (fun i wr=>SPAt p q w i wr) (fun i _=>p.length-(intOf i).toNat)
  case atStart=>exact ⟨0,rfl,xZ _,rfl,0,rfl⟩
  case round =>
   obtain ⟨j,rfl,hj,hf,n,rfl⟩:=hrel;have HF:=hQ hf;clear hf
   by_cases hlt:j<p.length
   ·obtain ⟨x,hx⟩:∃ x,p[j]? = some x:=⟨_,xF hlt⟩;obtain ⟨y,hy⟩:∃ y,q[j]? = some y:=⟨_,xF (by rw [←HL.out];exact hlt)⟩;obtain ⟨ab,ao,rfl,abl,hac⟩:=HA.out.at hlt;obtain ⟨cb,co,rfl,cbl,hcc⟩:=HC.out.at (show j<q.length by rw [←HL.out];exact hlt);have a0:=hac j x hx;have c0:=hcc j y hy;have HD:=hQ (show Qek (p.drop j) (q.drop j)=((x==y) && Qek (p.drop (j+1)) (q.drop (j+1))) from by rw [Qfx hx,Qfx hy,Qek]);have hja:(j:Int)<(p.length:Int):=by omega
    have hj0:(0:Int)≤(j:Int):=by omega
    clear hac hcc hx hy
    by_cases hxy:x=y
    ·subst hxy;have HR:=hQ (show Qek p q=Qek (p.drop (j+1)) (q.drop (j+1)) from by rw [HF.out,HD.out];simp);go_wp2_with fail
     go_region_o
     all_goals
      go_wp2
      go_roundw
      case measure=>simp [intOf];omega
      case rel=>exact ⟨j+1,by go_num,by omega,HR.out,n+1,rfl⟩
    ·have e1:(x==y)=false:=beq_eq_false_iff_ne.2 hxy;have e2:(x != y)=true:=by rw [bne_iff_ne];exact hxy
     have HR:=hQ (show Qek p q=false from by rw [HF.out,HD.out,e1];rfl);go_wp2_with fail
     go_region_o
     all_goals
      go_wp2
      go_ret
      exact ⟨Qah HR.out.symm,n+1,rfl⟩
   ·have HR:=hQ (show Qek p q=true from by rw [HF.out,List.drop_eq_nil_of_le (by omega),List.drop_eq_nil_of_le (by have:=HL.out;omega)];rfl)
    go_wp2
    go_ret
    exact ⟨Qah HR.out.symm,n,rfl⟩
 ·have HR:=hQ (show Qek p q=false from by
   cases h:Qek p q with
   | false=>rfl
   | true=>exact absurd (congrArg List.length ((Qos p q).1 h)) hl)
  have e1:((p.length:Int)==(q.length:Int))=false:=beq_eq_false_iff_ne.2 (by omega);have e2:((p.length:Int) != (q.length:Int))=true:=by rw [bne_iff_ne];omega
  have e3:(p.length==q.length)=false:=beq_eq_false_iff_ne.2 hl;have e4:(p.length != q.length)=true:=by rw [bne_iff_ne];exact hl
  go_enter Tryz.func31,Tryz.ntmps31
  go_wp2
  go_ret
  exact ⟨Qah HR.out.symm,0,rfl⟩
theorem Qrh (w:World) (n:Nat):Below w.heap.size w (w.drewN n):=⟨rfl,rfl,rfl,xA _,fun _ _=>rfl⟩
theorem Qih (A C:Option Addr) (a c:Nat) (p q:List Int) (w:World) (hA:IntsAt w A p) (hC:IntsAt w C q) (hp:p.length≤maxLen) (hq:q.length≤maxLen) :
  Calls Tryz.prog 31 #[.slice A p.length a,.slice C q.length c] w fun e w'=>e = .returned (.bool (Qek p q))∧Below w.heap.size w w' :=
 (Qwq A C a c p q w hA hC hp hq).mono fun _ _ ⟨he,n,hn⟩=>⟨he,by rw [hn];exact Qrh w n⟩
end Go.Proofs.YtjidpkcjpgdafaaGreat
