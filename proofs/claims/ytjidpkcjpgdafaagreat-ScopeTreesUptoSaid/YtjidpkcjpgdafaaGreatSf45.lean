/- Part 45 -/
import Derived.Test.YtjidpkcjpgdafaaGreatSf44
import Derived.Deep.DeepCutAuto
set_option maxRecDepth 100000
set_option maxHeartbeats 4000000
namespace Go.Proofs.YtjidpkcjpgdafaaGreat
open Go.RowKit Go.Shelf
def Qmx (t:Tr) (zs:List Int) (k:Nat):Bool:=decide (((Qay t (zs.take k)).getD Qik).kind=20) && decide (zs[k]? = some 1)
def Qf9 (t:Tr) (zs:List Int):Nat→List (List Int)
 | 0=>[]
 | k+1=>(if Qmx t zs k=true then [zs.take k] else []) ++ Qf9 t zs k
def Qjp (n:Nat):List (List Int):=(List.range n).map fun (i:Nat)=>[(i:Int)]
theorem Qly (n:Nat):Qjp (n+1)=Qjp n ++ [[(n:Int)]]:=by
 unfold Qjp
 rw [List.range_succ,List.map_append]
 rfl
theorem Qn7 (n:Nat):(Qjp n).length=n:=by unfold Qjp;simp
theorem Qig (t:Tr) (zs:List Int):(k:Nat)→(Qf9 t zs k).length≤k
 | 0=>by rw [Qf9];exact xZ _
 | k+1=>by
  rw [Qf9,xB]
  have:=Qig t zs k
  split <;> simp <;> omega
def Qdd (t:Tr) (zs:List Int):List (List Int):=if (Qay t zs).isSome=true∧zs[0]? = some ((t.kids.length:Int)-1) then Qf9 t zs zs.length ++ Qjp (t.kids.length-2) else []
def QArL (t:Tr) (v:TV) (zs:List Int) (w W:World) (l i:Value) (wr:World):Prop:=∃ (k:Nat) (done:List (List Int)),i = .int .i64 (k:Int)∧k≤zs.length∧PhRow wr w.heap.size W.heap.size l done∧done ++ Qf9 t zs k=Qf9 t zs zs.length∧wr.heap[w.heap.size]? = some (trO v)∧Below W.heap.size W wr
def QArP (t:Tr) (_:TV) (zs:List Int) (w W:World) (l i:Value) (wr:World):Prop:=∃ k:Nat,i = .int .i64 (k:Int)∧k≤t.kids.length-2∧PhRow wr w.heap.size W.heap.size l (Qf9 t zs zs.length ++ Qjp k)∧Below W.heap.size W wr
theorem Qlz (S:Nat→Prop) (t:Tr) (v:TV) (PA:Option Addr) (c:Nat) (zs:List Int) (w:World) (ht:TrAt S w t v) (hz:Qam t≤1000) (hA:IntsAt w PA zs) (hzl:zs.length≤10000) (hc:zs.length≤c) :
  Calls Tryz.prog 69 #[.agg #[.int .i64 v.kind,.string v.text,.slice v.la v.ll v.lc,.slice v.ka v.kl v.kc],.slice PA zs.length c] w fun e w'=>∃ r,e = .returned r∧PhRow w' w.heap.size w.heap.size r (Qdd t zs)∧Below w.heap.size w w':=by
 obtain ⟨it,hit,ht0,ht1,ht2⟩:=info_parts Qu3
 have hb0:=Qaf w (trO v)
 have HT:=hQ (ht.keep hb0)
 have HT0:=hQ ht
 have HX:=hQ (xH w (trO v))
 have HB0:=hQ hb0
 have HZ:=hQ hz
 have HA0:=hQ hA
 have HA:=hQ (hA.keep hb0)
 have HZL:=hQ hzl
 have HC:=hQ hc
 have hkl:=ht.kl.1
 have HK:=hQ (show t.kids.length≤1000 from by have h1:=Qbn t.kids;have h2:=Qa5 t;omega)
 obtain ⟨vk,vx,vla,vll,vlc,vka,vkl,vkc⟩:=v
 simp only at hkl
 subst hkl
 clear ht hb0 hz hA hzl hc
 cases hf:(Qay t zs).isSome
 ·have HF:=hQ (show Qdd t zs = [] from by unfold Qdd;rw [hf,xN (by simp)])
  have HFI:=hQ hf
  clear hf
  go_enter Tryz.func69,Tryz.ntmps69
  go_wp2_with fail
  go_at_call 42
  refine (Qgq _ t ⟨vk,vx,vla,vll,vlc,vka,t.kids.length,vkc⟩ PA c zs _ HT.out HA.out (by have:=HZL.out;unfold maxLen;omega)).mono ?_
  rintro e w1 ⟨hb1,x,rfl,S3,_,hx3⟩
  have HB1:=hQ (HB0.out.trans (hb1.mono HB0.out.size))
  have HX1:=hQ ((hb1.block _ (Qab HX.out)).trans HX.out)
  obtain ⟨xk,xx,xla,xll,xlc,xka,xkl,xkc⟩:=x
  have HBX:=hQ (Qaf w1 (trO ⟨xk,xx,xla,xll,xlc,xka,xkl,xkc⟩))
  clear hb1 hx3
  rw [HFI.out]
  go_wp2_with fail
  go_ret
  exact ⟨_,rfl,by rw [HF.out];exact PhRow.nil _ _ _,HB1.out.trans (HBX.out.mono HB1.out.size)⟩
 ·by_cases h0:zs[0]? = some ((t.kids.length:Int)-1)
  ·have HF:=hQ (show Qdd t zs=Qf9 t zs zs.length ++ Qjp (t.kids.length-2) from by unfold Qdd;rw [hf,xO ⟨rfl,h0⟩])
   have hpos:=(xP.1 h0).1
   have HFI:=hQ hf
   have H0:=hQ h0
   have HPOS:=hQ hpos
   clear hf h0 hpos
   go_enter Tryz.func69,Tryz.ntmps69
   go_wp2_with fail
   go_at_call 42
   refine (Qgq _ t ⟨vk,vx,vla,vll,vlc,vka,t.kids.length,vkc⟩ PA c zs _ HT.out HA.out (by have:=HZL.out;unfold maxLen;omega)).mono ?_
   rintro e w1 ⟨hb1,x,rfl,S3,_,hx3⟩
   have HB1:=hQ (HB0.out.trans (hb1.mono HB0.out.size))
   have HX1:=hQ ((hb1.block _ (Qab HX.out)).trans HX.out)
   obtain ⟨xk,xx,xla,xll,xlc,xka,xkl,xkc⟩:=x
   have HBX:=hQ (Qaf w1 (trO ⟨xk,xx,xla,xll,xlc,xka,xkl,xkc⟩))
   clear hb1 hx3
   rw [HFI.out]
   have hpos:=HPOS.out
   have h0:=H0.out
   obtain ⟨ab,ao,rfl,al0,hac⟩:=(HA0.out.keep HB1.out) (by intro h;rw [h] at hpos;simp at hpos)
   have a0:=hac 0 _ h0
   rw [Nat.add_zero] at a0
   have l0:((zs.length:Int)==0)=false:=by rw [beq_eq_false_iff_ne];omega
   have l1:(0:Int)<(zs.length:Int):=by omega
   have l2:¬ ((zs.length:Int)=0):=by omega
   have hkb:(t.kids.length:Int)≤1000:=by have:=HK.out;omega
   have hzb:(zs.length:Int)≤10000:=by have:=HZL.out;omega
   clear hac h0
   go_wp2_with fail
   obtain ⟨W,hW⟩:∃ W,W=w1.alloc (trO ⟨xk,xx,xla,xll,xlc,xka,xkl,xkc⟩):=⟨_,rfl⟩
   rw [show (w1.alloc (.cells #[.int .i64 xk,.string xx,.slice xla xll xlc,.slice xka xkl xkc] 29))=W from hW.symm]
   have HBW:=hQ (show Below w.heap.size w W from by rw [hW];exact HB1.out.trans (HBX.out.mono HB1.out.size))
   have HXW:=hQ (show W.heap[w.heap.size]? = some (trO ⟨vk,vx,vla,vll,vlc,vka,t.kids.length,vkc⟩) from by rw [hW];exact (HBX.out.block _ (Qab HX1.out)).trans HX1.out)
   have HWS:=hQ (Qab HXW.out)
   clear hW a0 al0 l0 l1 l2 hpos HBX HX1 HB1
   go_loopw [8,9] (fun l i wr=>QArL t ⟨vk,vx,vla,vll,vlc,vka,t.kids.length,vkc⟩ zs w W l i wr) (fun _ i _=>(intOf i).toNat)
   case atStart=>exact ⟨zs.length,[],rfl,xA _,PhRow.nil _ _ _,rfl,HXW.out,xC _ _⟩
   case round =>
    obtain ⟨k,done,rfl,hk,hq,hdn,hx,hb⟩:=hrel
    obtain ⟨w5,hwo⟩:∃ w',w'=wr:=⟨_,rfl⟩
    subst hwo
    have HQ:=hQ hq
    have HDN:=hQ hdn
    have HX5:=hQ hx
    have HB5:=hQ hb
    clear hq hdn hx hb
    by_cases hkp:0<k
    ·obtain ⟨m,rfl⟩:∃ m,k=m+1:=⟨k-1,by omega⟩
     rw [show (((m+1:Nat)):Int)=(m:Int)+1 from by omega]
     obtain ⟨z,hz⟩:∃ z,zs[m]? = some z:=⟨_,xF (by omega)⟩
     have hlm:(zs.take m).length=m:=by rw [List.length_take];omega
     have HLM:=hQ hlm
     have HAM:=hQ (show IntsAt w5 (some ⟨ab,ao,none⟩) (zs.take m) from (HA0.out.keep (HBW.out.trans (HB5.out.mono HBW.out.size))).take)
     have HAL:=hQ (show IntsAt w5 (some ⟨ab,ao,none⟩) zs from HA0.out.keep (HBW.out.trans (HB5.out.mono HBW.out.size)))
     have HTM:=hQ (HT0.out.keep (HBW.out.trans (HB5.out.mono HBW.out.size)))
     have HCA:=hQ (show ∀ (w':World) (hb:Below w5.heap.size w5 w'),Calls Tryz.prog 42 #[.agg #[.int .i64 vk,.string vx,.slice vla vll vlc,.slice vka t.kids.length vkc],.slice (some ⟨ab,ao,none⟩) m c] w' (Qxg t (zs.take m) w') from fun w' hb=>by
      have h:=Qgq _ t ⟨vk,vx,vla,vll,vlc,vka,t.kids.length,vkc⟩ (some ⟨ab,ao,none⟩) c (zs.take m) w' (HTM.out.keep hb) (HAM.out.keep hb) (by rw [HLM.out];unfold maxLen;omega)
      rw [HLM.out] at h
      exact h)
     have HB55:=hQ (xC w5.heap.size w5)
     have HLA:=hQ (show Qmx t zs m=(decide (((Qay t (zs.take m)).getD Qik).kind=20) && decide (z=1)) from by unfold Qmx;rw [hz];simp)
     have HLK:=hQ (show Qf9 t zs (m+1)=(if Qmx t zs m=true then [zs.take m] else []) ++ Qf9 t zs m from by rw [Qf9])
     obtain ⟨_,_,hab,al,hac⟩:=HAL.out (by intro h;rw [h] at hz;simp at hz)
     injection hab with hab
     injection hab with hab1 hab2
     subst hab1 hab2
     have am:=hac m z hz
     have b0:w5.cell? ⟨w.heap.size,0,none⟩=some (.int .i64 vk):=Qaa HX5.out 0 _ rfl
     have b1:w5.cell? ⟨w.heap.size,1,none⟩=some (.string vx):=Qaa HX5.out 1 _ rfl
     have b2:w5.cell? ⟨w.heap.size,2,none⟩=some (.slice vla vll vlc):=Qaa HX5.out 2 _ rfl
     have b3:w5.cell? ⟨w.heap.size,3,none⟩=some (.slice vka t.kids.length vkc):=Qaa HX5.out 3 _ rfl
     have dl:=Qab HX5.out
     have hw1:IntKind.i64.wrap ((m:Int)+1-1)=(m:Int):=by
      rw [show (m:Int)+1-1=(m:Int) from by omega]
      exact IntWalk.i64_in _ (by omega)
     have hw2:IntKind.i64.wrap (m:Int)=(m:Int):=IntWalk.i64_in _ (by omega)
     have m0:(0:Int)≤(m:Int):=by omega
     have m1:(m:Int)<(zs.length:Int):=by omega
     have m2:(m:Int)≤(c:Int):=by have:=HC.out;omega
     have m3:(m:Int)+1≤10001:=by omega
     have n0:=World.new_ne w5 _ b0
     clear hac hz hlm
     go_wp2_with fail
     go_cut [10] (fun s7 wx=>AtK t (zs.take m) w5 s7 wx)
     case first =>
      go_region_held3 (fun w'=>w'.cell? ⟨w.heap.size,0,none⟩=some (.int .i64 vk)∧w'.cell? ⟨w.heap.size,1,none⟩=some (.string vx)∧w'.cell? ⟨w.heap.size,2,none⟩=some (.slice vla vll vlc)∧w'.cell? ⟨w.heap.size,3,none⟩=some (.slice vka t.kids.length vkc)) (first | with_reducible exact ⟨b0,b1,b2,b3⟩ | go_keep) (first
       | (go_at_call 42;refine (HCA.out ((w5.alloc (.cells #[.int .i64 0,.string ⟨#[]⟩,.slice none 0 0,.slice none 0 0] 29)).drew) ((HB55.out.alloc HB55.out.size _).drew)).mono ?_;rintro e w3 ⟨hb3,x,rfl,S3,_,hx3⟩;have HKX:=hQ (And.intro hx3.kl.2.2.1 hx3.kl.2.2.2);have HB3:=hQ (show Below w5.heap.size w5 w3 from (((xC w5.heap.size w5).alloc (xA _) (.cells #[.int .i64 0,.string ⟨#[]⟩,.slice none 0 0,.slice none 0 0] 29)).drew).trans (hb3.mono (by show _≤(w5.alloc _).heap.size;rw [xI];omega)));have hzb:=(show w3.heap[w5.heap.size]? = some (.cells #[.int .i64 0,.string ⟨#[]⟩,.slice none 0 0,.slice none 0 0] 29 (0,0)) from (hb3.block _ (by show _<(w5.alloc _).heap.size;rw [xI];omega)).trans (xH w5 _));have HZB:=hQ hzb;have zf:∀ o,w3.frozen? ⟨w5.heap.size,o,none⟩=false:=(fun o=>xL hzb _);have zl:=Qab hzb;have z0:w3.cell? ⟨w5.heap.size,0,none⟩=some (.int .i64 0):=Qaa hzb 0 _ rfl;have z1:w3.cell? ⟨w5.heap.size,1,none⟩=some (.string ⟨#[]⟩):=Qaa hzb 1 _ rfl;have z2:w3.cell? ⟨w5.heap.size,2,none⟩=some (.slice none 0 0):=Qaa hzb 2 _ rfl;have z3:w3.cell? ⟨w5.heap.size,3,none⟩=some (.slice none 0 0):=Qaa hzb 3 _ rfl;have h0:=Qbo HB3.out dl b0;have h1:=Qbo HB3.out dl b1;have h2:=Qbo HB3.out dl b2;have h3:=Qbo HB3.out dl b3;have g0:=xE dl HB3.out.size;clear b0 b1 b2 b3 dl;have b0:=h0;have b1:=h1;have b2:=h2;have b3:=h3;have dl:=g0;clear h0 h1 h2 h3 g0;clear hb3 hx3 hzb)
       | (go_at_call 42;refine (HCA.out w5.drew (HB55.out.drew)).mono ?_;rintro e w3 ⟨hb3,x,rfl,S3,_,hx3⟩;have HKX:=hQ (And.intro hx3.kl.2.2.1 hx3.kl.2.2.2);have HB3:=hQ (show Below w5.heap.size w5 w3 from (show Below w5.heap.size w5 w5.drew from (xC _ _).drew).trans hb3);have h0:=Qbo HB3.out dl b0;have h1:=Qbo HB3.out dl b1;have h2:=Qbo HB3.out dl b2;have h3:=Qbo HB3.out dl b3;have g0:=xE dl HB3.out.size;clear b0 b1 b2 b3 dl;have b0:=h0;have b1:=h1;have b2:=h2;have b3:=h3;have dl:=g0;clear h0 h1 h2 h3 g0;clear hb3 hx3))
      all_goals
       go_wp2_with fail
       go_meet
       first
        | (have hh:=HZB.out;clear hh;exact Qjw HZB.out HKX.out.1 HKX.out.2 HB3.out)
        | exact Qif HKX.out.1 HKX.out.2 HB3.out
     case rest =>
      obtain ⟨w6,hww⟩:∃ w',w'=wc:=⟨_,rfl⟩
      subst hww
      obtain ⟨g10,x,rfl,hxb,hxk,_,hb6⟩:=hcut
      obtain ⟨yk,yx,yla,yll,ylc,yka,ykl,ykc⟩:=x
      simp only at hxk
      rw [←hxk] at HLA
      have x0:w6.cell? ⟨g10,0,none⟩=some (.int .i64 yk):=Qaa hxb 0 _ rfl
      have xl:=Qab hxb
      have am:=Qbo hb6 al am
      have al:=xE al hb6.size
      have HQ6:=hQ (HQ.out.keep (xQ (Nat.le_of_lt HWS.out) HB5.out.size) hb6)
      have HX6:=hQ ((hb6.block _ dl).trans HX5.out)
      have HB6:=hQ (HB5.out.trans (hb6.mono HB5.out.size))
      have HBE:=hQ (HBW.out.trans (HB6.out.mono HBW.out.size))
      clear b0 b1 b2 b3 dl n0 hxb hxk hb6
      by_cases h20:yk=20
      ·by_cases h1:z=1
       ·have HLN:=hQ (show Qmx t zs m=true from by rw [HLA.out,h20,h1];rfl)
        subst h20 h1
        obtain ⟨hs,q1,q2,q3⟩:=HQ6.out
        obtain ⟨LA,lc,hl⟩:=Qem q2
        subst hl
        have Q1:=hQ q1
        have HA6:=hQ (Qaf w6 (.cells #[.slice (some ⟨ab,ao,none⟩) m c] 23))
        have Q2:=hQ ((Keeps.of_below (P:=fun _=>none) HA6.out).row q2 fun _ _=>.inl rfl)
        have Q3:=hQ (show ∀ (j:Nat) (h:Value) (p:List Int),hs[j]? = some h→done[j]? = some p→PthAt (w6.alloc (.cells #[.slice (some ⟨ab,ao,none⟩) m c] 23)) w.heap.size h p from fun j h p hh hp=>(q3 j h p hh hp).keep HBE.out.size HA6.out)
        have HNW:=hQ (show ∀ (j:Nat) (x:Value),([.slice (some ⟨ab,ao,none⟩) m c]:List Value)[j]? = some x→(w6.alloc (.cells #[.slice (some ⟨ab,ao,none⟩) m c] 23)).cell? ((⟨w6.heap.size,0,none⟩:Addr).add j)=some x from fun j x hx=>by
         rw [Addr.add_lit,Nat.zero_add]
         exact Qaa (xH w6 _) j x (by rw [←Array.getElem?_toList];exact hx))
        have HALL:=hQ (show ∀ u∈([.slice (some ⟨ab,ao,none⟩) m c]:List Value),u.oneCell'=true from fun u hu=>by obtain rfl:=List.mem_singleton.1 hu;rfl)
        have HDL:=hQ (show done.length+1≤10000 from by
         have h:=congrArg List.length HDN.out
         rw [HLK.out,xO HLN.out,xB,xB,List.length_singleton] at h
         have h2:=Qig t zs zs.length
         have:=HZL.out
         omega)
        have HM1:=hQ (show done.length+1≤maxLen from by have:=HDL.out;unfold maxLen;omega)
        have HM2:=hQ (show (done.length+1)*24≤140737488355328 from by have:=HDL.out;omega)
        have HSZ:=hQ (show W.heap.size≤(w6.alloc (.cells #[.slice (some ⟨ab,ao,none⟩) m c] 23)).heap.size from by rw [xI];have:=HB6.out.size;omega)
        clear q1 q2 q3
        go_wp2_with (at_builtin;refine Qd2 _ rfl _ _ 41 rfl W.heap.size 23 it _ 1 24 Tryz.underlying41 hit ht0 ht1 ht2 rfl (by decide) _ done.length hs rfl Q2.out ⟨w6.heap.size,0,none⟩ 1 1 [.slice (some ⟨ab,ao,none⟩) m c] rfl rfl HNW.out HALL.out (by decide) HM1.out HM2.out HSZ.out ?_;intro g7 c7 w7 hown7 hk7 hg7 hlt7;have HO7:=hQ hown7;have HK7:=hQ hk7;clear hown7 hk7 hg7 hlt7)
        go_roundw
        case measure=>first | (simp [intOf];done) | (simp [intOf];omega)
        case rel =>
         have hlow:∀ b,(Value.slice LA done.length lc).ownBlock=some b→W.heap.size≤b:=fun b e=>(World.ownsRow.lt Q2.out b e).1
         have hbk:Below W.heap.size (w6.alloc (.cells #[.slice (some ⟨ab,ao,none⟩) m c] 23)) w7:=HK7.out.below HSZ.out fun b hl=>Qbt fun e=>by have:=hlow b e;omega
         have hb7:=(HB6.out.trans (HA6.out.mono HB6.out.size)).trans hbk
         refine ⟨m,done ++ [zs.take m],rfl,by omega,?_,by have h:=HDN.out;rw [HLK.out,xO HLN.out,←xT] at h;exact h,(hb7.block _ HWS.out).trans HXW.out,hb7⟩
         have hp:PthAt (w6.alloc (.cells #[.slice (some ⟨ab,ao,none⟩) m c] 23)) w.heap.size (.slice (some ⟨ab,ao,none⟩) m c) (zs.take m):=by
          have h:=PthAt.of_ints (p:=zs.take m) HA0.out.take (HBE.out.trans (HA6.out.mono HBE.out.size)) c
          rw [HLM.out] at h
          exact h
         have h:=PhRow.snoc Q1.out Q2.out Q3.out hp HBW.out.size (xQ HBE.out.size HA6.out.size) HO7.out HK7.out
         exact h
       ·have HLN:=hQ (show Qmx t zs m=false from by rw [HLA.out,xR h1,Bool.and_false])
        subst h20
        have z1:(z==1)=false:=by simpa using h1
        clear h1
        go_wp2_with fail
        go_roundw
        case measure=>first | (simp [intOf];done) | (simp [intOf];omega)
        case rel=>exact ⟨m,done,rfl,by omega,HQ6.out,by have h:=HDN.out;rw [HLK.out,xN (by rw [HLN.out];decide),xU] at h;exact h,HX6.out,HB6.out⟩
      ·have HLN:=hQ (show Qmx t zs m=false from by rw [HLA.out,xR h20,Bool.false_and])
       have y1:(yk==20)=false:=by simpa using h20
       clear h20
       go_wp2_with fail
       go_roundw
       case measure=>first | (simp [intOf];done) | (simp [intOf];omega)
       case rel=>exact ⟨m,done,rfl,by omega,HQ6.out,by have h:=HDN.out;rw [HLK.out,xN (by rw [HLN.out];decide),xU] at h;exact h,HX6.out,HB6.out⟩
    ·obtain rfl:k=0:=by omega
     rw [show ((0:Nat):Int)=0 from rfl]
     have HDN0:=hQ (show done=Qf9 t zs zs.length from by have h:=HDN.out;rw [Qf9,List.append_nil] at h;exact h)
     have HQ5:=hQ (show PhRow w5 w.heap.size W.heap.size _ (Qf9 t zs zs.length) from by rw [←HDN0.out];exact HQ.out)
     clear HDN HDN0 HQ
     go_wp2_with fail
     go_loopw [8,12] (fun l i wr=>QArP t ⟨vk,vx,vla,vll,vlc,vka,t.kids.length,vkc⟩ zs w W l i wr) (fun _ i _=>t.kids.length-(intOf i).toNat)
     case atStart=>exact ⟨0,rfl,xZ _,by unfold Qjp;rw [List.range_zero,List.map_nil,List.append_nil];exact HQ5.out,HB5.out⟩
     case round =>
      obtain ⟨k,rfl,hk2,hq,hb⟩:=hrel
      have HQ:=hQ hq
      have HB7:=hQ hb
      clear hq hb
      by_cases hkl:k<t.kids.length-2
      ·have k0:(0:Int)≤(k:Int):=by omega
       have k1:(k:Int)<(t.kids.length:Int)-2:=by omega
       have k2:(k:Int)+1≤1001:=by omega
       obtain ⟨hs,q1,q2,q3⟩:=HQ.out
       obtain ⟨LA,lc,hl⟩:=Qem q2
       subst hl
       obtain ⟨us,hus⟩:∃ us,us=Qf9 t zs zs.length ++ Qjp k:=⟨_,rfl⟩
       rw [←hus] at q1 q2 q3 ⊢
       have HUS:=hQ hus
       obtain ⟨V,hV⟩:∃ V,V=(wr.alloc (.cells #[.int .i64 (k:Int)] 3)).alloc (.cells #[.slice (some ⟨wr.heap.size,0,none⟩) 1 1] 23):=⟨_,rfl⟩
       have hbv:Below wr.heap.size wr V:=by
        rw [hV]
        exact (Qaf wr _).trans ((Qaf _ _).mono (by rw [xI];omega))
       have hv0:V.heap[wr.heap.size]? = some (.cells #[.int .i64 (k:Int)] 3 (0,0)):=by
        rw [hV]
        exact ((Qaf (wr.alloc (.cells #[.int .i64 (k:Int)] 3)) _).block _ (by rw [xI];omega)).trans (xH wr _)
       have hv1:V.heap[wr.heap.size+1]? = some (.cells #[.slice (some ⟨wr.heap.size,0,none⟩) 1 1] 23 (0,0)):=by
        have h:=xH (wr.alloc (.cells #[.int .i64 (k:Int)] 3)) (.cells #[.slice (some ⟨wr.heap.size,0,none⟩) 1 1] 23)
        rw [xI,←hV] at h
        exact h
       have Q1:=hQ q1
       have HBV:=hQ hbv
       have HV0:=hQ hv0
       have Q2:=hQ ((Keeps.of_below (P:=fun _=>none) hbv).row q2 fun _ _=>.inl rfl)
       have HWW:=hQ (HBW.out.trans (HB7.out.mono HBW.out.size))
       have Q3:=hQ (show ∀ (j:Nat) (h:Value) (p:List Int),hs[j]? = some h→us[j]? = some p→PthAt V w.heap.size h p from fun j h p hh hp=>(q3 j h p hh hp).keep HWW.out.size hbv)
       have HNW:=hQ (show ∀ (j:Nat) (x:Value),([.slice (some ⟨wr.heap.size,0,none⟩) 1 1]:List Value)[j]? = some x→V.cell? ((⟨wr.heap.size+1,0,none⟩:Addr).add j)=some x from fun j x hx=>by
        rw [Addr.add_lit,Nat.zero_add]
        exact Qaa hv1 j x (by rw [←Array.getElem?_toList];exact hx))
       have HALL:=hQ (show ∀ u∈([.slice (some ⟨wr.heap.size,0,none⟩) 1 1]:List Value),u.oneCell'=true from fun u hu=>by obtain rfl:=List.mem_singleton.1 hu;rfl)
       have HDL:=hQ (show us.length+1≤12000 from by
        rw [hus,xB,Qn7]
        have h2:=Qig t zs zs.length
        have:=HZL.out
        have:=HK.out
        omega)
       have HM1:=hQ (show us.length+1≤maxLen from by have:=HDL.out;unfold maxLen;omega)
       have HM2:=hQ (show (us.length+1)*24≤140737488355328 from by have:=HDL.out;omega)
       have HSZ:=hQ (show W.heap.size≤V.heap.size from xQ HB7.out.size hbv.size)
       have HVE:=hQ hV
       clear q1 q2 q3 hus hbv hv0 hv1 hV
       go_wp2_with (at_builtin;rw [show (wr.alloc (.cells #[.int .i64 (k:Int)] 3)).alloc (.cells #[.slice (some ⟨wr.heap.size,0,none⟩) 1 1] 23)=V from HVE.out.symm];refine Qd2 _ rfl _ _ 41 rfl W.heap.size 23 it _ 1 24 Tryz.underlying41 hit ht0 ht1 ht2 rfl (by decide) _ us.length hs rfl Q2.out ⟨wr.heap.size+1,0,none⟩ 1 1 [.slice (some ⟨wr.heap.size,0,none⟩) 1 1] rfl rfl HNW.out HALL.out (by decide) HM1.out HM2.out HSZ.out ?_;intro g7 c7 w7 hown7 hk7 hg7 hlt7;have HO7:=hQ hown7;have HK7:=hQ hk7;clear hown7 hk7 hg7 hlt7)
       go_roundw
       case measure=>first | (simp [intOf];done) | (simp [intOf];omega)
       case rel =>
        have hlow:∀ b,(Value.slice LA us.length lc).ownBlock=some b→W.heap.size≤b:=fun b e=>(World.ownsRow.lt Q2.out b e).1
        have hbk:Below W.heap.size V w7:=HK7.out.below HSZ.out fun b hl=>Qbt fun e=>by have:=hlow b e;omega
        have hb7:=(HB7.out.trans (HBV.out.mono HB7.out.size)).trans hbk
        refine ⟨k+1,rfl,by omega,?_,hb7⟩
        have hp:PthAt V w.heap.size (.slice (some ⟨wr.heap.size,0,none⟩) 1 1) [(k:Int)]:=.inr ⟨wr.heap.size,1,_,rfl,HWW.out.size,HV0.out,rfl⟩
        have h:=PhRow.snoc Q1.out Q2.out Q3.out hp HBW.out.size (xQ HWW.out.size HBV.out.size) HO7.out HK7.out
        rw [HUS.out,xT,←Qly] at h
        rw [HUS.out]
        exact h
      ·have k1:¬ ((k:Int)<(t.kids.length:Int)-2):=by omega
       have HKE:=hQ (show k=t.kids.length-2 by omega)
       go_wp2_with fail
       go_ret
       exact ⟨_,rfl,by rw [HF.out,←HKE.out];exact HQ.out.low HBW.out.size,HBW.out.trans (HB7.out.mono HBW.out.size)⟩
  ·have HF:=hQ (show Qdd t zs = [] from by unfold Qdd;rw [xN (fun h=>h0 h.2)])
   have HFI:=hQ hf
   by_cases hpos:0<zs.length
   ·obtain ⟨z0,hz0⟩:∃ z,zs[0]? = some z:=⟨_,xF hpos⟩
    have hzn:z0≠(t.kids.length:Int)-1:=fun e=>h0 (by rw [hz0,e])
    have HPOS:=hQ hpos
    have HZ0:=hQ hz0
    have HZN:=hQ hzn
    clear hf h0 hpos hz0 hzn
    go_enter Tryz.func69,Tryz.ntmps69
    go_wp2_with fail
    go_at_call 42
    refine (Qgq _ t ⟨vk,vx,vla,vll,vlc,vka,t.kids.length,vkc⟩ PA c zs _ HT.out HA.out (by have:=HZL.out;unfold maxLen;omega)).mono ?_
    rintro e w1 ⟨hb1,x,rfl,S3,_,hx3⟩
    have HB1:=hQ (HB0.out.trans (hb1.mono HB0.out.size))
    have HX1:=hQ ((hb1.block _ (Qab HX.out)).trans HX.out)
    obtain ⟨xk,xx,xla,xll,xlc,xka,xkl,xkc⟩:=x
    have HBX:=hQ (Qaf w1 (trO ⟨xk,xx,xla,xll,xlc,xka,xkl,xkc⟩))
    clear hb1 hx3
    rw [HFI.out]
    obtain ⟨ab,ao,rfl,al0,hac⟩:=(HA0.out.keep HB1.out) (by intro h;have hp:=HPOS.out;rw [h] at hp;simp at hp)
    have a0:=hac 0 _ HZ0.out
    rw [Nat.add_zero] at a0
    have l0:((zs.length:Int)==0)=false:=by rw [beq_eq_false_iff_ne];have:=HPOS.out;omega
    have l1:(0:Int)<(zs.length:Int):=by have:=HPOS.out;omega
    have l2:¬ ((zs.length:Int)=0):=by omega
    have hkb:(t.kids.length:Int)≤1000:=by have:=HK.out;omega
    have z1:(z0 != (t.kids.length:Int)-1)=true:=by rw [bne_iff_ne];exact HZN.out
    clear hac
    go_wp2_with fail
    go_ret
    exact ⟨_,rfl,by rw [HF.out];exact PhRow.nil _ _ _,HB1.out.trans (HBX.out.mono HB1.out.size)⟩
   ·have HPOS:=hQ (show zs.length=0 by omega)
    clear hf h0 hpos
    go_enter Tryz.func69,Tryz.ntmps69
    go_wp2_with fail
    go_at_call 42
    refine (Qgq _ t ⟨vk,vx,vla,vll,vlc,vka,t.kids.length,vkc⟩ PA c zs _ HT.out HA.out (by have:=HZL.out;unfold maxLen;omega)).mono ?_
    rintro e w1 ⟨hb1,x,rfl,S3,_,hx3⟩
    have HB1:=hQ (HB0.out.trans (hb1.mono HB0.out.size))
    have HX1:=hQ ((hb1.block _ (Qab HX.out)).trans HX.out)
    obtain ⟨xk,xx,xla,xll,xlc,xka,xkl,xkc⟩:=x
    have HBX:=hQ (Qaf w1 (trO ⟨xk,xx,xla,xll,xlc,xka,xkl,xkc⟩))
    clear hb1 hx3
    rw [HFI.out]
    rw [HPOS.out]
    go_wp2_with fail
    go_ret
    exact ⟨_,rfl,by rw [HF.out];exact PhRow.nil _ _ _,HB1.out.trans (HBX.out.mono HB1.out.size)⟩
end Go.Proofs.YtjidpkcjpgdafaaGreat
