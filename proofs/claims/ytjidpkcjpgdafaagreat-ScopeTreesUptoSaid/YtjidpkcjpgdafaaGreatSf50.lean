/- Part 50 -/
import Derived.Test.YtjidpkcjpgdafaaGreatSf48
import Derived.Test.YtjidpkcjpgdafaaGreatSf49
set_option maxRecDepth 100000
set_option maxHeartbeats 4000000
namespace Go.Proofs.YtjidpkcjpgdafaaGreat
open Go.RowKit Go.Shelf
theorem Qxn (x y:Value) (b:Bool) (hx:x.oneCell'=true) (hy:y.oneCell'=true):∀ u∈Qdc [(x,y,b)],u.oneCell'=true:=fun u hu=>by
 have h:u=x∨u=y∨u = .bool b:=by simpa [Qdc] using hu
 rcases h with rfl | rfl | rfl
 ·exact hx
 ·exact hy
 ·rfl
theorem Qva {t:Tr} {ps:List (List Int)} {k:Nat} {p:List Int} (h:ps[k]? = some p):(ps.take (k+1)).filterMap (Qge t)=(ps.take k).filterMap (Qge t) ++ (Qge t p).toList:=by
 rw [List.take_add_one,h,Option.toList_some,List.filterMap_append,List.filterMap_cons,List.filterMap_nil]
 cases Qge t p <;> rfl
def VbL (t:Tr) (ps:List (List Int)) (w w2:World) (l i:Value) (wr:World):Prop:=∃ (k:Nat) (ws:List (Value × Value × Bool)),i = .int .i64 (k:Int)∧k≤ps.length∧VRow wr w2.heap.size l ws∧VarsAt wr w.heap.size ws ((ps.take k).filterMap (Qge t))∧Below w2.heap.size w2 wr
theorem VbL.more {t:Tr} {ps:List (List Int)} {w w2 V w':World} {k g cap m:Nat} {l:Value} {ws:List (Value × Value × Bool)} {y:Value × Value × Bool} {z:Vrb} {p:List Int} (hk:k<ps.length) (hp:ps[k]? = some p) (hz:Qge t p=some z)
  (hr:VRow V w2.heap.size l ws) (hv:VarsAt V w.heap.size ws ((ps.take k).filterMap (Qge t))) (hy:Qt2 V w.heap.size y z) (hb:Below w2.heap.size w2 V) (hm:ws.length=m)
  (ho:w'.ownsRow w2.heap.size 66 3 (.slice (some ⟨g,0,none⟩) (m+1) cap) (m+1) (Qdc ws ++ Qdc [y])) (hK:Keeps (pre l (m*3)) V w'):VbL t ps w w2 (.slice (some ⟨g,0,none⟩) (m+1) cap) (.int .i64 ((k:Int)+1)) w':=by
 subst hm
 have hI:∀ v p,IRow V w.heap.size v p→IRow w' w.heap.size v p:=fun v p h=>hK.row h fun k hk'=>.inl (Qbt (Qft h hr (by decide) k hk'))
 refine ⟨k+1,ws ++ [y],by simp,by omega,?_,?_,hb.trans (hK.below hb.size fun b hl=>Qbt fun e=>by have:=(World.ownsRow.lt hr b e).1;omega)⟩
 ·unfold VRow
  rw [Qia,xB,List.length_singleton]
  exact ho
 ·rw [Qva hp,hz]
  exact (hv.step hI).app (VarsAt.one ⟨hI _ _ hy.1,hy.2.imp id fun ⟨q,h1,h2,h3⟩=>⟨q,h1,hI _ _ h2,h3⟩⟩)
theorem Qih (S:Nat→Prop) (t:Tr) (v:TV) (w:World) (ht:TrAt S w t v) (hw:Qc2 t=true) (hft:Qvg t=true) (hz:Qam t≤1000) :
  Calls Tryz.prog 37 #[.agg #[.int .i64 v.kind,.string v.text,.slice v.la v.ll v.lc,.slice v.ka v.kl v.kc]] w fun e w'=>∃ r ws,e = .returned r∧VRow w' w.heap.size r ws∧VarsAt w' w.heap.size ws (Qgs t)∧Below w.heap.size w w':=by
 obtain ⟨iv,hiv,vz0,vz1,vz2⟩:=info_parts Qqj
 have hb0:=Qaf w (trO v)
 have HT0:=hQ ht
 have HT:=hQ (ht.keep hb0)
 have HX:=hQ (xH w (trO v))
 have HB0:=hQ hb0
 have HZ:=hQ hz
 have HW:=hQ hw
 have HFT:=hQ hft
 obtain ⟨vk,vx,vla,vll,vlc,vka,vkl,vkc⟩:=v
 clear ht hb0 hz hw hft
 cases hf:Qd0 t
 ·have HR:=hQ (show Qgs t = [] from by unfold Qgs;rw [hf];rfl)
  have HF:=hQ hf
  clear hf
  go_enter Tryz.func37,Tryz.ntmps37
  go_wp2_with (go_at_call 68;refine (Qg5 _ t _ _ HT.out HW.out HZ.out).mono ?_;rw [HF.out];rintro e w1 ⟨rfl,hb⟩;have HB1:=hQ (HB0.out.trans (hb.mono HB0.out.size));clear hb)
  go_ret
  exact ⟨_,[],rfl,World.ownsRow_nil _ _ _ _,by rw [HR.out];exact VarsAt.nil _ _,HB1.out⟩
 ·have HF:=hQ hf
  have HVQ:=hQ (Qz5 hf HZ.out)
  clear hf
  go_enter Tryz.func37,Tryz.ntmps37
  go_wp2_with fail
  go_at_call 68
  refine (Qg5 _ t ⟨vk,vx,vla,vll,vlc,vka,vkl,vkc⟩ _ HT.out HW.out HZ.out).mono ?_
  rw [HF.out]
  rintro e w1 ⟨rfl,hb1⟩
  have HB1:=hQ (HB0.out.trans (hb1.mono HB0.out.size))
  have HX1:=hQ ((hb1.block _ (Qab HX.out)).trans HX.out)
  have HT1:=hQ (HT.out.keep hb1)
  have b0:w1.cell? ⟨w.heap.size,0,none⟩=some (.int .i64 vk):=Qaa HX1.out 0 _ rfl
  have b1:w1.cell? ⟨w.heap.size,1,none⟩=some (.string vx):=Qaa HX1.out 1 _ rfl
  have b2:w1.cell? ⟨w.heap.size,2,none⟩=some (.slice vla vll vlc):=Qaa HX1.out 2 _ rfl
  have b3:w1.cell? ⟨w.heap.size,3,none⟩=some (.slice vka vkl vkc):=Qaa HX1.out 3 _ rfl
  clear hb1
  go_wp2_with fail
  go_at_call 25
  refine (Qsi _ t ⟨vk,vx,vla,vll,vlc,vka,vkl,vkc⟩ w1 HT1.out HFT.out (by have:=HZ.out;omega)).mono ?_
  rintro e w2 ⟨L,rfl,hq,hb2⟩
  obtain ⟨ps,hps⟩:∃ ps,ps=Qes t []:=⟨_,rfl⟩
  have hpl:ps.length≤1000:=by rw [hps,Qi1];exact HZ.out
  have hshort:∀ q∈ps,q.length≤10000:=fun q hq=>by
   rw [hps,Qkx] at hq
   obtain ⟨x,hx⟩:=List.mem_iff_getElem?.1 hq
   have:=Qu6 _ t x q (xA _) hx
   have:=HZ.out
   omega
  have HFD:=hQ (show ∀ q∈ps,∃ u,Qay t q=some u from fun q hq=>by
   rw [hps,Qkx] at hq
   obtain ⟨x,hx⟩:=List.mem_iff_getElem?.1 hq
   have h:=Qza _ t 0 x q (xA _) hx
   exact (Qfd q t 0).1 (by rw [h];omega))
  rw [←hps] at hq HVQ
  obtain ⟨LA0,lc0,rfl⟩:∃ A c,L = .slice A ps.length c:=by obtain ⟨vs,h1,_⟩:=hq;exact Qem h1
  have HPS:=hQ hq
  have HSH:=hQ hshort
  have HB2:=hQ (HB1.out.trans (hb2.mono HB1.out.size))
  have HX2:=hQ ((hb2.block _ (Qab HX1.out)).trans HX1.out)
  have hpi:(ps.length:Int)≤1000:=by omega
  have HPL:=hQ hpl
  clear hq hps hpl hb2 b0 b1 b2 b3 hshort
  go_wp2_with fail
  go_loopw [3,5] (fun l i wr=>VbL t ps w w2 l i wr) (fun _ i _=>ps.length-(intOf i).toNat)
  case atStart=>exact ⟨0,[],rfl,xZ _,World.ownsRow_nil _ _ _ _,by rw [List.take_zero];exact VarsAt.nil _ _,xC _ _⟩
  case round =>
   obtain ⟨k,ws,rfl,hk,hvr,hva,hb⟩:=hrel
   obtain ⟨w5,hwo⟩:∃ w',w'=wr:=⟨_,rfl⟩
   subst hwo
   have HVR:=hQ hvr
   have HVA:=hQ hva
   have HB5:=hQ hb
   clear hvr hva hb
   by_cases hkl:k<ps.length
   ·obtain ⟨q,hq⟩:∃ q,ps[k]? = some q:=⟨_,xF hkl⟩
    obtain ⟨lg,QA,qc,rfl,gl,p0,hqi⟩:=(HPS.out.keep HB5.out).at hq
    have hqc:=Qmg hqi
    have hqi2:=(show IRow w5 _ _ _ from hqi).ints.2
    have HX5:=hQ ((HB5.out.block _ (Qab HX2.out)).trans HX2.out)
    have HBA:=hQ (HB2.out.trans (HB5.out.mono HB2.out.size))
    have HT5:=hQ (HT0.out.keep HBA.out)
    have HQI:=hQ hqi2
    have HQR5:=hQ (show IRow w5 w.heap.size (.slice QA q.length qc) q from Qdz hqi HB1.out.size)
    have HQC:=hQ hqc
    have HQ:=hQ hq
    have HQ1:=hQ (HSH.out q (yA hq))
    have HWL:=hQ (show ws.length≤1000 from by
     rw [HVA.out.1]
     have h1:=List.length_filterMap_le (Qge t) (ps.take k)
     rw [List.length_take] at h1
     have:=HPL.out
     omega)
    have HCA:=hQ (fun (w':World) (hb:Below w5.heap.size w5 w')=>Qgq _ t ⟨vk,vx,vla,vll,vlc,vka,vkl,vkc⟩ QA qc q w' (HT5.out.keep hb) (HQI.out.keep hb) (by have:=HQ1.out;unfold maxLen;omega))
    have HB55:=hQ (xC w5.heap.size w5)
    have b0:w5.cell? ⟨w.heap.size,0,none⟩=some (.int .i64 vk):=Qaa HX5.out 0 _ rfl
    have b1:w5.cell? ⟨w.heap.size,1,none⟩=some (.string vx):=Qaa HX5.out 1 _ rfl
    have b2:w5.cell? ⟨w.heap.size,2,none⟩=some (.slice vla vll vlc):=Qaa HX5.out 2 _ rfl
    have b3:w5.cell? ⟨w.heap.size,3,none⟩=some (.slice vka vkl vkc):=Qaa HX5.out 3 _ rfl
    have dl:=Qab HX5.out
    have k0:(0:Int)≤(k:Int):=by omega
    have k1:(k:Int)<(ps.length:Int):=by omega
    have k2:(k:Int)+1≤1001:=by omega
    have n0:=World.new_ne w5 _ b0
    have n1:=World.new_ne w5 _ p0
    clear hq hqi hqi2 hqc
    go_wp2_with fail
    go_cut [6] (fun s7 wx=>AtK t q w5 s7 wx)
    case first =>
     go_region_held3 (fun w'=>w'.cell? ⟨w.heap.size,0,none⟩=some (.int .i64 vk)∧w'.cell? ⟨w.heap.size,1,none⟩=some (.string vx)∧w'.cell? ⟨w.heap.size,2,none⟩=some (.slice vla vll vlc)∧w'.cell? ⟨w.heap.size,3,none⟩=some (.slice vka vkl vkc)∧w'.cell? ⟨lg,k,none⟩=some (.slice QA q.length qc)) (first | with_reducible exact ⟨b0,b1,b2,b3,p0⟩ | go_keep) (first
      | (go_at_call 42;refine (HCA.out ((w5.alloc (.cells #[.int .i64 0,.string ⟨#[]⟩,.slice none 0 0,.slice none 0 0] 29)).drew) ((HB55.out.alloc HB55.out.size _).drew)).mono ?_;rintro e w3 ⟨hb3,x,rfl,S3,_,hx3⟩;have HKX:=hQ (And.intro hx3.kl.2.2.1 hx3.kl.2.2.2);have HB3:=hQ (show Below w5.heap.size w5 w3 from (((xC w5.heap.size w5).alloc (xA _) (.cells #[.int .i64 0,.string ⟨#[]⟩,.slice none 0 0,.slice none 0 0] 29)).drew).trans (hb3.mono (by show _≤(w5.alloc _).heap.size;rw [xI];omega)));have hzb:=(show w3.heap[w5.heap.size]? = some (.cells #[.int .i64 0,.string ⟨#[]⟩,.slice none 0 0,.slice none 0 0] 29 (0,0)) from (hb3.block _ (by show _<(w5.alloc _).heap.size;rw [xI];omega)).trans (xH w5 _));have HZB:=hQ hzb;have zf:∀ o,w3.frozen? ⟨w5.heap.size,o,none⟩=false:=(fun o=>xL hzb _);have zl:=Qab hzb;have z0:w3.cell? ⟨w5.heap.size,0,none⟩=some (.int .i64 0):=Qaa hzb 0 _ rfl;have z1:w3.cell? ⟨w5.heap.size,1,none⟩=some (.string ⟨#[]⟩):=Qaa hzb 1 _ rfl;have z2:w3.cell? ⟨w5.heap.size,2,none⟩=some (.slice none 0 0):=Qaa hzb 2 _ rfl;have z3:w3.cell? ⟨w5.heap.size,3,none⟩=some (.slice none 0 0):=Qaa hzb 3 _ rfl;have h0:=Qbo HB3.out dl b0;have h1:=Qbo HB3.out dl b1;have h2:=Qbo HB3.out dl b2;have h3:=Qbo HB3.out dl b3;have h4:=Qbo HB3.out gl p0;have g0:=xE dl HB3.out.size;have g1:=xE gl HB3.out.size;clear b0 b1 b2 b3 p0 dl gl;have b0:=h0;have b1:=h1;have b2:=h2;have b3:=h3;have p0:=h4;have dl:=g0;have gl:=g1;clear h0 h1 h2 h3 h4 g0 g1;clear hb3 hx3 hzb)
      | (go_at_call 42;refine (HCA.out w5.drew (HB55.out.drew)).mono ?_;rintro e w3 ⟨hb3,x,rfl,S3,_,hx3⟩;have HKX:=hQ (And.intro hx3.kl.2.2.1 hx3.kl.2.2.2);have HB3:=hQ (show Below w5.heap.size w5 w3 from (show Below w5.heap.size w5 w5.drew from (xC _ _).drew).trans hb3);have h0:=Qbo HB3.out dl b0;have h1:=Qbo HB3.out dl b1;have h2:=Qbo HB3.out dl b2;have h3:=Qbo HB3.out dl b3;have h4:=Qbo HB3.out gl p0;have g0:=xE dl HB3.out.size;have g1:=xE gl HB3.out.size;clear b0 b1 b2 b3 p0 dl gl;have b0:=h0;have b1:=h1;have b2:=h2;have b3:=h3;have p0:=h4;have dl:=g0;have gl:=g1;clear h0 h1 h2 h3 h4 g0 g1;clear hb3 hx3))
     all_goals
      go_wp2_with fail
      go_meet
      first
       | (have hh:=HZB.out;clear hh;exact Qjw HZB.out HKX.out.1 HKX.out.2 HB3.out)
       | exact Qif HKX.out.1 HKX.out.2 HB3.out
    case rest =>
     obtain ⟨w6,hww⟩:∃ w',w'=wc:=⟨_,rfl⟩
     subst hww
     obtain ⟨g10,y,rfl,hxb,hxk,hxt,hb6⟩:=hcut
     obtain ⟨yk,yx,yla,yll,ylc,yka,ykl,ykc⟩:=y
     simp only at hxk hxt
     have x0:w6.cell? ⟨g10,0,none⟩=some (.int .i64 yk):=Qaa hxb 0 _ rfl
     have x1:w6.cell? ⟨g10,1,none⟩=some (.string yx):=Qaa hxb 1 _ rfl
     have xl:=Qab hxb
     have c0:=Qbo hb6 dl b0
     have c1:=Qbo hb6 dl b1
     have c2:=Qbo hb6 dl b2
     have c3:=Qbo hb6 dl b3
     have p0:=Qbo hb6 gl p0
     have gl:=xE gl hb6.size
     have dl:=xE dl hb6.size
     have P06:=hQ p0
     have GL6:=hQ gl
     have HB56:=hQ hb6
     have HB6:=hQ (HB5.out.trans (hb6.mono HB5.out.size))
     have HBE:=hQ (HBA.out.trans (hb6.mono HBA.out.size))
     have HQI6:=hQ (HQI.out.keep hb6)
     have HT6:=hQ (HT5.out.keep hb6)
     have HQR:=hQ (HQR5.out.keep hb6)
     have HVD:=hQ (show Qge t q=if yk=12 then some (q,Qcc (Qas t q) yx) else none from by
      obtain ⟨u,hu⟩:∃ u,Qay t q=some u:=by
       obtain ⟨_,hq⟩:True∧ps[k]? = some q:=⟨trivial,HQ.out⟩
       exact HFD.out q (yA hq)
      unfold Qge
      rw [hu]
      rw [hu,Option.getD_some] at hxk hxt
      rw [hxk,hxt])
     clear b0 b1 b2 b3 n0 n1 hxb hxk hxt hb6
     by_cases hyk:yk=12
     ·subst hyk
      cases hin:Qcc (Qas t q) yx with
      | none =>
       have HIN:=hQ hin
       have HVZ:=hQ (show Qge t q=some (q,none) from by rw [HVD.out,xO rfl,hin])
       clear hin
       go_wp2_with fail
       clear x0
       have HBD:=hQ (show Below w6.heap.size w6 w6.drew from (xC _ _).drew)
       go_region_held3 (fun w'=>w'.cell? ⟨w.heap.size,0,none⟩=some (.int .i64 vk)∧w'.cell? ⟨w.heap.size,1,none⟩=some (.string vx)∧w'.cell? ⟨w.heap.size,2,none⟩=some (.slice vla vll vlc)∧w'.cell? ⟨w.heap.size,3,none⟩=some (.slice vka vkl vkc)∧w'.cell? ⟨lg,k,none⟩=some (.slice QA q.length qc)∧w'.cell? ⟨g10,1,none⟩=some (.string yx)) (first | with_reducible exact ⟨c0,c1,c2,c3,p0,x1⟩ | go_keep) ((go_at_call 34;refine (Qi5 _ t ⟨vk,vx,vla,vll,vlc,vka,vkl,vkc⟩ QA qc q yx w6.drew (HT6.out.keep HBD.out) HW.out HZ.out (HQI6.out.keep HBD.out) HQ1.out HQC.out).mono ?_;rw [HIN.out];rintro e w7 ⟨hb7,rfl⟩;have HB67:=hQ (HBD.out.trans (hb7.mono HBD.out.size));have h0:=Qbo HB67.out dl c0;have h1:=Qbo HB67.out dl c1;have h2:=Qbo HB67.out dl c2;have h3:=Qbo HB67.out dl c3;have h4:=Qbo HB67.out gl p0;have h5:=Qbo HB67.out xl x1;have g0:=xE dl HB67.out.size;have g1:=xE gl HB67.out.size;have g2:=xE xl HB67.out.size;clear c0 c1 c2 c3 p0 x1 dl gl xl;have c0:=h0;have c1:=h1;have c2:=h2;have c3:=h3;have p0:=h4;have x1:=h5;have dl:=g0;have gl:=g1;have xl:=g2;clear h0 h1 h2 h3 h4 h5 g0 g1 g2;clear hb7))
       all_goals
        obtain ⟨LA,lc,hl⟩:=Qem HVR.out
        subst hl
        have HB7:=hQ (HB6.out.trans (HB67.out.mono HB6.out.size))
        have HA7:=hQ (Qaf w7 (.cells #[.slice QA q.length qc,.slice none 0 0,.bool true] 66))
        have HB67A:=hQ (HB67.out.trans (HA7.out.mono HB67.out.size))
        have HVR7:=hQ (show VRow (w7.alloc (.cells #[.slice QA q.length qc,.slice none 0 0,.bool true] 66)) w2.heap.size (.slice LA ws.length lc) ws from (Keeps.of_below (P:=fun _=>none) (HB56.out.trans (HB67A.out.mono HB56.out.size))).row HVR.out fun _ _=>.inl rfl)
        have HVA7:=hQ (show VarsAt (w7.alloc (.cells #[.slice QA q.length qc,.slice none 0 0,.bool true] 66)) w.heap.size ws ((ps.take k).filterMap (Qge t)) from HVA.out.step fun v p h=>h.keep (HB56.out.trans (HB67A.out.mono HB56.out.size)))
        have HNW:=hQ (show ∀ (j:Nat) (x:Value),(Qdc [(.slice QA q.length qc,.slice none 0 0,true)])[j]? = some x→(w7.alloc (.cells #[.slice QA q.length qc,.slice none 0 0,.bool true] 66)).cell? ((⟨w7.heap.size,0,none⟩:Addr).add j)=some x from fun j x hx=>by
         rw [Addr.add_lit,Nat.zero_add]
         exact Qaa (xH w7 _) j x (by rw [←Array.getElem?_toList];exact hx))
        have HALL:=hQ (Qxn (.slice QA q.length qc) (.slice none 0 0) true rfl rfl)
        have HM1:=hQ (show ws.length+1≤maxLen from by have:=HWL.out;unfold maxLen;omega)
        have HM2:=hQ (show (ws.length+1)*56≤140737488355328 from by have:=HWL.out;omega)
        have HSZ:=hQ (show w2.heap.size≤(w7.alloc (.cells #[.slice QA q.length qc,.slice none 0 0,.bool true] 66)).heap.size from by rw [xI];have:=HB7.out.size;omega)
        go_wp2_with (at_builtin;refine Qd2 _ rfl _ _ 57 rfl w2.heap.size 66 iv _ 3 56 Tryz.underlying57 hiv vz0 vz1 vz2 rfl (by decide) _ ws.length (Qdc ws) rfl HVR7.out ⟨w7.heap.size,0,none⟩ 1 1 (Qdc [(.slice QA q.length qc,.slice none 0 0,true)]) rfl rfl HNW.out HALL.out (by decide) HM1.out HM2.out HSZ.out ?_;intro g8 c8 w8 hown8 hk8 hg8 hlt8;have HO8:=hQ hown8;have HK8:=hQ hk8;clear hown8 hk8 hg8 hlt8)
        go_roundw
        case measure=>first | (simp [intOf];done) | (simp [intOf];omega)
        case rel=>exact VbL.more hkl HQ.out HVZ.out HVR7.out HVA7.out (⟨(HQR.out.keep HB67A.out),.inl ⟨rfl,rfl,rfl⟩⟩) (HB7.out.trans (HA7.out.mono HB7.out.size)) rfl HO8.out HK8.out
      | some zq =>
       have HIN:=hQ hin
       have HVZ:=hQ (show Qge t q=some (q,some zq) from by rw [HVD.out,xO rfl,hin])
       clear hin
       go_wp2_with fail
       clear x0
       have HBD:=hQ (show Below w6.heap.size w6 w6.drew from (xC _ _).drew)
       go_region_held3 (fun w'=>w'.cell? ⟨w.heap.size,0,none⟩=some (.int .i64 vk)∧w'.cell? ⟨w.heap.size,1,none⟩=some (.string vx)∧w'.cell? ⟨w.heap.size,2,none⟩=some (.slice vla vll vlc)∧w'.cell? ⟨w.heap.size,3,none⟩=some (.slice vka vkl vkc)∧w'.cell? ⟨lg,k,none⟩=some (.slice QA q.length qc)∧w'.cell? ⟨g10,1,none⟩=some (.string yx)) (first | with_reducible exact ⟨c0,c1,c2,c3,p0,x1⟩ | go_keep) ((go_at_call 34;refine (Qi5 _ t ⟨vk,vx,vla,vll,vlc,vka,vkl,vkc⟩ QA qc q yx w6.drew (HT6.out.keep HBD.out) HW.out HZ.out (HQI6.out.keep HBD.out) HQ1.out HQC.out).mono ?_;rw [HIN.out];rintro e w7 ⟨hb7,bv,rfl,hbv⟩;obtain ⟨BA,bn,bc,rfl⟩:=hbv.slice;have HBV:=hQ hbv;clear hbv;have HB67:=hQ (HBD.out.trans (hb7.mono HBD.out.size));have h0:=Qbo HB67.out dl c0;have h1:=Qbo HB67.out dl c1;have h2:=Qbo HB67.out dl c2;have h3:=Qbo HB67.out dl c3;have h4:=Qbo HB67.out gl p0;have h5:=Qbo HB67.out xl x1;have g0:=xE dl HB67.out.size;have g1:=xE gl HB67.out.size;have g2:=xE xl HB67.out.size;clear c0 c1 c2 c3 p0 x1 dl gl xl;have c0:=h0;have c1:=h1;have c2:=h2;have c3:=h3;have p0:=h4;have x1:=h5;have dl:=g0;have gl:=g1;have xl:=g2;clear h0 h1 h2 h3 h4 h5 g0 g1 g2;clear hb7))
       all_goals
        obtain ⟨LA,lc,hl⟩:=Qem HVR.out
        subst hl
        have HBDS:=hQ (show w.heap.size≤w6.drew.heap.size from xQ HBE.out.size HBD.out.size)
        have HB7:=hQ (HB6.out.trans (HB67.out.mono HB6.out.size))
        have HA7:=hQ (Qaf w7 (.cells #[.slice QA q.length qc,.slice BA bn bc,.bool false] 66))
        have HB67A:=hQ (HB67.out.trans (HA7.out.mono HB67.out.size))
        have HVR7:=hQ (show VRow (w7.alloc (.cells #[.slice QA q.length qc,.slice BA bn bc,.bool false] 66)) w2.heap.size (.slice LA ws.length lc) ws from (Keeps.of_below (P:=fun _=>none) (HB56.out.trans (HB67A.out.mono HB56.out.size))).row HVR.out fun _ _=>.inl rfl)
        have HVA7:=hQ (show VarsAt (w7.alloc (.cells #[.slice QA q.length qc,.slice BA bn bc,.bool false] 66)) w.heap.size ws ((ps.take k).filterMap (Qge t)) from HVA.out.step fun v p h=>h.keep (HB56.out.trans (HB67A.out.mono HB56.out.size)))
        have HNW:=hQ (show ∀ (j:Nat) (x:Value),(Qdc [(.slice QA q.length qc,.slice BA bn bc,false)])[j]? = some x→(w7.alloc (.cells #[.slice QA q.length qc,.slice BA bn bc,.bool false] 66)).cell? ((⟨w7.heap.size,0,none⟩:Addr).add j)=some x from fun j x hx=>by
         rw [Addr.add_lit,Nat.zero_add]
         exact Qaa (xH w7 _) j x (by rw [←Array.getElem?_toList];exact hx))
        have HALL:=hQ (Qxn (.slice QA q.length qc) (.slice BA bn bc) false rfl rfl)
        have HM1:=hQ (show ws.length+1≤maxLen from by have:=HWL.out;unfold maxLen;omega)
        have HM2:=hQ (show (ws.length+1)*56≤140737488355328 from by have:=HWL.out;omega)
        have HSZ:=hQ (show w2.heap.size≤(w7.alloc (.cells #[.slice QA q.length qc,.slice BA bn bc,.bool false] 66)).heap.size from by rw [xI];have:=HB7.out.size;omega)
        go_wp2_with (at_builtin;refine Qd2 _ rfl _ _ 57 rfl w2.heap.size 66 iv _ 3 56 Tryz.underlying57 hiv vz0 vz1 vz2 rfl (by decide) _ ws.length (Qdc ws) rfl HVR7.out ⟨w7.heap.size,0,none⟩ 1 1 (Qdc [(.slice QA q.length qc,.slice BA bn bc,false)]) rfl rfl HNW.out HALL.out (by decide) HM1.out HM2.out HSZ.out ?_;intro g8 c8 w8 hown8 hk8 hg8 hlt8;have HO8:=hQ hown8;have HK8:=hQ hk8;clear hown8 hk8 hg8 hlt8)
        go_roundw
        case measure=>first | (simp [intOf];done) | (simp [intOf];omega)
        case rel=>exact VbL.more hkl HQ.out HVZ.out HVR7.out HVA7.out (⟨(HQR.out.keep HB67A.out),.inr ⟨zq,rfl,(HBV.out.low HBDS.out).keep HA7.out,rfl⟩⟩) (HB7.out.trans (HA7.out.mono HB7.out.size)) rfl HO8.out HK8.out
     ·have HVZ:=hQ (show Qge t q=none from by rw [HVD.out,xN hyk])
      have e1:(yk==12)=false:=by simpa using hyk
      clear hyk
      go_wp2_with fail
      go_roundw
      case measure=>first | (simp [intOf];done) | (simp [intOf];omega)
      case rel=>exact ⟨k+1,ws,rfl,by omega,(Keeps.of_below (P:=fun _=>none) HB56.out).row HVR.out fun _ _=>.inl rfl,by rw [Qva HQ.out,HVZ.out,Option.toList_none,List.append_nil];exact HVA.out.step fun v p h=>h.keep HB56.out,HB6.out⟩
   ·obtain rfl:k=ps.length:=by omega
    go_wp2_with fail
    go_ret
    exact ⟨_,ws,rfl,Qdz HVR.out HB2.out.size,by have h:=HVA.out;rw [List.take_length,←HVQ.out] at h;exact h,HB2.out.trans (HB5.out.mono HB2.out.size)⟩
end Go.Proofs.YtjidpkcjpgdafaaGreat
