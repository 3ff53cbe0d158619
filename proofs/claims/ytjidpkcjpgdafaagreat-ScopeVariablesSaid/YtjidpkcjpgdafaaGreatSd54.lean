/- Part 54 -/
import Derived.Test.YtjidpkcjpgdafaaGreatSd53
import Derived.Test.YtjidpkcjpgdafaaGreatSd40
set_option maxRecDepth 100000
set_option maxHeartbeats 4000000
namespace Go.Proofs.YtjidpkcjpgdafaaGreat
open Go.RowKit Go.Shelf
theorem Zd3 (x y:Value) (b:Bool) (hx:x.oneCell'=true) (hy:y.oneCell'=true):∀ u∈Qeh [(x,y,b)],u.oneCell'=true:=fun u hu=>by
 have h:u=x∨u=y∨u = .bool b:=by simpa [Qeh] using hu
 rcases h with rfl | rfl | rfl
 ·exact hx
 ·exact hy
 ·rfl
theorem Zam {t:Tr} {ps:List (List Int)} {k:Nat} {p:List Int} (h:ps[k]? = some p):(ps.take (k+1)).filterMap (Qh3 t)=(ps.take k).filterMap (Qh3 t) ++ (Qh3 t p).toList:=by
 rw [List.take_add_one,h,Option.toList_some,List.filterMap_append,List.filterMap_cons,List.filterMap_nil]
 cases Qh3 t p <;> rfl
def VbL (t:Tr) (ps:List (List Int)) (w w2:World) (l i:Value) (wr:World):Prop:=∃ (k:Nat) (ws:List (Value × Value × Bool)),i = .int .i64 (k:Int)∧k≤ps.length∧VRow wr w2.heap.size l ws∧VarsAt wr w.heap.size ws ((ps.take k).filterMap (Qh3 t))∧Below w2.heap.size w2 wr
theorem VbL.more {t:Tr} {ps:List (List Int)} {w w2 V w':World} {k g cap m:Nat} {l:Value} {ws:List (Value × Value × Bool)} {y:Value × Value × Bool} {z:Vrb} {p:List Int} (hk:k<ps.length) (hp:ps[k]? = some p) (hz:Qh3 t p=some z)
  (hr:VRow V w2.heap.size l ws) (hv:VarsAt V w.heap.size ws ((ps.take k).filterMap (Qh3 t))) (hy:Qyq V w.heap.size y z) (hb:Below w2.heap.size w2 V) (hm:ws.length=m)
  (ho:w'.ownsRow w2.heap.size 66 3 (.slice (some ⟨g,0,none⟩) (m+1) cap) (m+1) (Qeh ws ++ Qeh [y])) (hK:Keeps (pre l (m*3)) V w'):VbL t ps w w2 (.slice (some ⟨g,0,none⟩) (m+1) cap) (.int .i64 ((k:Int)+1)) w':=by
 subst hm
 have hI:∀ v p,IRow V w.heap.size v p→IRow w' w.heap.size v p:=fun v p h=>hK.row h fun k hk'=>.inl (Qcb (Qhe h hr (by decide) k hk'))
 refine ⟨k+1,ws ++ [y],by simp,by omega,?_,?_,hb.trans (hK.below hb.size fun b hl=>Qcb fun e=>by have:=(World.ownsRow.lt hr b e).1;omega)⟩
 ·unfold VRow
  rw [Qj3,xB,List.length_singleton]
  exact ho
 ·rw [Zam hp,hz]
  exact (hv.step hI).app (VarsAt.one ⟨hI _ _ hy.1,hy.2.imp id fun ⟨q,h1,h2,h3⟩=>⟨q,h1,hI _ _ h2,h3⟩⟩)
theorem Qpn (S:Nat→Prop) (t:Tr) (v:TV) (w:World) (ht:TrAt S w t v) (hw:Qdh t=true) (hft:Qyh t=true) (hz:Qak t≤1000) :
  Calls Tryz.prog 37 #[.agg #[.int .i64 v.kind,.string v.text,.slice v.la v.ll v.lc,.slice v.ka v.kl v.kc]] w fun e w'=>∃ r ws,e = .returned r∧VRow w' w.heap.size r ws∧VarsAt w' w.heap.size ws (Qiv t)∧Below w.heap.size w w':=by
 obtain ⟨iv,hiv,vz0,vz1,vz2⟩:=info_parts Qts
 have hb0:=Qal w (trO v)
 have HT0:=hQ ht
 have HT:=hQ (ht.keep hb0)
 have HX:=hQ (xH w (trO v))
 have HB0:=hQ hb0
 have HZ:=hQ hz
 have HW:=hQ hw
 have HFT:=hQ hft
 obtain ⟨vk,vx,vla,vll,vlc,vka,vkl,vkc⟩:=v
 clear ht hb0 hz hw hft
 cases hf:Qfd t
 ·have HR:=hQ (show Qiv t = [] from by unfold Qiv;rw [hf];rfl)
  have HF:=hQ hf
  clear hf
  go_enter Tryz.func37,Tryz.ntmps37
  go_wp2_with (go_at_call 68;refine (Qly _ t _ _ HT.out HW.out HZ.out).mono ?_;rw [HF.out];rintro e w1 ⟨rfl,hb⟩;have HB1:=hQ (HB0.out.trans (hb.mono HB0.out.size));clear hb)
  go_ret
  exact ⟨_,[],rfl,World.ownsRow_nil _ _ _ _,by rw [HR.out];exact VarsAt.nil _ _,HB1.out⟩
 ·have HF:=hQ hf
  have HVQ:=hQ (Zg6 hf HZ.out)
  clear hf
  go_enter Tryz.func37,Tryz.ntmps37
  go_wp2_with fail
  go_at_call 68
  refine (Qly _ t ⟨vk,vx,vla,vll,vlc,vka,vkl,vkc⟩ _ HT.out HW.out HZ.out).mono ?_
  rw [HF.out]
  rintro e w1 ⟨rfl,hb1⟩
  have HB1:=hQ (HB0.out.trans (hb1.mono HB0.out.size))
  have HX1:=hQ ((hb1.block _ (Qaa HX.out)).trans HX.out)
  have HT1:=hQ (HT.out.keep hb1)
  have b0:w1.cell? ⟨w.heap.size,0,none⟩=some (.int .i64 vk):=Qab HX1.out 0 _ rfl
  have b1:w1.cell? ⟨w.heap.size,1,none⟩=some (.string vx):=Qab HX1.out 1 _ rfl
  have b2:w1.cell? ⟨w.heap.size,2,none⟩=some (.slice vla vll vlc):=Qab HX1.out 2 _ rfl
  have b3:w1.cell? ⟨w.heap.size,3,none⟩=some (.slice vka vkl vkc):=Qab HX1.out 3 _ rfl
  clear hb1
  go_wp2_with fail
  go_at_call 25
  refine (Qwm _ t ⟨vk,vx,vla,vll,vlc,vka,vkl,vkc⟩ w1 HT1.out HFT.out (by have:=HZ.out;omega)).mono ?_
  rintro e w2 ⟨L,rfl,hq,hb2⟩
  obtain ⟨ps,hps⟩:∃ ps,ps=Qf5 t []:=⟨_,rfl⟩
  have hpl:ps.length≤1000:=by rw [hps,Qkw];exact HZ.out
  have hshort:∀ q∈ps,q.length≤10000:=fun q hq=>by
   rw [hps,Qm6] at hq
   obtain ⟨x,hx⟩:=List.mem_iff_getElem?.1 hq
   have:=Zai _ t x q (xA _) hx
   have:=HZ.out
   omega
  have HFD:=hQ (show ∀ q∈ps,∃ u,Qbl t q=some u from fun q hq=>by
   rw [hps,Qm6] at hq
   obtain ⟨x,hx⟩:=List.mem_iff_getElem?.1 hq
   have h:=Zfz _ t 0 x q (xA _) hx
   exact (Qgy q t 0).1 (by rw [h];omega))
  rw [←hps] at hq HVQ
  obtain ⟨LA0,lc0,rfl⟩:∃ A c,L = .slice A ps.length c:=by obtain ⟨vs,h1,_⟩:=hq;exact Qc6 h1
  have HPS:=hQ hq
  have HSH:=hQ hshort
  have HB2:=hQ (HB1.out.trans (hb2.mono HB1.out.size))
  have HX2:=hQ ((hb2.block _ (Qaa HX1.out)).trans HX1.out)
  have hpi:(ps.length:Int)≤1000:=by omega
  have HPL:=hQ hpl
  clear hq hps hpl hb2 b0 b1 b2 b3 hshort
  go_wp2_with fail
  go_loopw [3,5] (fun l i wr=>VbL t ps w w2 l i wr) (fun _ i _=>ps.length-(intOf i).toNat)
  case atStart=>exact ⟨0,[],rfl,xZ _,World.ownsRow_nil _ _ _ _,by rw [List.take_zero];exact VarsAt.nil _ _,xC _ _⟩
  case round =>
   obtain ⟨k,ws,rfl,hk,hvr,hva,hb⟩:=hrel
   obtain ⟨w5,hwo⟩:∃ w',w'=wr:=⟨_,rfl⟩
   subst hwo
   have HVR:=hQ hvr
   have HVA:=hQ hva
   have HB5:=hQ hb
   clear hvr hva hb
   by_cases hkl:k<ps.length
   ·obtain ⟨q,hq⟩:∃ q,ps[k]? = some q:=⟨_,xF hkl⟩
    obtain ⟨lg,QA,qc,rfl,gl,p0,hqi⟩:=(HPS.out.keep HB5.out).at hq
    have hqc:=Qg4 hqi
    have hqi2:=(show IRow w5 _ _ _ from hqi).ints.2
    have HX5:=hQ ((HB5.out.block _ (Qaa HX2.out)).trans HX2.out)
    have HBA:=hQ (HB2.out.trans (HB5.out.mono HB2.out.size))
    have HT5:=hQ (HT0.out.keep HBA.out)
    have HQI:=hQ hqi2
    have HQR5:=hQ (show IRow w5 w.heap.size (.slice QA q.length qc) q from Qgn hqi HB1.out.size)
    have HQC:=hQ hqc
    have HQ:=hQ hq
    have HQ1:=hQ (HSH.out q (yA hq))
    have HWL:=hQ (show ws.length≤1000 from by
     rw [HVA.out.1]
     have h1:=List.length_filterMap_le (Qh3 t) (ps.take k)
     rw [List.length_take] at h1
     have:=HPL.out
     omega)
    have HCA:=hQ (fun (w':World) (hb:Below w5.heap.size w5 w')=>Qjd _ t ⟨vk,vx,vla,vll,vlc,vka,vkl,vkc⟩ QA qc q w' (HT5.out.keep hb) (HQI.out.keep hb) (by have:=HQ1.out;unfold maxLen;omega))
    have HB55:=hQ (xC w5.heap.size w5)
    have b0:w5.cell? ⟨w.heap.size,0,none⟩=some (.int .i64 vk):=Qab HX5.out 0 _ rfl
    have b1:w5.cell? ⟨w.heap.size,1,none⟩=some (.string vx):=Qab HX5.out 1 _ rfl
    have b2:w5.cell? ⟨w.heap.size,2,none⟩=some (.slice vla vll vlc):=Qab HX5.out 2 _ rfl
    have b3:w5.cell? ⟨w.heap.size,3,none⟩=some (.slice vka vkl vkc):=Qab HX5.out 3 _ rfl
    have dl:=Qaa HX5.out
    have k0:(0:Int)≤(k:Int):=by omega
    have k1:(k:Int)<(ps.length:Int):=by omega
    have k2:(k:Int)+1≤1001:=by omega
    have n0:=World.new_ne w5 _ b0
    have n1:=World.new_ne w5 _ p0
    clear hq hqi hqi2 hqc
    go_wp2_with fail
    go_cut [6] (fun s7 wx=>AtK t q w5 s7 wx)
    case first =>
     go_region_held3 (fun w'=>w'.cell? ⟨w.heap.size,0,none⟩=some (.int .i64 vk)∧w'.cell? ⟨w.heap.size,1,none⟩=some (.string vx)∧w'.cell? ⟨w.heap.size,2,none⟩=some (.slice vla vll vlc)∧w'.cell? ⟨w.heap.size,3,none⟩=some (.slice vka vkl vkc)∧w'.cell? ⟨lg,k,none⟩=some (.slice QA q.length qc)) (first | with_reducible exact ⟨b0,b1,b2,b3,p0⟩ | go_keep) (first
      | (go_at_call 42;refine (HCA.out ((w5.alloc (.cells #[.int .i64 0,.string ⟨#[]⟩,.slice none 0 0,.slice none 0 0] 29)).drew) ((HB55.out.alloc HB55.out.size _).drew)).mono ?_;rintro e w3 ⟨hb3,x,rfl,S3,_,hx3⟩;have HKX:=hQ (And.intro hx3.kl.2.2.1 hx3.kl.2.2.2);have HB3:=hQ (show Below w5.heap.size w5 w3 from (((xC w5.heap.size w5).alloc (xA _) (.cells #[.int .i64 0,.string ⟨#[]⟩,.slice none 0 0,.slice none 0 0] 29)).drew).trans (hb3.mono (by show _≤(w5.alloc _).heap.size;rw [xI];omega)));have hzb:=(show w3.heap[w5.heap.size]? = some (.cells #[.int .i64 0,.string ⟨#[]⟩,.slice none 0 0,.slice none 0 0] 29 (0,0)) from (hb3.block _ (by show _<(w5.alloc _).heap.size;rw [xI];omega)).trans (xH w5 _));have HZB:=hQ hzb;have zf:∀ o,w3.frozen? ⟨w5.heap.size,o,none⟩=false:=(fun o=>xL hzb _);have zl:=Qaa hzb;have z0:w3.cell? ⟨w5.heap.size,0,none⟩=some (.int .i64 0):=Qab hzb 0 _ rfl;have z1:w3.cell? ⟨w5.heap.size,1,none⟩=some (.string ⟨#[]⟩):=Qab hzb 1 _ rfl;have z2:w3.cell? ⟨w5.heap.size,2,none⟩=some (.slice none 0 0):=Qab hzb 2 _ rfl;have z3:w3.cell? ⟨w5.heap.size,3,none⟩=some (.slice none 0 0):=Qab hzb 3 _ rfl;have h0:=Qb3 HB3.out dl b0;have h1:=Qb3 HB3.out dl b1;have h2:=Qb3 HB3.out dl b2;have h3:=Qb3 HB3.out dl b3;have h4:=Qb3 HB3.out gl p0;have g0:=xE dl HB3.out.size;have g1:=xE gl HB3.out.size;clear b0 b1 b2 b3 p0 dl gl;have b0:=h0;have b1:=h1;have b2:=h2;have b3:=h3;have p0:=h4;have dl:=g0;have gl:=g1;clear h0 h1 h2 h3 h4 g0 g1;clear hb3 hx3 hzb)
      | (go_at_call 42;refine (HCA.out w5.drew (HB55.out.drew)).mono ?_;rintro e w3 ⟨hb3,x,rfl,S3,_,hx3⟩;have HKX:=hQ (And.intro hx3.kl.2.2.1 hx3.kl.2.2.2);have HB3:=hQ (show Below w5.heap.size w5 w3 from (show Below w5.heap.size w5 w5.drew from (xC _ _).drew).trans hb3);have h0:=Qb3 HB3.out dl b0;have h1:=Qb3 HB3.out dl b1;have h2:=Qb3 HB3.out dl b2;have h3:=Qb3 HB3.out dl b3;have h4:=Qb3 HB3.out gl p0;have g0:=xE dl HB3.out.size;have g1:=xE gl HB3.out.size;clear b0 b1 b2 b3 p0 dl gl;have b0:=h0;have b1:=h1;have b2:=h2;have b3:=h3;have p0:=h4;have dl:=g0;have gl:=g1;clear h0 h1 h2 h3 h4 g0 g1;clear hb3 hx3))
     all_goals
      go_wp2_with fail
      go_meet
      first
       | (have hh:=HZB.out;clear hh;exact Qpj HZB.out HKX.out.1 HKX.out.2 HB3.out)
       | exact Qm5 HKX.out.1 HKX.out.2 HB3.out
    case rest =>
     obtain ⟨w6,hww⟩:∃ w',w'=wc:=⟨_,rfl⟩
     subst hww
     obtain ⟨g10,y,rfl,hxb,hxk,hxt,hb6⟩:=hcut
     obtain ⟨yk,yx,yla,yll,ylc,yka,ykl,ykc⟩:=y
     simp only at hxk hxt
     have x0:w6.cell? ⟨g10,0,none⟩=some (.int .i64 yk):=Qab hxb 0 _ rfl
     have x1:w6.cell? ⟨g10,1,none⟩=some (.string yx):=Qab hxb 1 _ rfl
     have xl:=Qaa hxb
     have c0:=Qb3 hb6 dl b0
     have c1:=Qb3 hb6 dl b1
     have c2:=Qb3 hb6 dl b2
     have c3:=Qb3 hb6 dl b3
     have p0:=Qb3 hb6 gl p0
     have gl:=xE gl hb6.size
     have dl:=xE dl hb6.size
     have P06:=hQ p0
     have GL6:=hQ gl
     have HB56:=hQ hb6
     have HB6:=hQ (HB5.out.trans (hb6.mono HB5.out.size))
     have HBE:=hQ (HBA.out.trans (hb6.mono HBA.out.size))
     have HQI6:=hQ (HQI.out.keep hb6)
     have HT6:=hQ (HT5.out.keep hb6)
     have HQR:=hQ (HQR5.out.keep hb6)
     have HVD:=hQ (show Qh3 t q=if yk=12 then some (q,Qdn (Qbj t q) yx) else none from by
      obtain ⟨u,hu⟩:∃ u,Qbl t q=some u:=by
       obtain ⟨_,hq⟩:True∧ps[k]? = some q:=⟨trivial,HQ.out⟩
       exact HFD.out q (yA hq)
      unfold Qh3
      rw [hu]
      rw [hu,Option.getD_some] at hxk hxt
      rw [hxk,hxt])
     clear b0 b1 b2 b3 n0 n1 hxb hxk hxt hb6
     by_cases hyk:yk=12
     ·subst hyk
      cases hin:Qdn (Qbj t q) yx with
      | none =>
       have HIN:=hQ hin
       have HVZ:=hQ (show Qh3 t q=some (q,none) from by rw [HVD.out,xO rfl,hin])
       clear hin
       go_wp2_with fail
       clear x0
       have HBD:=hQ (show Below w6.heap.size w6 w6.drew from (xC _ _).drew)
       go_region_held3 (fun w'=>w'.cell? ⟨w.heap.size,0,none⟩=some (.int .i64 vk)∧w'.cell? ⟨w.heap.size,1,none⟩=some (.string vx)∧w'.cell? ⟨w.heap.size,2,none⟩=some (.slice vla vll vlc)∧w'.cell? ⟨w.heap.size,3,none⟩=some (.slice vka vkl vkc)∧w'.cell? ⟨lg,k,none⟩=some (.slice QA q.length qc)∧w'.cell? ⟨g10,1,none⟩=some (.string yx)) (first | with_reducible exact ⟨c0,c1,c2,c3,p0,x1⟩ | go_keep) ((go_at_call 34;refine (Qod _ t ⟨vk,vx,vla,vll,vlc,vka,vkl,vkc⟩ QA qc q yx w6.drew (HT6.out.keep HBD.out) HW.out HZ.out (HQI6.out.keep HBD.out) HQ1.out HQC.out).mono ?_;rw [HIN.out];rintro e w7 ⟨hb7,rfl⟩;have HB67:=hQ (HBD.out.trans (hb7.mono HBD.out.size));have h0:=Qb3 HB67.out dl c0;have h1:=Qb3 HB67.out dl c1;have h2:=Qb3 HB67.out dl c2;have h3:=Qb3 HB67.out dl c3;have h4:=Qb3 HB67.out gl p0;have h5:=Qb3 HB67.out xl x1;have g0:=xE dl HB67.out.size;have g1:=xE gl HB67.out.size;have g2:=xE xl HB67.out.size;clear c0 c1 c2 c3 p0 x1 dl gl xl;have c0:=h0;have c1:=h1;have c2:=h2;have c3:=h3;have p0:=h4;have x1:=h5;have dl:=g0;have gl:=g1;have xl:=g2;clear h0 h1 h2 h3 h4 h5 g0 g1 g2;clear hb7))
       all_goals
        obtain ⟨LA,lc,hl⟩:=Qc6 HVR.out
        subst hl
        have HB7:=hQ (HB6.out.trans (HB67.out.mono HB6.out.size))
        have HA7:=hQ (Qal w7 (.cells #[.slice QA q.length qc,.slice none 0 0,.bool true] 66))
        have HB67A:=hQ (HB67.out.trans (HA7.out.mono HB67.out.size))
        have HVR7:=hQ (show VRow (w7.alloc (.cells #[.slice QA q.length qc,.slice none 0 0,.bool true] 66)) w2.heap.size (.slice LA ws.length lc) ws from (Keeps.of_below (P:=fun _=>none) (HB56.out.trans (HB67A.out.mono HB56.out.size))).row HVR.out fun _ _=>.inl rfl)
        have HVA7:=hQ (show VarsAt (w7.alloc (.cells #[.slice QA q.length qc,.slice none 0 0,.bool true] 66)) w.heap.size ws ((ps.take k).filterMap (Qh3 t)) from HVA.out.step fun v p h=>h.keep (HB56.out.trans (HB67A.out.mono HB56.out.size)))
        have HNW:=hQ (show ∀ (j:Nat) (x:Value),(Qeh [(.slice QA q.length qc,.slice none 0 0,true)])[j]? = some x→(w7.alloc (.cells #[.slice QA q.length qc,.slice none 0 0,.bool true] 66)).cell? ((⟨w7.heap.size,0,none⟩:Addr).add j)=some x from fun j x hx=>by
         rw [Addr.add_lit,Nat.zero_add]
         exact Qab (xH w7 _) j x (by rw [←Array.getElem?_toList];exact hx))
        have HALL:=hQ (Zd3 (.slice QA q.length qc) (.slice none 0 0) true rfl rfl)
        have HM1:=hQ (show ws.length+1≤maxLen from by have:=HWL.out;unfold maxLen;omega)
        have HM2:=hQ (show (ws.length+1)*56≤140737488355328 from by have:=HWL.out;omega)
        have HSZ:=hQ (show w2.heap.size≤(w7.alloc (.cells #[.slice QA q.length qc,.slice none 0 0,.bool true] 66)).heap.size from by rw [xI];have:=HB7.out.size;omega)
        go_wp2_with (at_builtin;refine Qel _ rfl _ _ 57 rfl w2.heap.size 66 iv _ 3 56 Tryz.underlying57 hiv vz0 vz1 vz2 rfl (by decide) _ ws.length (Qeh ws) rfl HVR7.out ⟨w7.heap.size,0,none⟩ 1 1 (Qeh [(.slice QA q.length qc,.slice none 0 0,true)]) rfl rfl HNW.out HALL.out (by decide) HM1.out HM2.out HSZ.out ?_;intro g8 c8 w8 hown8 hk8 hg8 hlt8;have HO8:=hQ hown8;have HK8:=hQ hk8;clear hown8 hk8 hg8 hlt8)
        go_roundw
        case measure=>first | (simp [intOf];done) | (simp [intOf];omega)
        case rel=>exact VbL.more hkl HQ.out HVZ.out HVR7.out HVA7.out (⟨(HQR.out.keep HB67A.out),.inl ⟨rfl,rfl,rfl⟩⟩) (HB7.out.trans (HA7.out.mono HB7.out.size)) rfl HO8.out HK8.out
      | some zq =>
       have HIN:=hQ hin
       have HVZ:=hQ (show Qh3 t q=some (q,some zq) from by rw [HVD.out,xO rfl,hin])
       clear hin
       go_wp2_with fail
       clear x0
       have HBD:=hQ (show Below w6.heap.size w6 w6.drew from (xC _ _).drew)
       go_region_held3 (fun w'=>w'.cell? ⟨w.heap.size,0,none⟩=some (.int .i64 vk)∧w'.cell? ⟨w.heap.size,1,none⟩=some (.string vx)∧w'.cell? ⟨w.heap.size,2,none⟩=some (.slice vla vll vlc)∧w'.cell? ⟨w.heap.size,3,none⟩=some (.slice vka vkl vkc)∧w'.cell? ⟨lg,k,none⟩=some (.slice QA q.length qc)∧w'.cell? ⟨g10,1,none⟩=some (.string yx)) (first | with_reducible exact ⟨c0,c1,c2,c3,p0,x1⟩ | go_keep) ((go_at_call 34;refine (Qod _ t ⟨vk,vx,vla,vll,vlc,vka,vkl,vkc⟩ QA qc q yx w6.drew (HT6.out.keep HBD.out) HW.out HZ.out (HQI6.out.keep HBD.out) HQ1.out HQC.out).mono ?_;rw [HIN.out];rintro e w7 ⟨hb7,bv,rfl,hbv⟩;obtain ⟨BA,bn,bc,rfl⟩:=hbv.slice;have HBV:=hQ hbv;clear hbv;have HB67:=hQ (HBD.out.trans (hb7.mono HBD.out.size));have h0:=Qb3 HB67.out dl c0;have h1:=Qb3 HB67.out dl c1;have h2:=Qb3 HB67.out dl c2;have h3:=Qb3 HB67.out dl c3;have h4:=Qb3 HB67.out gl p0;have h5:=Qb3 HB67.out xl x1;have g0:=xE dl HB67.out.size;have g1:=xE gl HB67.out.size;have g2:=xE xl HB67.out.size;clear c0 c1 c2 c3 p0 x1 dl gl xl;have c0:=h0;have c1:=h1;have c2:=h2;have c3:=h3;have p0:=h4;have x1:=h5;have dl:=g0;have gl:=g1;have xl:=g2;clear h0 h1 h2 h3 h4 h5 g0 g1 g2;clear hb7))
       all_goals
        obtain ⟨LA,lc,hl⟩:=Qc6 HVR.out
        subst hl
        have HBDS:=hQ (show w.heap.size≤w6.drew.heap.size from xQ HBE.out.size HBD.out.size)
        have HB7:=hQ (HB6.out.trans (HB67.out.mono HB6.out.size))
        have HA7:=hQ (Qal w7 (.cells #[.slice QA q.length qc,.slice BA bn bc,.bool false] 66))
        have HB67A:=hQ (HB67.out.trans (HA7.out.mono HB67.out.size))
        have HVR7:=hQ (show VRow (w7.alloc (.cells #[.slice QA q.length qc,.slice BA bn bc,.bool false] 66)) w2.heap.size (.slice LA ws.length lc) ws from (Keeps.of_below (P:=fun _=>none) (HB56.out.trans (HB67A.out.mono HB56.out.size))).row HVR.out fun _ _=>.inl rfl)
        have HVA7:=hQ (show VarsAt (w7.alloc (.cells #[.slice QA q.length qc,.slice BA bn bc,.bool false] 66)) w.heap.size ws ((ps.take k).filterMap (Qh3 t)) from HVA.out.step fun v p h=>h.keep (HB56.out.trans (HB67A.out.mono HB56.out.size)))
        have HNW:=hQ (show ∀ (j:Nat) (x:Value),(Qeh [(.slice QA q.length qc,.slice BA bn bc,false)])[j]? = some x→(w7.alloc (.cells #[.slice QA q.length qc,.slice BA bn bc,.bool false] 66)).cell? ((⟨w7.heap.size,0,none⟩:Addr).add j)=some x from fun j x hx=>by
         rw [Addr.add_lit,Nat.zero_add]
         exact Qab (xH w7 _) j x (by rw [←Array.getElem?_toList];exact hx))
        have HALL:=hQ (Zd3 (.slice QA q.length qc) (.slice BA bn bc) false rfl rfl)
        have HM1:=hQ (show ws.length+1≤maxLen from by have:=HWL.out;unfold maxLen;omega)
        have HM2:=hQ (show (ws.length+1)*56≤140737488355328 from by have:=HWL.out;omega)
        have HSZ:=hQ (show w2.heap.size≤(w7.alloc (.cells #[.slice QA q.length qc,.slice BA bn bc,.bool false] 66)).heap.size from by rw [xI];have:=HB7.out.size;omega)
        go_wp2_with (at_builtin;refine Qel _ rfl _ _ 57 rfl w2.heap.size 66 iv _ 3 56 Tryz.underlying57 hiv vz0 vz1 vz2 rfl (by decide) _ ws.length (Qeh ws) rfl HVR7.out ⟨w7.heap.size,0,none⟩ 1 1 (Qeh [(.slice QA q.length qc,.slice BA bn bc,false)]) rfl rfl HNW.out HALL.out (by decide) HM1.out HM2.out HSZ.out ?_;intro g8 c8 w8 hown8 hk8 hg8 hlt8;have HO8:=hQ hown8;have HK8:=hQ hk8;clear hown8 hk8 hg8 hlt8)
        go_roundw
        case measure=>first | (simp [intOf];done) | (simp [intOf];omega)
        case rel=>exact VbL.more hkl HQ.out HVZ.out HVR7.out HVA7.out (⟨(HQR.out.keep HB67A.out),.inr ⟨zq,rfl,(HBV.out.low HBDS.out).keep HA7.out,rfl⟩⟩) (HB7.out.trans (HA7.out.mono HB7.out.size)) rfl HO8.out HK8.out
     ·have HVZ:=hQ (show Qh3 t q=none from by rw [HVD.out,xN hyk])
      have e1:(yk==12)=false:=by simpa using hyk
      clear hyk
      go_wp2_with fail
      go_roundw
      case measure=>first | (simp [intOf];done) | (simp [intOf];omega)
      case rel=>exact ⟨k+1,ws,rfl,by omega,(Keeps.of_below (P:=fun _=>none) HB56.out).row HVR.out fun _ _=>.inl rfl,by rw [Zam HQ.out,HVZ.out,Option.toList_none,List.append_nil];exact HVA.out.step fun v p h=>h.keep HB56.out,HB6.out⟩
   ·obtain rfl:k=ps.length:=by omega
    go_wp2_with fail
    go_ret
    exact ⟨_,ws,rfl,Qgn HVR.out HB2.out.size,by have h:=HVA.out;rw [List.take_length,←HVQ.out] at h;exact h,HB2.out.trans (HB5.out.mono HB2.out.size)⟩
theorem Qua {w:World} {B:Nat} {v:Value} {p:List Int} (h:IRow w B v p):p.length≤maxLen:=by
 rcases h.2 with ⟨_,h0⟩|⟨g,cap,cur,_,_,_,hnc,hm,_⟩
 ·rw [h0];exact xZ _
 ·exact xQ hnc hm
theorem Zd4 {w:World} {lo:Nat} {z:Vrb} {y:Value × Value × Bool} (h:z.2=none∧y.2.1 = .slice none 0 0∧y.2.2=true∨∃ q,z.2=some q∧IRow w lo y.2.1 q∧y.2.2=false) :
  ∃ A c,y.2.1 = .slice A (z.2.getD []).length c∧IntsAt w A (z.2.getD [])∧(z.2.getD []).length≤maxLen∧y.2.2=z.2.isNone:=by
 rcases h with ⟨a,b,c⟩|⟨q,a,b,c⟩
 ·rw [a,b,c]
  exact ⟨none,0,rfl,fun h=>absurd rfl h,xZ _,rfl⟩
 ·obtain ⟨A,n,cc,hv⟩:=b.slice
  rw [hv] at b
  obtain ⟨e,hi⟩:=b.ints
  subst e
  rw [a,c]
  exact ⟨A,cc,hv,hi,Qua b,rfl⟩
theorem Zdj (A B:Option Addr) (ca cb ba bb la lb:Nat) (xs ys:List (Value × Value × Bool)) (vs:List Vrb) (w:World) (ha:VRow w ba (.slice A vs.length ca) xs) (hva:VarsAt w la xs vs) (hb:VRow w bb (.slice B vs.length cb) ys) (hvb:VarsAt w lb ys vs) (hn:vs.length≤1000000) :
  Calls Tryz.prog 35 #[.slice A vs.length ca,.slice B vs.length cb] w fun e w'=>e = .returned (.bool true)∧Below w.heap.size w w':=by
 have HA:=hQ ha
 have HVA:=hQ hva
 have HB:=hQ hb
 have HVB:=hQ hvb
 have hni:(vs.length:Int)≤1000000:=by omega
 have mixedL:Tryz.prog.follows Departure.mixedOrders=true:=Qvq
 clear ha hva hb hvb hn
 go_enter Tryz.func35,Tryz.ntmps35
 go_wp2_with fail
 go_loopw [5] (fun i wr=>∃ k:Nat,i = .int .i64 (k:Int)∧k≤vs.length∧Below w.heap.size w wr) (fun i _=>vs.length-(intOf i).toNat)
 case atStart=>exact ⟨0,rfl,xZ _,xC _ _⟩
 case round =>
  obtain ⟨k,rfl,hk,hb⟩:=hrel
  have HBR:=hQ hb
  clear hb
  by_cases hkl:k<vs.length
  ·obtain ⟨z,hz⟩:∃ z,vs[k]? = some z:=⟨_,xF hkl⟩
   obtain ⟨g,c,y,hv,_,gl,_,p0,p1,p2,hy⟩:=HA.out.at HVA.out hz
   injection hv with hv1 hv2 hv3
   subst hv1 hv3
   clear hv2
   obtain ⟨g',c',y',hv,_,gl',_,q0,q1,q2,hy'⟩:=HB.out.at HVB.out hz
   injection hv with hv1 hv2 hv3
   subst hv1 hv3
   clear hv2
   obtain ⟨PA,pn,pc,hpv⟩:=hy.1.slice
   have hp:=hy.1
   rw [hpv] at hp p0
   have hpl:=Qua hp
   obtain ⟨e,hpi⟩:=hp.ints
   subst e
   obtain ⟨QA,qn,qc,hqv⟩:=hy'.1.slice
   have hq:=hy'.1
   rw [hqv] at hq q0
   obtain ⟨e,hqi⟩:=hq.ints
   subst e
   obtain ⟨BA,bc,e1,hbi,hbl,e2⟩:=Zd4 hy.2
   obtain ⟨CA,cc,e3,hci,_,e4⟩:=Zd4 hy'.2
   rw [e1] at p1
   rw [e2] at p2
   rw [e3] at q1
   rw [e4] at q2
   have p0:=(HBR.out.cell (p:=⟨g,k*3,none⟩) gl).trans p0
   have p1:=(HBR.out.cell (p:=⟨g,k*3+1,none⟩) gl).trans p1
   have p2:=(HBR.out.cell (p:=⟨g,k*3+2,none⟩) gl).trans p2
   have q0:=(HBR.out.cell (p:=⟨g',k*3,none⟩) gl').trans q0
   have q1:=(HBR.out.cell (p:=⟨g',k*3+1,none⟩) gl').trans q1
   have q2:=(HBR.out.cell (p:=⟨g',k*3+2,none⟩) gl').trans q2
   have gl:=xE gl HBR.out.size
   have gl':=xE gl' HBR.out.size
   have HPI:=hQ (hpi.keep HBR.out)
   have HQI:=hQ (hqi.keep HBR.out)
   have HBI:=hQ (hbi.keep HBR.out)
   have HCI:=hQ (hci.keep HBR.out)
   have HS1:=hQ (show ∀ n,Calls Tryz.prog 31 #[.slice PA z.1.length pc,.slice QA z.1.length qc] (wr.drewN n) fun e w'=>e = .returned (.bool true)∧∃ m,w'=(wr.drewN n).drewN m from fun n=>by
    have h:=Qkz PA QA pc qc z.1 z.1 (wr.drewN n) (HPI.out.keep (Qq7 wr n)) (HQI.out.keep (Qq7 wr n)) hpl hpl
    rw [Qjh] at h
    exact h)
   have HS2:=hQ (show ∀ n,Calls Tryz.prog 31 #[.slice BA (z.2.getD []).length bc,.slice CA (z.2.getD []).length cc] (wr.drewN n) fun e w'=>e = .returned (.bool true)∧∃ m,w'=(wr.drewN n).drewN m from fun n=>by
    have h:=Qkz BA CA bc cc (z.2.getD []) (z.2.getD []) (wr.drewN n) (HBI.out.keep (Qq7 wr n)) (HCI.out.keep (Qq7 wr n)) hbl hbl
    rw [Qjh] at h
    exact h)
   have k0:(0:Int)≤(k:Int):=by omega
   have k1:(k:Int)<(vs.length:Int):=by omega
   have k2:(k:Int)+1≤1000001:=by omega
   obtain ⟨b,hbn⟩:∃ b,b=z.2.isNone:=⟨_,rfl⟩
   rw [←hbn] at p2 q2
   clear hpl hpi hqi hp hq hbi hci hbl e1 e2 e3 e4 hy hy' hpv hqv hz hbn
   cases b
   all_goals
    go_wp2_with fail
    go_quiet (first | (go_at_call 31;with_reducible exact Calls.quiet_of (HS1.out _)) | (go_at_call 31;with_reducible exact Calls.quiet_of (HS2.out _)))
    clear p0 p1 p2 q0 q1 q2 gl gl'
    go_wp2_with fail
    go_roundw
    case measure=>first | (simp [intOf];done) | (simp [intOf];omega)
    case rel=>exact ⟨k+1,rfl,by omega,HBR.out.trans ((Qq7 wr _).mono HBR.out.size)⟩
  ·obtain rfl:k=vs.length:=by omega
   go_wp2_with fail
   go_ret
   exact ⟨rfl,HBR.out⟩
theorem Zbe {w w':World} {B:Nat} {v:Value} {ws:List (Value × Value × Bool)} (h:VRow w B v ws) (hb:Below w.heap.size w w'):VRow w' B v ws:=(Keeps.of_below (P:=fun _=>none) hb).row h fun _ _=>.inl rfl
theorem Zdt (A B:Option Addr) (ca cb ba bb la lb:Nat) (xs ys:List (Value × Value × Bool)) (vs:List Vrb) (n:Nat) (w:World) (hn:vs.length=n) (ha:VRow w ba (.slice A xs.length ca) xs) (hva:VarsAt w la xs vs) (hb:VRow w bb (.slice B ys.length cb) ys) (hvb:VarsAt w lb ys vs) (hl:n≤1000000) :
  Calls Tryz.prog 35 #[.slice A n ca,.slice B n cb] w fun e w'=>e = .returned (.bool true)∧Below w.heap.size w w':=by
 subst hn
 rw [hva.1] at ha
 rw [hvb.1] at hb
 exact Zdj A B ca cb ba bb la lb xs ys vs w ha hva hb hvb hl
theorem Zgd {ps:List Tr} (hlen:ps.length≤3) (hg:∀ t∈ps,Qnl t) {f:Tr} (h:f∈Qpq ps):Qyh f=true:=by
 obtain ⟨T,h1,h2,h3⟩:=Zbb h
 have hcnt:=Qui hlen hg
 have hs:=Qyi _ (show Qrj (Qnc ps)≤1048576 from by omega)
 obtain ⟨i,hi⟩:=List.mem_iff_getElem?.1 h1
 obtain ⟨j,hj⟩:=List.mem_iff_getElem?.1 h2
 have hi':(Qnc ps).kids[i]? = some T:=hi
 exact (Qj1 ((Qj1 hs).2.2 i T hi')).2.2 j f hj
theorem Qnm (A:Option Addr) (c:Nat) (xs:List Int) (w:World) (hx:IntsAt w A xs) :
  Calls Tryz.prog 10 #[.slice A xs.length c] w fun e w'=>e = .returned (.bool true)∧Below w.heap.size w w':=by
 by_cases hl:xs.length≤120
 ·have d0:=xS hl
  have HP:=hQ (Qpp A c xs w hx hl)
  clear hx hl
  go_enter Tryz.func10,Tryz.ntmps10
  go_wp2_with (first | (go_at_call 23;refine (Qrh _ _ _ _).mono ?_;rintro e w0 ⟨rfl,h0⟩;rw [h0];clear h0 w0) | fail)
  go_at_call 41
  refine HP.out.mono ?_
  rintro e w2 ⟨l2,w1,ps,rfl,hlen,hgood,hfr,hb12,hb2⟩
  obtain ⟨FA,fc,rfl⟩:=hfr.slice
  have HFR:=hQ hfr
  have HB12:=hQ hb12
  have HB2:=hQ hb2
  have HFF:=hQ (fun f (h:f∈Qpq ps)=>And.intro (Zbd hlen hgood h) (Zgd hlen hgood h))
  obtain ⟨fs,hfs⟩:∃ fs,fs=Qpq ps:=⟨_,rfl⟩
  have hfl:fs.length≤1056:=by
   rw [hfs]
   have h1:=Qs8 ps
   have h2:=Qke ps hgood
   have h3:352*ps.length≤352*3:=Nat.mul_le_mul_left _ hlen
   omega
  rw [←hfs] at HFR HFF ⊢
  have hfi:(fs.length:Int)≤1056:=by omega
  clear hfr hb12 hb2 hlen hgood hfs hfl
  go_wp2_with fail
  go_loopw [4] (fun i wr=>∃ q:Nat,i = .int .i64 (q:Int)∧q≤fs.length∧Below w2.heap.size w2 wr) (fun i _=>fs.length-(intOf i).toNat)
  case atStart=>exact ⟨0,rfl,xZ _,xC _ _⟩
  case round =>
   obtain ⟨i,rfl,hq,hb⟩:=hrel
   obtain ⟨wo,hwo⟩:∃ w',w'=wr:=⟨_,rfl⟩
   subst hwo
   have HBR:=hQ hb
   clear hb
   by_cases hlt:i<fs.length
   ·obtain ⟨f,hf⟩:∃ f,fs[i]? = some f:=⟨_,xF hlt⟩
    obtain ⟨⟨f1,f2,f3,-⟩,f4⟩:=HFF.out f (yA hf)
    obtain ⟨-,fb,-,rfl,-⟩:=(HFR.out.later HBR.out).at hf
    obtain ⟨-,-,⟨uk,ux,ula,ull,ulc,uka,ukl,ukc⟩,c0,c1,c2,c3,hu⟩:=HFR.out.in hf
    simp only at c0 c1 c2 c3
    have cl0:=xK w2 _ c0
    have HUO:=hQ (hu.keep HBR.out)
    have F1:=hQ f1
    have F2:=hQ f2
    have F3:=hQ f3
    have F4:=hQ f4
    obtain ⟨n,hn⟩:∃ n,n=(Qiv f).length:=⟨_,rfl⟩
    have HN:=hQ hn
    have HNL:=hQ (show n≤352 from by rw [hn];have h1:=Zds (t:=f);omega)
    have c0:=Qb3 HBR.out cl0 c0
    have c1:=Qb3 HBR.out cl0 c1
    have c2:=Qb3 HBR.out cl0 c2
    have c3:=Qb3 HBR.out cl0 c3
    have cl:=xE cl0 HBR.out.size
    have i0:(0:Int)≤(i:Int):=by omega
    have i1:(i:Int)<(fs.length:Int):=by omega
    have i2:(i:Int)+1≤1057:=by omega
    have HBD:=hQ (show Below wo.heap.size wo wo.drew from (xC _ _).drew)
    clear f1 f2 f3 f4 hu hf hn cl0
    go_wp2_with fail
    go_region_held3 (fun w'=>w'.cell? ⟨fb,i*4,none⟩=some (.int .i64 uk)∧w'.cell? ⟨fb,i*4+1,none⟩=some (.string ux)∧w'.cell? ⟨fb,i*4+2,none⟩=some (.slice ula ull ulc)∧w'.cell? ⟨fb,i*4+3,none⟩=some (.slice uka ukl ukc)) (first | with_reducible exact ⟨c0,c1,c2,c3⟩ | go_keep) (first
     | (go_at_call 36;refine (Qi0 _ f ⟨uk,ux,ula,ull,ulc,uka,ukl,ukc⟩ wo.drew (HUO.out.keep HBD.out) F1.out F2.out (by have:=F3.out;omega)).mono ?_;rintro e w3 ⟨r,xs,rfl,hvr,hva,hb3⟩;obtain ⟨VA,vc,rfl⟩:=Qdo hvr;rw [hva.1,←HN.out];have HVR:=hQ hvr;have HVA:=hQ hva;have HBX:=hQ (HBD.out.trans (hb3.mono HBD.out.size));have HB3:=hQ HBX.out;have h0:=Qb3 HBX.out cl c0;have h1:=Qb3 HBX.out cl c1;have h2:=Qb3 HBX.out cl c2;have h3:=Qb3 HBX.out cl c3;have h4:=xE cl HBX.out.size;clear c0 c1 c2 c3 cl;have c0:=h0;have c1:=h1;have c2:=h2;have c3:=h3;have cl:=h4;clear h0 h1 h2 h3 h4;clear HBX hvr hva hb3)
     | (go_at_call 37;refine (Qpn _ f ⟨uk,ux,ula,ull,ulc,uka,ukl,ukc⟩ w3 (HUO.out.keep HB3.out) F2.out F4.out (by have:=F3.out;omega)).mono ?_;rintro e w4 ⟨r,ys,rfl,hvr,hva,hb4⟩;obtain ⟨RA,rc,rfl⟩:=Qdo hvr;rw [hva.1,←HN.out];have HRR:=hQ hvr;have HRA:=hQ hva;have HBX:=hQ hb4;have HB34:=hQ hb4;have HB4:=hQ (HB3.out.trans (hb4.mono HB3.out.size));have h0:=Qb3 HBX.out cl c0;have h1:=Qb3 HBX.out cl c1;have h2:=Qb3 HBX.out cl c2;have h3:=Qb3 HBX.out cl c3;have h4:=xE cl HBX.out.size;clear c0 c1 c2 c3 cl;have c0:=h0;have c1:=h1;have c2:=h2;have c3:=h3;have cl:=h4;clear h0 h1 h2 h3 h4;clear HBX hvr hva hb4)
     | (go_at_call 35;refine (Zdt VA RA vc rc _ _ _ _ xs ys (Qiv f) n w4 HN.out.symm (Zbe HVR.out HB34.out) (HVA.out.step fun v p h=>h.keep HB34.out) HRR.out HRA.out (by have:=HNL.out;omega)).mono ?_;rintro e w5 ⟨rfl,hb5⟩;have HBX:=hQ hb5;have HB5:=hQ (HB4.out.trans (hb5.mono HB4.out.size));have h0:=Qb3 HBX.out cl c0;have h1:=Qb3 HBX.out cl c1;have h2:=Qb3 HBX.out cl c2;have h3:=Qb3 HBX.out cl c3;have h4:=xE cl HBX.out.size;clear c0 c1 c2 c3 cl;have c0:=h0;have c1:=h1;have c2:=h2;have c3:=h3;have cl:=h4;clear h0 h1 h2 h3 h4;clear HBX hb5))
    all_goals
     clear c0 c1 c2 c3 cl
     go_wp2_with fail
     go_roundw
     case measure=>first | (simp [intOf];done) | (simp [intOf];omega)
     case rel=>exact ⟨i+1,rfl,by omega,HBR.out.trans (HB5.out.mono HBR.out.size)⟩
   ·obtain rfl:i=fs.length:=by omega
    go_wp2_with fail
    go_at_call 32
    refine (Qq9 _).mono ?_
    rintro e w9 ⟨rfl,hb9⟩
    have HB9:=hQ (HB2.out.trans ((HBR.out.trans (hb9.mono HBR.out.size)).mono HB2.out.size))
    clear hb9
    go_wp2_with fail
    go_ret
    exact ⟨rfl,HB9.out⟩
 ·have d0:=xR hl
  clear hx hl
  go_enter Tryz.func10,Tryz.ntmps10
  go_wp2_with (first | (go_at_call 23;refine (Qrh _ _ _ _).mono ?_;rintro e w0 ⟨rfl,h0⟩;rw [h0];clear h0 w0) | (go_at_call 32;refine (Qq9 _).mono ?_;rintro e w9 ⟨rfl,hb9⟩;have HB9:=hQ hb9;clear hb9))
  go_ret
  exact ⟨rfl,HB9.out⟩
end Go.Proofs.YtjidpkcjpgdafaaGreat
