/- Part 53 -/
import Derived.Test.YtjidpkcjpgdafaaGreatSf51
import Derived.Test.YtjidpkcjpgdafaaGreatSf50
import Derived.Test.YtjidpkcjpgdafaaGreatSf52
import Derived.OwnWalk
import Derived.WalkSmall
set_option maxRecDepth 100000
set_option maxHeartbeats 4000000
namespace Go.Proofs.YtjidpkcjpgdafaaGreat
open Go.RowKit Go.Shelf
theorem Qm0 {w:World} {B:Nat} {v:Value} {p:List Int} (h:IRow w B v p):p.length≤maxLen:=by
 rcases h.2 with ⟨_,h0⟩|⟨g,cap,cur,_,_,_,hnc,hm,_⟩
 ·rw [h0];exact xZ _
 ·exact xQ hnc hm
theorem Qxo {w:World} {lo:Nat} {z:Vrb} {y:Value × Value × Bool} (h:z.2=none∧y.2.1 = .slice none 0 0∧y.2.2=true∨∃ q,z.2=some q∧IRow w lo y.2.1 q∧y.2.2=false) :
  ∃ A c,y.2.1 = .slice A (z.2.getD []).length c∧IntsAt w A (z.2.getD [])∧(z.2.getD []).length≤maxLen∧y.2.2=z.2.isNone:=by
 rcases h with ⟨a,b,c⟩|⟨q,a,b,c⟩
 ·rw [a,b,c]
  exact ⟨none,0,rfl,fun h=>absurd rfl h,xZ _,rfl⟩
 ·obtain ⟨A,n,cc,hv⟩:=b.slice
  rw [hv] at b
  obtain ⟨e,hi⟩:=b.ints
  subst e
  rw [a,c]
  exact ⟨A,cc,hv,hi,Qm0 b,rfl⟩
theorem Qxb (A B:Option Addr) (ca cb ba bb la lb:Nat) (xs ys:List (Value × Value × Bool)) (vs:List Vrb) (w:World) (ha:VRow w ba (.slice A vs.length ca) xs) (hva:VarsAt w la xs vs) (hb:VRow w bb (.slice B vs.length cb) ys) (hvb:VarsAt w lb ys vs) (hn:vs.length≤1000000) :
  Calls Tryz.prog 35 #[.slice A vs.length ca,.slice B vs.length cb] w fun e w'=>e = .returned (.bool true)∧Below w.heap.size w w':=by
 have HA:=hQ ha
 have HVA:=hQ hva
 have HB:=hQ hb
 have HVB:=hQ hvb
 have hni:(vs.length:Int)≤1000000:=by omega
 have mixedL:Tryz.prog.follows Departure.mixedOrders=true:=mixed
 clear ha hva hb hvb hn
 go_enter Tryz.func35,Tryz.ntmps35
 go_wp2_with fail
 go_loopw [5] (fun i wr=>∃ k:Nat,i = .int .i64 (k:Int)∧k≤vs.length∧Below w.heap.size w wr) (fun i _=>vs.length-(intOf i).toNat)
 case atStart=>exact ⟨0,rfl,xZ _,xC _ _⟩
 case round =>
  obtain ⟨k,rfl,hk,hb⟩:=hrel
  have HBR:=hQ hb
  clear hb
  by_cases hkl:k<vs.length
  ·obtain ⟨z,hz⟩:∃ z,vs[k]? = some z:=⟨_,xF hkl⟩
   obtain ⟨g,c,y,hv,_,gl,_,p0,p1,p2,hy⟩:=HA.out.at HVA.out hz
   injection hv with hv1 hv2 hv3
   subst hv1 hv3
   clear hv2
   obtain ⟨g',c',y',hv,_,gl',_,q0,q1,q2,hy'⟩:=HB.out.at HVB.out hz
   injection hv with hv1 hv2 hv3
   subst hv1 hv3
   clear hv2
   obtain ⟨PA,pn,pc,hpv⟩:=hy.1.slice
   have hp:=hy.1
   rw [hpv] at hp p0
   have hpl:=Qm0 hp
   obtain ⟨e,hpi⟩:=hp.ints
   subst e
   obtain ⟨QA,qn,qc,hqv⟩:=hy'.1.slice
   have hq:=hy'.1
   rw [hqv] at hq q0
   obtain ⟨e,hqi⟩:=hq.ints
   subst e
   obtain ⟨BA,bc,e1,hbi,hbl,e2⟩:=Qxo hy.2
   obtain ⟨CA,cc,e3,hci,_,e4⟩:=Qxo hy'.2
   rw [e1] at p1
   rw [e2] at p2
   rw [e3] at q1
   rw [e4] at q2
   have p0:=(HBR.out.cell (p:=⟨g,k*3,none⟩) gl).trans p0
   have p1:=(HBR.out.cell (p:=⟨g,k*3+1,none⟩) gl).trans p1
   have p2:=(HBR.out.cell (p:=⟨g,k*3+2,none⟩) gl).trans p2
   have q0:=(HBR.out.cell (p:=⟨g',k*3,none⟩) gl').trans q0
   have q1:=(HBR.out.cell (p:=⟨g',k*3+1,none⟩) gl').trans q1
   have q2:=(HBR.out.cell (p:=⟨g',k*3+2,none⟩) gl').trans q2
   have gl:=xE gl HBR.out.size
   have gl':=xE gl' HBR.out.size
   have HPI:=hQ (hpi.keep HBR.out)
   have HQI:=hQ (hqi.keep HBR.out)
   have HBI:=hQ (hbi.keep HBR.out)
   have HCI:=hQ (hci.keep HBR.out)
   have HS1:=hQ (show ∀ n,Calls Tryz.prog 31 #[.slice PA z.1.length pc,.slice QA z.1.length qc] (wr.drewN n) fun e w'=>e = .returned (.bool true)∧∃ m,w'=(wr.drewN n).drewN m from fun n=>by
    have h:=Qi6 PA QA pc qc z.1 z.1 (wr.drewN n) (HPI.out.keep (Qd3 wr n)) (HQI.out.keep (Qd3 wr n)) hpl hpl
    rw [Qgb] at h
    exact h)
   have HS2:=hQ (show ∀ n,Calls Tryz.prog 31 #[.slice BA (z.2.getD []).length bc,.slice CA (z.2.getD []).length cc] (wr.drewN n) fun e w'=>e = .returned (.bool true)∧∃ m,w'=(wr.drewN n).drewN m from fun n=>by
    have h:=Qi6 BA CA bc cc (z.2.getD []) (z.2.getD []) (wr.drewN n) (HBI.out.keep (Qd3 wr n)) (HCI.out.keep (Qd3 wr n)) hbl hbl
    rw [Qgb] at h
    exact h)
   have k0:(0:Int)≤(k:Int):=by omega
   have k1:(k:Int)<(vs.length:Int):=by omega
   have k2:(k:Int)+1≤1000001:=by omega
   obtain ⟨b,hbn⟩:∃ b,b=z.2.isNone:=⟨_,rfl⟩
   rw [←hbn] at p2 q2
   clear hpl hpi hqi hp hq hbi hci hbl e1 e2 e3 e4 hy hy' hpv hqv hz hbn
   cases b
   all_goals
    go_wp2_with fail
    go_quiet (first | (go_at_call 31;with_reducible exact Calls.quiet_of (HS1.out _)) | (go_at_call 31;with_reducible exact Calls.quiet_of (HS2.out _)))
    clear p0 p1 p2 q0 q1 q2 gl gl'
    go_wp2_with fail
    go_roundw
    case measure=>first | (simp [intOf];done) | (simp [intOf];omega)
    case rel=>exact ⟨k+1,rfl,by omega,HBR.out.trans ((Qd3 wr _).mono HBR.out.size)⟩
  ·obtain rfl:k=vs.length:=by omega
   go_wp2_with fail
   go_ret
   exact ⟨rfl,HBR.out⟩
end Go.Proofs.YtjidpkcjpgdafaaGreat
namespace Go.Proofs.YtjidpkcjpgdafaaGreat
open Go.RowKit
theorem Qzd {l:List ByteArray} {y:ByteArray} (h:y∈l):y.size≤szB l:=by
 induction l with
 | nil=>simp at h
 | cons a r ih =>
  rw [szB]
  rcases List.mem_cons.1 h with rfl | h
  ·omega
  ·have:=ih h;omega
mutual
theorem Qoc:(t:Tr)→Qml t≤1048576→Qc2 t=true
 | .mk _ x ls ks,h=>by
  rw [Qml] at h
  rw [Qc2,Ql2 ks (by omega),xS (by unfold maxLen;omega),Bool.true_and,Bool.and_true,List.all_eq_true]
  intro y hy
  have:=Qzd hy
  exact xS (by unfold maxLen;omega)
theorem Ql2:(l:List Tr)→Qo7 l≤1048576→Qkb l=true
 | [],_=>by rw [Qkb]
 | t :: r,h=>by
  rw [Qo7] at h
  rw [Qkb,Qoc t (by omega),Ql2 r (by omega)]
  rfl
end
end Go.Proofs.YtjidpkcjpgdafaaGreat
namespace Go.Proofs.YtjidpkcjpgdafaaGreat
open Go.RowKit Go.Shelf
theorem Qxc {t:Tr}:(Qgs t).length≤Qam t:=by
 unfold Qgs
 split
 ·exact Qno t [] []
 ·simp
theorem Qod {w w':World} {B:Nat} {v:Value} {ws:List (Value × Value × Bool)} (h:VRow w B v ws) (hb:Below w.heap.size w w'):VRow w' B v ws:=(Keeps.of_below (P:=fun _=>none) hb).row h fun _ _=>.inl rfl
theorem Qqy (A B:Option Addr) (ca cb ba bb la lb:Nat) (xs ys:List (Value × Value × Bool)) (vs:List Vrb) (n:Nat) (w:World) (hn:vs.length=n) (ha:VRow w ba (.slice A xs.length ca) xs) (hva:VarsAt w la xs vs) (hb:VRow w bb (.slice B ys.length cb) ys) (hvb:VarsAt w lb ys vs) (hl:n≤1000000) :
  Calls Tryz.prog 35 #[.slice A n ca,.slice B n cb] w fun e w'=>e = .returned (.bool true)∧Below w.heap.size w w':=by
 subst hn
 rw [hva.1] at ha
 rw [hvb.1] at hb
 exact Qxb A B ca cb ba bb la lb xs ys vs w ha hva hb hvb hl
theorem Qky (S:Nat→Prop) (t:Tr) (v:TV) (PA:Option Addr) (c:Nat) (zs:List Int) (w:World) (ht:TrAt S w t v) (hw:Qc2 t=true) (hz:Qam t≤1000) (hA:IntsAt w PA zs) (hzl:zs.length≤10000) (hc:zs.length≤c) :
  Calls Tryz.prog 40 #[.agg #[.int .i64 v.kind,.string v.text,.slice v.la v.ll v.lc,.slice v.ka v.kl v.kc],.slice PA zs.length c] w fun e w'=>∃ r,e = .returned r∧NRow w' w.heap.size r (Qqn t zs)∧Below w.heap.size w w':=by
 have hb0:=Qaf w (trO v)
 have HT0:=hQ ht
 have HT:=hQ (ht.keep hb0)
 have HX:=hQ (xH w (trO v))
 have HB0:=hQ hb0
 have HZ:=hQ hz
 have HW:=hQ hw
 have HA:=hQ (hA.keep hb0)
 have HZL:=hQ hzl
 have HC:=hQ hc
 obtain ⟨vk,vx,vla,vll,vlc,vka,vkl,vkc⟩:=v
 clear ht hb0 hz hw hA hzl hc
 cases hf:Qd0 t
 ·have HN:=hQ (show Qqn t zs = [] from by unfold Qqn;rw [Qi4 hf];rfl)
  have HF:=hQ hf
  clear hf
  go_enter Tryz.func40,Tryz.ntmps40
  go_wp2_with (go_at_call 68;refine (Qg5 _ t _ _ HT.out HW.out HZ.out).mono ?_;rw [HF.out];rintro e w1 ⟨rfl,hb⟩;have HB1:=hQ (HB0.out.trans (hb.mono HB0.out.size));clear hb)
  go_ret
  exact ⟨_,rfl,by rw [HN.out];exact NRow.nil _ _,HB1.out⟩
 ·have HF:=hQ hf
  have HIQ:=hQ (vis_q hf HZ.out zs)
  have HPQ:=hQ (Qji hf HZ.out zs)
  clear hf
  go_enter Tryz.func40,Tryz.ntmps40
  go_wp2_with fail
  go_at_call 68
  refine (Qg5 _ t ⟨vk,vx,vla,vll,vlc,vka,vkl,vkc⟩ _ HT.out HW.out HZ.out).mono ?_
  rw [HF.out]
  rintro e w1 ⟨rfl,hb1⟩
  have HB1:=hQ (HB0.out.trans (hb1.mono HB0.out.size))
  have HX1:=hQ ((hb1.block _ (Qab HX.out)).trans HX.out)
  have HT1:=hQ (HT.out.keep hb1)
  have HA1:=hQ (HA.out.keep hb1)
  have b0:w1.cell? ⟨w.heap.size,0,none⟩=some (.int .i64 vk):=Qaa HX1.out 0 _ rfl
  have b1:w1.cell? ⟨w.heap.size,1,none⟩=some (.string vx):=Qaa HX1.out 1 _ rfl
  have b2:w1.cell? ⟨w.heap.size,2,none⟩=some (.slice vla vll vlc):=Qaa HX1.out 2 _ rfl
  have b3:w1.cell? ⟨w.heap.size,3,none⟩=some (.slice vka vkl vkc):=Qaa HX1.out 3 _ rfl
  clear hb1
  go_wp2_with fail
  go_at_call 69
  refine (Qlz _ t ⟨vk,vx,vla,vll,vlc,vka,vkl,vkc⟩ PA c zs w1 HT1.out HZ.out HA1.out HZL.out HC.out).mono ?_
  rintro e w2 ⟨r,rfl,hq,hb2⟩
  obtain ⟨LA,lc,rfl⟩:=hq.slice
  obtain ⟨ps,hps⟩:∃ ps,ps=Qdd t zs:=⟨_,rfl⟩
  have hpl:=Qhm t HZ.out zs HZL.out
  rw [←hps] at hq hpl HIQ HPQ ⊢
  have HQ:=hQ hq
  have HB2:=hQ (HB1.out.trans (hb2.mono HB1.out.size))
  have HW2:=hQ hb2.size
  have HX2:=hQ ((hb2.block _ (Qab HX1.out)).trans HX1.out)
  have hpi:(ps.length:Int)≤11000:=by omega
  clear hq hps hpl hb2 b0 b1 b2 b3
  go_wp2_with fail
  go_loopw [5,7] (fun l i wr=>∃ k:Nat,i = .int .i64 (k:Int)∧k≤ps.length∧NRow wr w.heap.size l (Qeq ((ps.take k).map (Qed t)))∧Below w2.heap.size w2 wr) (fun _ i _=>ps.length-(intOf i).toNat)
  case atStart=>exact ⟨0,rfl,xZ _,NRow.nil _ _,xC _ _⟩
  case round =>
   obtain ⟨k,rfl,hk,hfd,hb⟩:=hrel
   obtain ⟨w5,hwo⟩:∃ w',w'=wr:=⟨_,rfl⟩
   subst hwo
   have HFD:=hQ hfd
   have HB5:=hQ hb
   clear hfd hb
   by_cases hkl:k<ps.length
   ·obtain ⟨q,hq⟩:∃ q,ps[k]? = some q:=⟨_,xF hkl⟩
    obtain ⟨hq0,hq1⟩:=HPQ.out q (yA hq)
    obtain ⟨_,lg,QA,qc,rfl,_,gl,p0,hqi⟩:=(HQ.out.keep HW2.out HB5.out).at (xQ HW2.out HB5.out.size) hq
    have HNX:=hQ (show Qeq ((ps.take (k+1)).map (Qed t))=Qju (Qeq ((ps.take k).map (Qed t))) (Qed t q) from by
     rw [List.take_add_one,hq,Option.toList_some,List.map_append,List.map_cons,List.map_nil,Qkp])
    have HNL:=hQ (show (Qeq ((ps.take k).map (Qed t))).length≤100000 from by
     have h1:=Qiw ((ps.take k).map (Qed t))
     rw [List.length_map,List.length_take] at h1
     omega)
    have HX5:=hQ ((HB5.out.block _ (Qab HX2.out)).trans HX2.out)
    have HBA:=hQ (HB2.out.trans (HB5.out.mono HB2.out.size))
    have HT5:=hQ (HT0.out.keep HBA.out)
    have HQI:=hQ hqi
    have HQ0:=hQ hq0
    have HQ1:=hQ hq1
    have HCA:=hQ (fun (w':World) (hb:Below w5.heap.size w5 w')=>Qgq _ t ⟨vk,vx,vla,vll,vlc,vka,vkl,vkc⟩ QA qc q w' (HT5.out.keep hb) (HQI.out.keep hb) (by unfold maxLen;omega))
    have HB55:=hQ (xC w5.heap.size w5)
    have b0:w5.cell? ⟨w.heap.size,0,none⟩=some (.int .i64 vk):=Qaa HX5.out 0 _ rfl
    have b1:w5.cell? ⟨w.heap.size,1,none⟩=some (.string vx):=Qaa HX5.out 1 _ rfl
    have b2:w5.cell? ⟨w.heap.size,2,none⟩=some (.slice vla vll vlc):=Qaa HX5.out 2 _ rfl
    have b3:w5.cell? ⟨w.heap.size,3,none⟩=some (.slice vka vkl vkc):=Qaa HX5.out 3 _ rfl
    have dl:=Qab HX5.out
    have k0:(0:Int)≤(k:Int):=by omega
    have k1:(k:Int)<(ps.length:Int):=by omega
    have k2:(k:Int)+1≤11001:=by omega
    have n0:=World.new_ne w5 _ b0
    have n1:=World.new_ne w5 _ p0
    clear hq hqi hq0 hq1
    go_wp2_with fail
    go_cut [8] (fun s7 wx=>AtK t q w5 s7 wx)
    case first =>
     go_region_held3 (fun w'=>w'.cell? ⟨w.heap.size,0,none⟩=some (.int .i64 vk)∧w'.cell? ⟨w.heap.size,1,none⟩=some (.string vx)∧w'.cell? ⟨w.heap.size,2,none⟩=some (.slice vla vll vlc)∧w'.cell? ⟨w.heap.size,3,none⟩=some (.slice vka vkl vkc)∧w'.cell? ⟨lg,k,none⟩=some (.slice QA q.length qc)) (first | with_reducible exact ⟨b0,b1,b2,b3,p0⟩ | go_keep) (first
      | (go_at_call 42;refine (HCA.out ((w5.alloc (.cells #[.int .i64 0,.string ⟨#[]⟩,.slice none 0 0,.slice none 0 0] 29)).drew) ((HB55.out.alloc HB55.out.size _).drew)).mono ?_;rintro e w3 ⟨hb3,x,rfl,S3,_,hx3⟩;have HKX:=hQ (And.intro hx3.kl.2.2.1 hx3.kl.2.2.2);have HB3:=hQ (show Below w5.heap.size w5 w3 from (((xC w5.heap.size w5).alloc (xA _) (.cells #[.int .i64 0,.string ⟨#[]⟩,.slice none 0 0,.slice none 0 0] 29)).drew).trans (hb3.mono (by show _≤(w5.alloc _).heap.size;rw [xI];omega)));have hzb:=(show w3.heap[w5.heap.size]? = some (.cells #[.int .i64 0,.string ⟨#[]⟩,.slice none 0 0,.slice none 0 0] 29 (0,0)) from (hb3.block _ (by show _<(w5.alloc _).heap.size;rw [xI];omega)).trans (xH w5 _));have HZB:=hQ hzb;have zf:∀ o,w3.frozen? ⟨w5.heap.size,o,none⟩=false:=(fun o=>xL hzb _);have zl:=Qab hzb;have z0:w3.cell? ⟨w5.heap.size,0,none⟩=some (.int .i64 0):=Qaa hzb 0 _ rfl;have z1:w3.cell? ⟨w5.heap.size,1,none⟩=some (.string ⟨#[]⟩):=Qaa hzb 1 _ rfl;have z2:w3.cell? ⟨w5.heap.size,2,none⟩=some (.slice none 0 0):=Qaa hzb 2 _ rfl;have z3:w3.cell? ⟨w5.heap.size,3,none⟩=some (.slice none 0 0):=Qaa hzb 3 _ rfl;have h0:=Qbo HB3.out dl b0;have h1:=Qbo HB3.out dl b1;have h2:=Qbo HB3.out dl b2;have h3:=Qbo HB3.out dl b3;have h4:=Qbo HB3.out gl p0;have g0:=xE dl HB3.out.size;have g1:=xE gl HB3.out.size;clear b0 b1 b2 b3 p0 dl gl;have b0:=h0;have b1:=h1;have b2:=h2;have b3:=h3;have p0:=h4;have dl:=g0;have gl:=g1;clear h0 h1 h2 h3 h4 g0 g1;clear hb3 hx3 hzb)
      | (go_at_call 42;refine (HCA.out w5.drew (HB55.out.drew)).mono ?_;rintro e w3 ⟨hb3,x,rfl,S3,_,hx3⟩;have HKX:=hQ (And.intro hx3.kl.2.2.1 hx3.kl.2.2.2);have HB3:=hQ (show Below w5.heap.size w5 w3 from (show Below w5.heap.size w5 w5.drew from (xC _ _).drew).trans hb3);have h0:=Qbo HB3.out dl b0;have h1:=Qbo HB3.out dl b1;have h2:=Qbo HB3.out dl b2;have h3:=Qbo HB3.out dl b3;have h4:=Qbo HB3.out gl p0;have g0:=xE dl HB3.out.size;have g1:=xE gl HB3.out.size;clear b0 b1 b2 b3 p0 dl gl;have b0:=h0;have b1:=h1;have b2:=h2;have b3:=h3;have p0:=h4;have dl:=g0;have gl:=g1;clear h0 h1 h2 h3 h4 g0 g1;clear hb3 hx3))
     all_goals
      go_wp2_with fail
      go_meet
      first
       | (have hh:=HZB.out;clear hh;exact Qjw HZB.out HKX.out.1 HKX.out.2 HB3.out)
       | exact Qif HKX.out.1 HKX.out.2 HB3.out
    case rest =>
     obtain ⟨w6,hww⟩:∃ w',w'=wc:=⟨_,rfl⟩
     subst hww
     obtain ⟨g10,y,rfl,hxb,_,hxt,hb6⟩:=hcut
     obtain ⟨yk,yx,yla,yll,ylc,yka,ykl,ykc⟩:=y
     simp only at hxt
     have x1:w6.cell? ⟨g10,1,none⟩=some (.string yx):=Qaa hxb 1 _ rfl
     have xl:=Qab hxb
     have HB6:=hQ (HB5.out.trans (hb6.mono HB5.out.size))
     have HBE:=hQ (HBA.out.trans (hb6.mono HBA.out.size))
     have HN6:=hQ (HFD.out.keep hb6)
     have hyx:yx=Qed t q:=hxt
     rw [←hyx] at HNX
     clear b0 b1 b2 b3 dl n0 n1 hxb hxt hyx hb6 p0 gl
     go_wp2_with fail
     go_at_call 74
     refine (Qzf w.heap.size _ _ yx w6 HN6.out HNL.out HBE.out.size).mono ?_
     rintro e w7 ⟨u,rfl,hu,hb7⟩
     have HU:=hQ hu
     have HB7:=hQ (HB6.out.trans (hb7.mono HB6.out.size))
     clear hu hb7
     go_wp2_with fail
     go_roundw
     case measure=>first | (simp [intOf];done) | (simp [intOf];omega)
     case rel=>exact ⟨k+1,rfl,by omega,by rw [HNX.out];exact HU.out,HB7.out⟩
   ·obtain rfl:k=ps.length:=by omega
    go_wp2_with fail
    go_ret
    exact ⟨_,rfl,by have h:=HFD.out;rw [List.take_length,HIQ.out] at h;exact h,HB2.out.trans (HB5.out.mono HB2.out.size)⟩
theorem Ql3:(l:List ByteArray)→Qdy l l=true
 | []=>rfl
 | a :: r=>by rw [Qja,Ql3 r];simp
theorem NRow.strs {w:World} {B n c:Nat} {A:Option Addr} {l:List ByteArray} (h:NRow w B (.slice A n c) l):StrsAt (fun b=>b<w.heap.size) w A l:=fun hne=>by
 obtain ⟨g,cap,hv,_,_⟩:=World.ownsRow.form h (List.length_pos_iff.2 hne)
 injection hv with hv1 hv2 hv3
 subst hv1
 obtain ⟨_,_,hl,_,_,_,hc⟩:=h.cells
 exact ⟨g,0,rfl,hl,fun i x hx=>by rw [Nat.zero_add];exact hc i x hx⟩
def isB:Option (List Int)→Bool
 | none=>false
 | some _=>true
theorem InnPost.both {r:Option (List Int)} {w w':World} {e:Ending} (h:InnPost r w e w'):∃ (A:Option Addr) (c:Nat),e = .returned (.tuple #[.slice A (r.getD []).length c,.bool (isB r)])∧IntsAt w' A (r.getD [])∧(r.getD []).length≤maxLen∧Below w.heap.size w w':=by
 obtain ⟨hb,h⟩:=h
 cases r with
 | none=>exact ⟨none,0,h,fun hn=>absurd rfl hn,xZ _,hb⟩
 | some q =>
  obtain ⟨v,e1,h1⟩:=h
  obtain ⟨A,n,c,hv⟩:=h1.slice
  rw [hv] at h1
  obtain ⟨e2,hi⟩:=h1.ints
  subst e2
  rw [hv] at e1
  exact ⟨A,c,e1,hi,Qm0 h1,hb⟩
theorem Qsj (f:Tr) (q:List Int) (hz:Qam f≤352) (hl:q.length≤10000):(Qas f q).length≤100000:=by
 by_cases hf:Qd0 f=true
 ·have h:=congrArg List.length (Qjx hf (show Qam f≤1000 by omega) q)
  rw [List.length_map,List.length_reverse] at h
  rw [←h]
  have:=Qhm f (by omega) q hl
  omega
 ·rw [Qi4 (by simpa using hf)]
  simp
end Go.Proofs.YtjidpkcjpgdafaaGreat
