/- Part 52 -/
import Derived.Test.YtfjpemdejoejbaaGreatTt49
set_option maxRecDepth 100000
set_option maxHeartbeats 4000000
namespace Go.Proofs.YtfjpemdejoejbaaGreat
open Go.RowKit Go.Shelf
theorem Zfk (ps:List Tr) (m:Int) (t:Tr):exT ps m t=plT (Qbv ps m t):=rfl
theorem Qi5 {ps:List Tr} {m:Int} {t:Tr} (htz:Qal t≤1000) (h:Qb4 ps=false∨m<0∨(ps.length:Int)≤m∨Qed 3 t.kind=false∨Qar t=false):Qbv ps m t=(5,0,0):=by
 unfold Qbv;rw [xO]
 rcases h with h | h | h | h | h
 ·exact .inl h
 ·exact .inr (.inl h)
 ·exact .inr (.inr (.inl h))
 ·refine .inr (.inr (.inr (.inl fun hk=>?_)));have e:Qed 3 t.kind=(decide (5≤t.kind) && decide (t.kind≤9)):=rfl;rw [e,xS hk.1,xS hk.2] at h;cases h
 ·exact .inr (.inr (.inr (.inr ((Qbl _ t (xA _) htz).symm.trans h))))
theorem Qyz {ps:List Tr} {M:Nat} {t:Tr} (htz:Qal t≤1000) (hg:Qb4 ps=true) (hM:M<ps.length) (hk:Qed 3 t.kind=true) (hs:Qar t=true):Qbv ps (M:Int) t=Qpb ps M t:=by
 unfold Qbv
 rw [xN]
 ·rfl
 ·rintro (h | h | h | h | h)
  ·rw [hg] at h;cases h
  ·omega
  ·omega
  ·exact h (Qit hk)
  ·rw [←Qbl _ t (xA _) htz,hs] at h;cases h
theorem Qdz {w:World} {b:Nat} {v:TV} (h:w.heap[b]? = some (trO v)):w.cell? ⟨b,0,none⟩=some (.int .i64 v.kind)∧w.cell? ⟨b,1,none⟩=some (.string v.text)∧w.cell? ⟨b,2,none⟩=some (.slice v.la v.ll v.lc)∧w.cell? ⟨b,3,none⟩=some (.slice v.ka v.kl v.kc)∧b<w.heap.size :=
 ⟨Qaa h 0 _ rfl,Qaa h 1 _ rfl,Qaa h 2 _ rfl,Qaa h 3 _ rfl,Qab h⟩
theorem Qjq (S S':Nat→Prop) (A:Option Addr) (c0:Nat) (ps:List Tr) (m:Int) (t:Tr) (v:TV) (w:World) (hp:TrAt S w (Qap ps) ⟨0,⟨#[]⟩,none,0,0,A,ps.length,c0⟩) (hf:Qe9 (Qap ps)=true) (hw:Qaz (Qap ps)=true)
  (hz:∀ t∈ps,Qal t≤1000) (hl:Qak ps≤90000) (ht:TrAt S' w t v) (htf:Qe9 t=true) (htw:Qaz t=true) (htz:Qal t≤1000) :
  Calls Tryz.prog 9 #[.slice A ps.length c0,.int .i64 m,.agg #[.int .i64 v.kind,.string v.text,.slice v.la v.ll v.lc,.slice v.ka v.kl v.kc]] w fun e w'=>∃ u:TV,e = .returned (.tuple #[.agg #[.int .i64 u.kind,.string u.text,.slice u.la u.ll u.lc,.slice u.ka u.kl u.kc],.int .i64 (Qbv ps m t).1])∧TrAt (fun b=>w.heap.size≤b∧b<w'.heap.size) w' (exT ps m t) u∧Below w.heap.size w w':=by
 have HB0:=hQ (Qc6 w (trO v) (trO ⟨0,⟨#[]⟩,none,0,0,none,0,0⟩));have K0:=hQ (Qch w (trO v) (trO ⟨0,⟨#[]⟩,none,0,0,none,0,0⟩));have hk:=ht.kl.2.2.1;obtain ⟨vk,vx,vla,vll,vlc,vka,vkl,vkc⟩:=v;simp only at hk;subst hk;have HP0:=hQ (Qk4 S A c0 ps _ (hp.keep HB0.out) (Qdy _ hf) hz hw);have HSH:=hQ (fun (w':World) (hb:Below w.heap.size w w')=>Qk1 _ S' t ⟨t.kind,vx,vla,vll,vlc,vka,vkl,vkc⟩ w' (xA _) (ht.keep hb) htz htw);have HPLN:=hQ (fun (M:Nat) (hM:M<ps.length) (hg:Qb4 ps=true) (hls:LsT t) (w':World) (hb:Below w.heap.size w w')=>Qyt S S' A c0 ps M t ⟨t.kind,vx,vla,vll,vlc,vka,vkl,vkc⟩ w' (hp.keep hb) hf hw hg hz hl hM (ht.keep hb) htf htw htz hls);have HTZ:=hQ htz;rw [Zfk];clear hp hf hw hz hl ht htf htw htz;cases hg:Qb4 ps with
 | false =>
  have HV:=hQ (Qi5 (m:=m) HTZ.out (.inl hg));rw [hg] at HP0;rw [HV.out];clear hg
  go_enter Tryz.func9,Tryz.ntmps9
  go_wp2_with fail
  go_at_call 29;refine HP0.out.mono ?_;rintro e w1 ⟨rfl,hb1⟩;have HB1:=hQ (HB0.out.trans (hb1.mono HB0.out.size));have HR1:=hQ ((hb1.block _ (Qab K0.out.2)).trans K0.out.2);clear hb1;obtain ⟨r0,r1,r2,r3,rl,rf⟩:=Qem HR1.out;go_wp2_with fail
  refine bodyPost_ret (v:=.tuple #[.agg #[.int .i64 0,.string ⟨#[]⟩,.slice none 0 0,.slice none 0 0],.int .i64 5]) (by simp [results,Tryz.results9,go_sem, *]) rfl ?_;exact Qll rfl (by decide) HB1.out
 | true =>
  rw [hg] at HP0;have HG:=hQ hg;clear hg
  by_cases h1:m<0
  ·have HV:=hQ (Qi5 (ps:=ps) (m:=m) HTZ.out (.inr (.inl h1)));rw [HV.out]
   go_enter Tryz.func9,Tryz.ntmps9
   go_wp2_with fail
   go_at_call 29;refine HP0.out.mono ?_;rintro e w1 ⟨rfl,hb1⟩;have HB1:=hQ (HB0.out.trans (hb1.mono HB0.out.size));have HR1:=hQ ((hb1.block _ (Qab K0.out.2)).trans K0.out.2);clear hb1;obtain ⟨r0,r1,r2,r3,rl,rf⟩:=Qem HR1.out;go_wp2_with fail
   refine bodyPost_ret (v:=.tuple #[.agg #[.int .i64 0,.string ⟨#[]⟩,.slice none 0 0,.slice none 0 0],.int .i64 5]) (by simp [results,Tryz.results9,go_sem, *]) rfl ?_;exact Qll rfl (by decide) HB1.out
  ·by_cases h2:(ps.length:Int)≤m
   ·have HV:=hQ (Qi5 (ps:=ps) (m:=m) HTZ.out (.inr (.inr (.inl h2))));have h3:¬ m<(ps.length:Int):=by omega
    rw [HV.out]
    go_enter Tryz.func9,Tryz.ntmps9
    go_wp2_with fail
    go_at_call 29;refine HP0.out.mono ?_;rintro e w1 ⟨rfl,hb1⟩;have HB1:=hQ (HB0.out.trans (hb1.mono HB0.out.size));have HR1:=hQ ((hb1.block _ (Qab K0.out.2)).trans K0.out.2);clear hb1;obtain ⟨r0,r1,r2,r3,rl,rf⟩:=Qem HR1.out;go_wp2_with fail
    refine bodyPost_ret (v:=.tuple #[.agg #[.int .i64 0,.string ⟨#[]⟩,.slice none 0 0,.slice none 0 0],.int .i64 5]) (by simp [results,Tryz.results9,go_sem, *]) rfl ?_;exact Qll rfl (by decide) HB1.out
   ·obtain ⟨M,rfl⟩:∃ M:Nat,m=(M:Int):=⟨m.toNat,by omega⟩;have hM:M<ps.length:=by omega
    have h3:(M:Int)<(ps.length:Int):=by omega
    have h0:(0:Int)≤(M:Int):=by omega
    cases h4:Qed 3 t.kind with
    | false =>
     have HV:=hQ (Qi5 (ps:=ps) (m:=(M:Int)) HTZ.out (.inr (.inr (.inr (.inl h4)))));rw [HV.out];have H4:=hQ h4;clear h4
     go_enter Tryz.func9,Tryz.ntmps9
     go_wp2_with fail
     go_at_call 29;refine HP0.out.mono ?_;rintro e w1 ⟨rfl,hb1⟩;have HB1:=hQ (HB0.out.trans (hb1.mono HB0.out.size));have HR1:=hQ ((hb1.block _ (Qab K0.out.2)).trans K0.out.2);obtain ⟨x0,x1,x2,x3,xl⟩:=Qdz ((hb1.block _ (Qab K0.out.1)).trans K0.out.1);clear hb1;obtain ⟨r0,r1,r2,r3,rl,rf⟩:=Qem HR1.out;go_wp2_with fail
     go_at_call 30;refine (Qbs _ _).mono ?_;rintro e w2 ⟨rfl,rfl⟩;rw [H4.out];go_wp2_with fail
     refine bodyPost_ret (v:=.tuple #[.agg #[.int .i64 0,.string ⟨#[]⟩,.slice none 0 0,.slice none 0 0],.int .i64 5]) (by simp [results,Tryz.results9,go_sem, *]) rfl ?_;exact Qll rfl (by decide) HB1.out
    | true =>
     have H4:=hQ h4;clear h4;cases h5:Qar t with
     | false =>
      have HV:=hQ (Qi5 (ps:=ps) (m:=(M:Int)) HTZ.out (.inr (.inr (.inr (.inr h5)))));rw [HV.out];rw [h5] at HSH;clear h5
      go_enter Tryz.func9,Tryz.ntmps9
      go_wp2_with fail
      go_at_call 29;refine HP0.out.mono ?_;rintro e w1 ⟨rfl,hb1⟩;have HB1:=hQ (HB0.out.trans (hb1.mono HB0.out.size));have HR1:=hQ ((hb1.block _ (Qab K0.out.2)).trans K0.out.2);obtain ⟨x0,x1,x2,x3,xl⟩:=Qdz ((hb1.block _ (Qab K0.out.1)).trans K0.out.1);clear hb1;go_wp2_with fail
      go_at_call 30;refine (Qbs _ _).mono ?_;rintro e w2 ⟨rfl,rfl⟩;rw [H4.out];go_wp2_with fail
      go_at_call 31;refine (HSH.out _ HB1.out).mono ?_;rintro e w3 ⟨rfl,hb3⟩;have HB3:=hQ (HB1.out.trans (hb3.mono HB1.out.size));have HR3:=hQ ((hb3.block _ (Qab HR1.out)).trans HR1.out);clear hb3 x0 x1 x2 x3 xl;obtain ⟨r0,r1,r2,r3,rl,rf⟩:=Qem HR3.out;go_wp2_with fail
      refine bodyPost_ret (v:=.tuple #[.agg #[.int .i64 0,.string ⟨#[]⟩,.slice none 0 0,.slice none 0 0],.int .i64 5]) (by simp [results,Tryz.results9,go_sem, *]) rfl ?_;exact Qll rfl (by decide) HB3.out
     | true =>
      have HV:=hQ (Qyz HTZ.out HG.out hM H4.out h5);have HLS:=hQ (show LsT t from ⟨h5,Qit H4.out⟩);rw [HV.out];rw [h5] at HSH;have HPN:=hQ (HPLN.out M hM HG.out HLS.out);obtain ⟨R,hR⟩:∃ R,R=Qpb ps M t:=⟨_,rfl⟩;rw [←hR] at HPN ⊢;clear h5 hR
      go_enter Tryz.func9,Tryz.ntmps9
      go_wp2_with fail
      go_at_call 29;refine HP0.out.mono ?_;rintro e w1 ⟨rfl,hb1⟩;have HB1:=hQ (HB0.out.trans (hb1.mono HB0.out.size));have HR1:=hQ ((hb1.block _ (Qab K0.out.2)).trans K0.out.2);have HX1:=hQ ((hb1.block _ (Qab K0.out.1)).trans K0.out.1);obtain ⟨x0,x1,x2,x3,xl⟩:=Qdz HX1.out;clear hb1;go_wp2_with fail
      go_at_call 30;refine (Qbs _ _).mono ?_;rintro e w2 ⟨rfl,rfl⟩;rw [H4.out];go_wp2_with fail
      go_at_call 31;refine (HSH.out _ HB1.out).mono ?_;rintro e w3 ⟨rfl,hb3⟩;have HB3:=hQ (HB1.out.trans (hb3.mono HB1.out.size));have HR3:=hQ ((hb3.block _ (Qab HR1.out)).trans HR1.out);have HX3:=hQ ((hb3.block _ (Qab HX1.out)).trans HX1.out);clear hb3 x0 x1 x2 x3 xl;obtain ⟨x0,x1,x2,x3,xl⟩:=Qdz HX3.out;go_wp2_with fail
      go_at_call 32;refine (HPN.out _ HB3.out).mono ?_;rintro e w4 ⟨u,rfl,hu,hb4⟩;have HB4:=hQ (HB3.out.trans (hb4.mono HB3.out.size));have HR4:=hQ ((hb4.block _ (Qab HR3.out)).trans HR3.out);have HU:=hQ hu;have HS3:=hQ (show w.heap.size+1<w3.heap.size from Qab HR3.out);clear hu hb4 x0 x1 x2 x3 xl;obtain ⟨r0,r1,r2,r3,rl,rf⟩:=Qem HR4.out;obtain ⟨uk,ux,ula,ull,ulc,uka,ukl,ukc⟩:=u;go_wp2_with fail
      refine bodyPost_ret (v:=.tuple #[.agg #[.int .i64 uk,.string ux,.slice ula ull ulc,.slice uka ukl ukc],.int .i64 R.1]) (by simp [results,Tryz.results9,go_sem, *]) rfl ?_;refine ⟨⟨uk,ux,ula,ull,ulc,uka,ukl,ukc⟩,rfl,?_,HB4.out.trans ((Qb6 w4 (w.heap.size+1) ⟨uk,ux,ula,ull,ulc,uka,ukl,ukc⟩).mono (Nat.le_succ _))⟩;have hs:=Qei w4 (w.heap.size+1) ⟨uk,ux,ula,ull,ulc,uka,ukl,ukc⟩;have h3:=HS3.out;have h4:=HB3.out.size;exact TrAt.move (w':=Qhu w4 (w.heap.size+1) ⟨uk,ux,ula,ull,ulc,uka,ukl,ukc⟩) (fun b hb=>⟨by have h5:=hb.1;omega,by have h5:=hb.2;show b<(Qhu w4 (w.heap.size+1) ⟨uk,ux,ula,ull,ulc,uka,ukl,ukc⟩).heap.size;omega⟩) (fun b hb _=>Qca _ (by have h5:=hb.1;omega)) _ _ HU.out
theorem Qmw {k l:Int} (hk:Zbg k) (hl:Zbg l):(n m:Nat)→Qe1 (Qbp n (Qcw k)) (Qbp m (Qcw l))=(((n:Int)==(m:Int)) && (k==l))
 | 0,0=>by
  unfold Qbp Qcw;rw [Qe1,Qeh];simp [Qcc]
 | 0,m+1=>by
  have h8:k≠8:=by rcases hk with h | h | h <;> omega
  have e:((((0:Nat):Int))==((m+1:Nat):Int))=false:=Qcm (by omega);rw [e,Qgp,show (Qbp 0 (Qcw k)).kind=k from rfl,show (Qbp (m+1) (Qcw l)).kind=8 from rfl,Qcm h8];rfl
 | n+1,0=>by
  have h8:(8:Int)≠l:=by rcases hl with h | h | h <;> omega
  have e:(((n+1:Nat):Int)==(((0:Nat):Int)))=false:=Qcm (by omega);rw [e,Qgp,show (Qbp (n+1) (Qcw k)).kind=8 from rfl,show (Qbp 0 (Qcw l)).kind=l from rfl,Qcm h8];rfl
 | n+1,m+1=>by
  have ih:=Qmw hk hl n m;rw [Qbp,Qbp,Qe1,Qeh,Qeh,ih]
  have e:(((n+1:Nat):Int)==((m+1:Nat):Int))=((n:Int)==(m:Int)):=by
   by_cases h:n=m
   ·rw [h];simp
   ·rw [Qcm (by omega),Qcm (by omega)]
  rw [e];simp [Qcc]
theorem Zd8 {ps:List Tr} {m n:Int} {a b:Tr} (hz:∀ t∈ps,Qal t≤1000) (ha:Qar a=Qaj a) (hb:Qar b=Qaj b) (h1:(Qbv ps m a).1=0) (h2:(Qbv ps n b).1=0):Qe1 (exT ps m a) (exT ps n b)=eqG ps m a n b:=by
 obtain ⟨_,_,q1⟩:=Qs1 hz ha h1;obtain ⟨_,_,q2⟩:=Qs1 hz hb h2;rw [Qny h1,Qny h2,Qmw q1 q2];unfold eqG;rw [h1,h2];rfl
theorem Zd9 (ps:List Tr) (m:Int) (t:Tr):Qe1 (exT ps m t) (exT ps m t)=true:=by
 unfold exT
 split
 ·exact Qps _ _
 ·unfold noTr;rw [Qe1,Qeh];simp [Qcc]
theorem Qs3 (ps:List Tr) (m:Int) (t:Tr):Qbb (exT ps m t)=true:=by
 unfold exT
 split
 ·exact Qdy _ (Qsz _ _)
 ·rfl
theorem Qy2 (S S1 S2:Nat→Prop) (A:Option Addr) (c0:Nat) (ps:List Tr) (m n:Int) (a b:Tr) (u v:TV) (w:World) (hp:TrAt S w (Qap ps) ⟨0,⟨#[]⟩,none,0,0,A,ps.length,c0⟩) (hf:Qe9 (Qap ps)=true) (hw:Qaz (Qap ps)=true)
  (hz:∀ t∈ps,Qal t≤1000) (hl:Qak ps≤90000) (ha:TrAt S1 w a u) (haf:Qe9 a=true) (haw:Qaz a=true) (haz:Qal a≤1000) (hb:TrAt S2 w b v) (hbf:Qe9 b=true) (hbw:Qaz b=true) (hbz:Qal b≤1000) :
  Calls Tryz.prog 14 #[.slice A ps.length c0,.int .i64 m,.agg #[.int .i64 u.kind,.string u.text,.slice u.la u.ll u.lc,.slice u.ka u.kl u.kc],.int .i64 n,.agg #[.int .i64 v.kind,.string v.text,.slice v.la v.ll v.lc,.slice v.ka v.kl v.kc]] w fun e w'=>e = .returned (.bool (eqG ps m a n b))∧Below w.heap.size w w':=by
 have HB0:=hQ (Qc6 w (trO u) (trO v));have K0:=hQ (Qch w (trO u) (trO v));have HC1:=hQ (Qjq S S1 A c0 ps m a u _ (hp.keep HB0.out) hf hw hz hl (ha.keep HB0.out) haf haw haz);have HC2:=hQ (fun (w':World) (hb':Below w.heap.size w w')=>Qjq S S2 A c0 ps n b v w' (hp.keep hb') hf hw hz hl (hb.keep hb') hbf hbw hbz);have HEQ:=hQ (fun h1 h2=>Zd8 (ps:=ps) (m:=m) (n:=n) hz (Qbl _ a (xA _) haz) (Qbl _ b (xA _) hbz) h1 h2);clear hp hf hw hz hl ha haf haw haz hb hbf hbw hbz;obtain ⟨uk,ux,ula,ull,ulc,uka,ukl,ukc⟩:=u;obtain ⟨vk,vx,vla,vll,vlc,vka,vkl,vkc⟩:=v;obtain ⟨x0,x1,x2,x3,xl⟩:=Qdz K0.out.1;obtain ⟨E,hE⟩:∃ E,E=eqG ps m a n b:=⟨_,rfl⟩;rw [←hE];have HE:=hQ hE;clear hE
 go_enter Tryz.func14,Tryz.ntmps14
 go_wp2_with fail
 go_at_call 9;refine HC1.out.mono ?_;rintro e w1 ⟨p,rfl,hpt,hb1⟩;have HB1:=hQ (HB0.out.trans (hb1.mono HB0.out.size));have HY1:=hQ ((hb1.block _ (Qab K0.out.2)).trans K0.out.2);have HPT:=hQ hpt;obtain ⟨pk,px,pla,pll,plc,pka,pkl,pkc⟩:=p;have HP2:=hQ (xH w1 (trO ⟨pk,px,pla,pll,plc,pka,pkl,pkc⟩));have HA2:=hQ (Qbq w1 (trO ⟨pk,px,pla,pll,plc,pka,pkl,pkc⟩));have HB2:=hQ (HB1.out.alloc HB1.out.size (trO ⟨pk,px,pla,pll,plc,pka,pkl,pkc⟩));have HC3:=hQ (HC2.out _ HB2.out);obtain ⟨y0,y1,y2,y3,yl⟩:=Qdz ((HA2.out.block _ (Qab HY1.out)).trans HY1.out);obtain ⟨w2,hw2⟩:∃ W,W=w1.alloc (trO ⟨pk,px,pla,pll,plc,pka,pkl,pkc⟩):=⟨_,rfl⟩;clear hpt hb1 x0 x1 x2 x3 xl
 go_upto_region 2 with fail
 rw [show w1.alloc (.cells #[.int .i64 pk,.string px,.slice pla pll plc,.slice pka pkl pkc] 25)=w2 from hw2.symm];rw [←hw2] at HP2 HA2 HB2 HC3 y0 y1 y2 y3 yl;clear hw2;go_wp2_with fail
 go_at_call 9;refine HC3.out.mono ?_;rintro e w3 ⟨q,rfl,hq,hb3⟩;obtain ⟨qk,qx,qla,qll,qlc,qka,qkl,qkc⟩:=q;have HB3:=hQ (HB2.out.trans (hb3.mono HB2.out.size));have HQ4:=hQ (xH w3 (trO ⟨qk,qx,qla,qll,qlc,qka,qkl,qkc⟩));have HA4:=hQ (Qbq w3 (trO ⟨qk,qx,qla,qll,qlc,qka,qkl,qkc⟩));have HB4:=hQ (HB3.out.alloc HB3.out.size (trO ⟨qk,qx,qla,qll,qlc,qka,qkl,qkc⟩));have HP4:=hQ ((HA4.out.block _ (xE (Qab HP2.out) hb3.size)).trans ((hb3.block _ (Qab HP2.out)).trans HP2.out));have HPT4:=hQ (((HPT.out.keep HA2.out).keep hb3).keep HA4.out);have HQT4:=hQ (hq.keep HA4.out);have HSM:=hQ (Qou _ _ _ (exT ps m a) (exT ps n b) ⟨pk,px,pla,pll,plc,pka,pkl,pkc⟩ ⟨qk,qx,qla,qll,qlc,qka,qkl,qkc⟩ _ (xA _) HPT4.out HQT4.out (Qs3 _ _ _));clear hq hb3 y0 y1 y2 y3 yl;obtain ⟨w4,hw4⟩:∃ W,W=w3.alloc (trO ⟨qk,qx,qla,qll,qlc,qka,qkl,qkc⟩):=⟨_,rfl⟩
 go_upto_region 3 with fail
 rw [show w3.alloc (.cells #[.int .i64 qk,.string qx,.slice qla qll qlc,.slice qka qkl qkc] 25)=w4 from hw4.symm];rw [←hw4] at HQ4 HB4 HP4 HSM;clear hw4;obtain ⟨x0,x1,x2,x3,xl⟩:=Qdz HP4.out;obtain ⟨z0,z1,z2,z3,zl⟩:=Qdz HQ4.out
 by_cases h1:(Qbv ps m a).1=0
 ·by_cases h2:(Qbv ps n b).1=0
  ·have HV:=hQ ((HEQ.out h1 h2).trans HE.out.symm);rw [HV.out] at HSM;rw [h1,h2];clear h1 h2;go_wp2_with fail
   go_at_call 10;refine HSM.out.mono ?_;rintro e w5 ⟨rfl,hb5⟩;have HB5:=hQ (HB4.out.trans (hb5.mono HB4.out.size));clear hb5 x0 x1 x2 x3 xl z0 z1 z2 z3 zl;go_wp2_with fail
   go_ret
   exact ⟨rfl,HB5.out⟩
  ·have HV:=hQ (show E=false from HE.out.trans (by unfold eqG;rw [Qcm h2,Bool.false_and,Bool.and_false]));have b2:=Qcm h2;rw [h1];clear h1 h2;go_wp2_with fail
   go_ret
   exact ⟨by rw [HV.out];rfl,HB4.out⟩
 ·have HV:=hQ (show E=false from HE.out.trans (by unfold eqG;rw [Qcm h1,Bool.false_and]));have b1:=Qcm h1;clear h1;go_wp2_with fail
  go_ret
  exact ⟨by rw [HV.out];rfl,HB4.out⟩
end Go.Proofs.YtfjpemdejoejbaaGreat
