/- Part 26 -/
import Derived.Test.YtfjpemdejoejbaaGreatSg25
import Derived.StillTailTactics
import Derived.Deep.RegionHeld3
set_option maxRecDepth 100000
set_option maxHeartbeats 4000000
namespace Go.Proofs.YtfjpemdejoejbaaGreat
open Go.RowKit
theorem Zgl {t:Tk} {a:Nat} (h:t.e≠0):iAt t a=((a+t.n:Nat):Int):=by
 unfold iAt;rw [xN h];omega
theorem Qzz {w w1:World} {base:Nat} {e:TypeId} {size n:Nat} {v:Value} {xs:List Value} (h:w.ownsRow base e size v n xs) (hb:Below w.heap.size w w1):w1.ownsRow base e size v n xs :=
 h.kept (row:=none) ⟨hb.os,hb.tape,hb.output,hb.size,fun k hk _=>hb.block k hk⟩ (by cases h1:v.ownBlock with | none=>exact .inl rfl | some g=>exact .inr (by simp))
def Qaj (s:ByteArray) (k:Nat):Nat:=Qal s k-k
theorem Qn7 (s:ByteArray) (k:Nat):Qal s k=k+Qaj s k:=by
 have:=Qg7 s k
 unfold Qaj;omega
theorem Ql1 (s:ByteArray) (k:Nat) (w:World) (hk:k≤s.size) (hs:s.size≤maxLen) :
  Calls Tryz.prog 167 #[.string s,.int .i64 k] w fun e w'=>e = .returned (.tuple #[.int .i64 (Qaj s k:Nat),.int .i64 (Qjf s k)])∧w=w':=by
 have h:=Qul s k w hk hs
 rwa [show ((Qal s k:Nat):Int)-(k:Int)=((Qaj s k:Nat):Int) from by rw [Qn7];omega] at h
theorem Qs4 (s:ByteArray) (k n:Nat) (w:World) (h0:k+n<s.size) (hs:s.size<maxLen) :
  Calls Tryz.prog 138 #[.string s,.int .i64 ((k:Int)+(n:Int))] w (Qgx (Qbg (suf s (k+n))) (k+n) w):=by
 have h:=Zdm s (k+n) w h0 hs (fun hl w=>Qzx s (k+n) w h0 hl hs)
 rwa [show ((k+n:Nat):Int)=(k:Int)+(n:Int) from by omega] at h
theorem ScanRel.step {s:ByteArray} {w W3 w':World} {v v':Value} {k:Nat} {acc:List Tok} {o:Obj}
  (h:ScanAt s (Qal s k+(Qbg (suf s (Qal s k))).n) (acc ++ [⟨(Qbg (suf s (Qal s k))).kind,s.extract k (Qal s k),s.extract (Qal s k) (Qal s k+(Qbg (suf s (Qal s k))).n)⟩]))
  (hS:Qal s k=k+Qaj s k) (hown:W3.ownsRow w.heap.size 88 3 v acc.length (Qcj acc)) (hb:Below w.heap.size w W3)
  (hown':w'.ownsRow w.heap.size 88 3 v' (acc.length+1) (Qcj acc ++ [.int .i64 (Qbg (suf s (k+Qaj s k))).kind,.string (s.extract k (k+Qaj s k)),.string (s.extract (k+Qaj s k) (k+Qaj s k+(Qbg (suf s (k+Qaj s k))).n))]))
  (hg:((W3.alloc o).drew).grownBy w' v.ownBlock):ScanRel s w v' (.int .i64 ((k:Int)+(Qaj s k:Nat)+((Qbg (suf s (k+Qaj s k))).n:Nat))) w':=by
 rw [hS] at h
 refine ⟨_,_,?_,h,by rw [Qhn];simpa using hown',?_⟩
 ·rw [show ((k+Qaj s k+(Qbg (suf s (k+Qaj s k))).n:Nat):Int)=(k:Int)+(Qaj s k:Nat)+((Qbg (suf s (k+Qaj s k))).n:Nat) from by omega]
 ·exact ((hb.alloc hb.size o).drew).grown hg (by have:=hb.size;show w.heap.size≤(W3.alloc o).heap.size;rw [xI];omega) (fun j hj=>(hown.lt j hj).1)
theorem Qz0 (s:ByteArray) (w:World) (hshort:s.size≤4096) :
  Calls Tryz.prog 170 #[.string s] w (Qou (Qne s) w):=by
 have HL:=hQ (show s.size<maxLen from by unfold maxLen;omega);have HM:=hQ (Nat.le_of_lt HL.out);obtain ⟨i0,hi,hz0,hz1,hz2⟩:=info_parts Qkp
 go_enter Tryz.func170,Tryz.ntmps170
 go_wp2
 go_loopw [6,7] (fun v i wr=>ScanRel s w v i wr) (fun _ i _=>s.size-(intOf i).toNat)
 case atStart=>exact ScanRel.start s w
 case round =>
  obtain ⟨k,acc,rfl,hat,hown,hbl⟩:=hrel;have HA:=hQ hat;have hk:=hat.1;have hacc:=hat.2.1;have hge:=Qg7 s k;have hle:=Qgc s k hk;have HS:=hQ (Qn7 s k);have hn:k+Qaj s k≤s.size:=by rw [←HS.out];exact hle
  clear hat;have HO:=hQ hown;have HB:=hQ hbl;clear hown hbl
  by_cases hst:k+Qaj s k=s.size
  ·have hst':((k:Int)+(Qaj s k:Nat)==(s.size:Int))=true:=by simp;omega
   have HD:=hQ (HA.out.done (HS.out.trans hst));have hbad:Qjf s k = -1:=Qiu ⟨rfl,rfl⟩ (.inr (by rw [HS.out];omega));clear hst hge hle;have HE:=hQ (show s.extract k s.size=s.extract k s.size from rfl);go_wp2_with (go_at_call 167;refine (Ql1 s k _ hk HM.out).mono ?_;rintro e w' ⟨rfl,rfl⟩)
   go_quiet (fail)
   go_wp2
   exact bodyPost_ret (v:=.tuple #[u6,.string (s.extract k s.size),.int .i64 0,.int .i64 0]) (by simp [results,Tryz.results170,go_sem]) rfl ⟨_,by rw [HD.out];rfl,by rw [HD.out];exact HO.out,below_drewN HB.out _⟩
  ·have hst':((k:Int)+(Qaj s k:Nat)==(s.size:Int))=false:=by simp;omega
   have hlt:k+Qaj s k<s.size:=by omega
   have HK:=hQ (show Qal s k<s.size from by rw [HS.out];exact hlt);have HJ:=hQ (show Qal s k≠s.size from by rw [HS.out];exact hst)
   cases ho:Qc2 s k
   ·have hbad:Qjf s k = -1:=Qiu ⟨rfl,ho⟩ (.inl rfl)
    by_cases he:(Qbg (suf s (k+Qaj s k))).e=0
    ·have HN:=hQ (HA.out.next HJ.out (by rw [HS.out];exact he));have hlen:=Qkn he;rw [Qbw] at hlen;have he':((((Qbg (suf s (k+Qaj s k))).e:Nat):Int) != 0)=false:=by simp [he]
     have hil:Qxy (Qbg (suf s (k+Qaj s k)))=(((Qbg (suf s (k+Qaj s k))).n:Nat):Int):=by unfold Qxy;rw [xO he]
     clear he hst hge hle ho;go_wp2_with (first | (go_at_call 167;refine (Ql1 s k _ hk HM.out).mono ?_;rintro e w' ⟨rfl,rfl⟩) | (go_at_call 138;refine (Qs4 s k (Qaj s k) _ hlt HL.out).mono ?_;rintro e w1 ⟨rfl,hb1⟩;have HB1:=hQ hb1;clear hb1))
     have c0:(w1.alloc (.cells #[.int .i64 (Qbg (suf s (k+Qaj s k))).n,.int .i64 (Qbg (suf s (k+Qaj s k))).kind,.int .i64 (Qbg (suf s (k+Qaj s k))).e,.int .i64 (iAt (Qbg (suf s (k+Qaj s k))) (k+Qaj s k))] 168)).cell? ⟨w1.heap.size,0,none⟩=some (.int .i64 (Qbg (suf s (k+Qaj s k))).n):=by simp
     have c1:(w1.alloc (.cells #[.int .i64 (Qbg (suf s (k+Qaj s k))).n,.int .i64 (Qbg (suf s (k+Qaj s k))).kind,.int .i64 (Qbg (suf s (k+Qaj s k))).e,.int .i64 (iAt (Qbg (suf s (k+Qaj s k))) (k+Qaj s k))] 168)).cell? ⟨w1.heap.size,1,none⟩=some (.int .i64 (Qbg (suf s (k+Qaj s k))).kind):=by simp
     have hb3:Below w.heap.size w (w1.alloc (.cells #[.int .i64 (Qbg (suf s (k+Qaj s k))).n,.int .i64 (Qbg (suf s (k+Qaj s k))).kind,.int .i64 (Qbg (suf s (k+Qaj s k))).e,.int .i64 (iAt (Qbg (suf s (k+Qaj s k))) (k+Qaj s k))] 168)):=(HB.out.trans (HB1.out.mono HB.out.size)).alloc (xQ HB.out.size HB1.out.size) _;have hown3:(w1.alloc (.cells #[.int .i64 (Qbg (suf s (k+Qaj s k))).n,.int .i64 (Qbg (suf s (k+Qaj s k))).kind,.int .i64 (Qbg (suf s (k+Qaj s k))).e,.int .i64 (iAt (Qbg (suf s (k+Qaj s k))) (k+Qaj s k))] 168)).ownsRow w.heap.size 88 3 u6 acc.length (Qcj acc):=(Qzz HO.out HB1.out).alloc _;have ag:u6.ownBlock≠some w1.heap.size:=fun e=>by have:=(HO.out.lt _ e).2;have:=HB1.out.size;omega
     have lg:w1.heap.size<(w1.alloc (.cells #[.int .i64 (Qbg (suf s (k+Qaj s k))).n,.int .i64 (Qbg (suf s (k+Qaj s k))).kind,.int .i64 (Qbg (suf s (k+Qaj s k))).e,.int .i64 (iAt (Qbg (suf s (k+Qaj s k))) (k+Qaj s k))] 168)).heap.size:=by simp
     generalize w1.alloc (.cells #[.int .i64 (Qbg (suf s (k+Qaj s k))).n,.int .i64 (Qbg (suf s (k+Qaj s k))).kind,.int .i64 (Qbg (suf s (k+Qaj s k))).e,.int .i64 (iAt (Qbg (suf s (k+Qaj s k))) (k+Qaj s k))] 168)=W3 at c0 c1 hb3 hown3 lg ⊢
     generalize w1.heap.size=g1 at c0 c1 ag lg ⊢
     have hsz3:=hb3.size;have h63:=hQ (show acc.length+1≤maxLen from by unfold maxLen;omega);have hby:=hQ (show (acc.length+1)*40≤140737488355328 from by omega);have p0:(0:Int)≤(k:Int):=by omega
     have p1:(0:Int)≤(k:Int)+(Qaj s k:Nat):=by omega
     have p2:(0:Int)≤(k:Int)+(Qaj s k:Nat)+((Qbg (suf s (k+Qaj s k))).n:Nat):=by omega
     have q1:(k:Int)≤(k:Int)+(Qaj s k:Nat):=by omega
     have q2:(k:Int)+(Qaj s k:Nat)≤(k:Int)+(Qaj s k:Nat)+((Qbg (suf s (k+Qaj s k))).n:Nat):=by omega
     have r1:(k:Int)+(Qaj s k:Nat)≤(s.size:Int):=by omega
     have r2:(k:Int)+(Qaj s k:Nat)+((Qbg (suf s (k+Qaj s k))).n:Nat)≤(s.size:Int):=by omega
     have t1:((k:Int)+(Qaj s k:Nat)).toNat=k+Qaj s k:=by omega
     have t2:((k:Int)+(Qaj s k:Nat)+((Qbg (suf s (k+Qaj s k))).n:Nat)).toNat=k+Qaj s k+(Qbg (suf s (k+Qaj s k))).n:=by omega
     have w1':IntKind.i64.wrap ((k:Int)+(Qaj s k:Nat))=(k:Int)+(Qaj s k:Nat):=IntWalk.i64_in _ (by omega);have w2':IntKind.i64.wrap ((k:Int)+(Qaj s k:Nat)+((Qbg (suf s (k+Qaj s k))).n:Nat))=(k:Int)+(Qaj s k:Nat)+((Qbg (suf s (k+Qaj s k))).n:Nat):=IntWalk.i64_in _ (by omega)
     go_region_held3 (fun w'=>w'.cell? ⟨g1,0,none⟩=some (.int .i64 (Qbg (suf s (k+Qaj s k))).n)∧w'.cell? ⟨g1,1,none⟩=some (.int .i64 (Qbg (suf s (k+Qaj s k))).kind)) (first | go_keep | (go_split_ands;refine ⟨?_,?_⟩ <;> (rw [hgrow.cell_far _ (xE lg (by simp)) (Ne.symm ag)];assumption))) ((refine step_append_lies _ (by rfl) _ _ _ (by rfl) w.heap.size 88 i0 _ 3 40 Tryz.underlying84 hi hz0 hz1 hz2 rfl (by decide) u6 acc.length (Qcj acc) (by rfl) ((hown3.alloc _).drew) ⟨W3.heap.size,0,none⟩ 1 1 [.int .i64 (Qbg (suf s (k+Qaj s k))).kind,.string (s.extract k (k+Qaj s k)),.string (s.extract (k+Qaj s k) (k+Qaj s k+(Qbg (suf s (k+Qaj s k))).n))] (by rfl) (by rfl) (xM (cs:=#[.int .i64 (Qbg (suf s (k+Qaj s k))).kind,.string (s.extract k (k+Qaj s k)),.string (s.extract (k+Qaj s k) (k+Qaj s k+(Qbg (suf s (k+Qaj s k))).n))]) (t:=88) (fr:=(0,0)) (xH W3 _)) (Qma _ _ _) (by decide) h63.out hby.out (xQ hsz3 (by simp)) (W3.heap.size+1) (by simp) ?_;intro gg cap w4 hown4 hgrow hat4 hlt4))
     have HV:=hQ hown4;have HG:=hQ hgrow;have H3:=hQ hown3;have HB3:=hQ hb3;clear hown4 hgrow p0 p1 p2 q1 q2 r1 r2 t1 t2 w1' w2' hat4 hlt4 hown3 hb3 hil c0 c1 ag lg hsz3
     go_split_ands
     go_wp2
     go_roundw
     case rel=>exact ScanRel.step HN.out HS.out H3.out HB3.out HV.out HG.out
     case measure=>simp [intOf];omega
    ·have HD:=hQ (HA.out.stop HJ.out (by rw [HS.out];exact he));have he':((((Qbg (suf s (k+Qaj s k))).e:Nat):Int) != 0)=true:=by simp;omega
     have HX:=hQ (Zgl (a:=k+Qaj s k) he);have hmax:(Qbg (suf s (k+Qaj s k))).n≤s.size:=by have:=Ql8 he;rw [Qbw] at this;omega
     clear he hst hge hle ho;go_wp2_with (first | (go_at_call 167;refine (Ql1 s k _ hk HM.out).mono ?_;rintro e w' ⟨rfl,rfl⟩) | (go_at_call 138;refine (Qs4 s k (Qaj s k) _ hlt HL.out).mono ?_;rintro e w1 ⟨rfl,hb1⟩;have HB1:=hQ hb1;clear hb1))
     go_quiet (fail)
     go_wp2
     exact bodyPost_ret (v:=.tuple #[.slice none 0 0,.string ⟨#[]⟩,.int .i64 (iAt (Qbg (suf s (k+Qaj s k))) (k+Qaj s k)),.int .i64 (Qbg (suf s (k+Qaj s k))).e]) (by simp [results,Tryz.results170,go_sem]) rfl ⟨_,by rw [HD.out,HS.out,HX.out];rfl,by rw [HD.out];exact World.ownsRow_nil _ _ _ _,(below_drewN ((HB.out.trans (HB1.out.mono HB.out.size)).alloc (xQ HB.out.size HB1.out.size) _) _)⟩
   ·have hbad:Qjf s k=((k+Qaj s k:Nat):Int):=Qpv ⟨HS.out,ho⟩ hlt;have HT:=hQ (Qtw ho HK.out);have HD:=hQ (HA.out.stop HJ.out (by rw [HT.out];decide));clear hst hge hle ho;go_wp2_with (go_at_call 167;refine (Ql1 s k _ hk HM.out).mono ?_;rintro e w' ⟨rfl,rfl⟩)
    exact bodyPost_ret (v:=.tuple #[.slice none 0 0,.string ⟨#[]⟩,.int .i64 ((k:Int)+(Qaj s k:Nat)),.int .i64 1]) (by simp [results,Tryz.results170,go_sem]) rfl ⟨_,by rw [HD.out,HT.out,HS.out];rfl,by rw [HD.out];exact World.ownsRow_nil _ _ _ _,HB.out⟩
theorem Qmw (s:ByteArray) (w:World) (hs:s.size≤maxLen) :
  Calls Tryz.prog 145 #[.string s] w (Qou (Qbh s) w):=by
 unfold maxLen at hs
 by_cases hlong:4096<s.size
 ·have HR:=hQ (show Qbh s=⟨[],ByteArray.empty,4096,3⟩ from by unfold Qbh;rw [xO hlong])
  go_enter Tryz.func145,Tryz.ntmps145
  go_wp2
  exact bodyPost_ret (v:=.tuple #[.slice none 0 0,.string ⟨#[]⟩,.int .i64 4096,.int .i64 3]) (by simp [results,Tryz.results145,go_sem]) rfl ⟨_,by rw [HR.out];rfl,by rw [HR.out];exact World.ownsRow_nil _ _ _ _,xC _ _⟩
 ·have HR:=hQ (show Qbh s=Qne s from by unfold Qbh;rw [xN hlong]);have hshort:s.size≤4096:=by omega
  go_enter Tryz.func145,Tryz.ntmps145
  go_wp2_with (go_at_call 170;refine (Qz0 s _ hshort).mono ?_;rintro e w1 ⟨v,rfl,ho,hb⟩;have HO:=hQ ho;have HB:=hQ hb;clear ho hb)
  exact bodyPost_ret (v:=.tuple #[v,.string (Qne s).tail,.int .i64 (Qne s).place,.int .i64 (Qne s).e]) (by simp [results,Tryz.results145,go_sem]) rfl ⟨_,by rw [HR.out],by rw [HR.out];exact HO.out,HB.out⟩
theorem Qmx (s:ByteArray) (w:World) (h0:0<s.size) (hs:s.size<maxLen) :
  Calls Tryz.prog 138 #[.string s,.int .i64 0] w (Qgx (Qbg (suf s 0)) 0 w):=by
 have h:=Qs4 s 0 0 w h0 hs
 simpa using h
theorem Qum {l:List UInt8} (ha:Qap (at' l 0)=true) (hl:Qav (at' l 0)=false) (hd:Qb2 (at' l 0)=false) (h34:at' l 0≠34) (h61:at' l 0≠61) (ho:Qe2 (at' l 0)=false):Qbg l=⟨0,0,2⟩:=by
 have hs:Qbq l=0:=by unfold Qbq;rw [xN h61,xN (by simp [ho])]
 unfold Qbg;rw [xN (by simp [ha]),xN (by simp [hl]),xN (by simp [hd]),xN h34];unfold Qec;rw [xO hs]
theorem Qz1 {l:List UInt8} (h:Qd9 (at' l 0)=true):Qbg l=⟨0,0,2⟩:=by
 have:at' l 0=9∨at' l 0=10∨at' l 0=13∨at' l 0=32:=by
  unfold Qd9 at h;simp at h
  omega
 rcases this with h | h | h | h <;> exact Qum (by rw [h];decide) (by rw [h];decide) (by rw [h];decide) (by rw [h];decide) (by rw [h];decide) (by rw [h];decide)
theorem Zds {l:List UInt8} (h:at' l 0=35):Qbg l=⟨0,0,2⟩ :=
 Qum (by rw [h];decide) (by rw [h];decide) (by rw [h];decide) (by rw [h];decide) (by rw [h];decide) (by rw [h];decide)
theorem Qk0 {l:List UInt8} (h:(Qbg l).e≠0):Qa4 l=0:=by
 unfold Qa4
 split
 ·rfl
 ·rw [xO (.inl h)]
theorem Qa2 (s:ByteArray) (w:World) (hs:s.size<maxLen) :
  Calls Tryz.prog 90 #[.string s] w fun e w'=>e = .returned (.int .i64 (Qa4 (suf s 0)))∧Below w.heap.size w w':=by
 have HS:=hQ hs
 by_cases h0:0<s.size
 ·have hne:s.toList.isEmpty=false:=by
   have:=Qp4 h0
   rw [Qdu] at this
   simpa using this
  have HN:=hQ (Qp4 h0);have HL:=hQ (Qbw s 0);have H0:=hQ (Qeo s 0 h0);unfold maxLen at hs
  cases hw:Qd9 s[0].toNat
  ·by_cases h35:s[0].toNat=35
   ·have g35:((s[0].toNat:Int)==35)=true:=Qc6 h35;have HC:=hQ (Qk0 (l:=suf s 0) (by rw [Zds (H0.out.trans h35)];decide));clear h35
    go_enter Tryz.func90,Tryz.ntmps90
    go_wp2_with (go_at_call 137;refine (Qdm _ _).mono ?_;rintro e w' ⟨rfl,rfl⟩)
    go_ret
    exact ⟨Qb5 (by rw [HC.out];rfl),xC _ _⟩
   ·have g35:((s[0].toNat:Int)==35)=false:=Qdt h35;clear h35
    by_cases he:(Qbg (suf s 0)).e=0
    ·have he':((((Qbg (suf s 0)).e:Nat):Int) != 0)=false:=by simp [he]
     have hil:Qxy (Qbg (suf s 0))=(((Qbg (suf s 0)).n:Nat):Int):=by unfold Qxy;rw [xO he]
     by_cases hn:(Qbg (suf s 0)).n=s.size
     ·have hn':((((Qbg (suf s 0)).n:Nat):Int) != (s.size:Int))=false:=by simp [hn]
      have HC:=hQ (show Qa4 (suf s 0)=(Qbg (suf s 0)).kind from by unfold Qa4;rw [xN HN.out,xN (by rw [HL.out,he,hn];simp)]);clear he hn
      go_enter Tryz.func90,Tryz.ntmps90
      go_wp2_with (first | (go_at_call 137;refine (Qdm _ _).mono ?_;rintro e w' ⟨rfl,rfl⟩) | (go_at_call 138;refine (Qmx s _ h0 HS.out).mono ?_;rintro e w1 ⟨rfl,hb1⟩;have HB:=hQ hb1;clear hb1))
      go_ret
      exact ⟨Qb5 (by rw [HC.out]),HB.out.alloc HB.out.size _⟩
     ·have hn':((((Qbg (suf s 0)).n:Nat):Int) != (s.size:Int))=true:=by simp;omega
      have HC:=hQ (show Qa4 (suf s 0)=0 from by unfold Qa4;rw [xN HN.out,xO (.inr (by rw [HL.out];exact hn))]);clear he hn
      go_enter Tryz.func90,Tryz.ntmps90
      go_wp2_with (first | (go_at_call 137;refine (Qdm _ _).mono ?_;rintro e w' ⟨rfl,rfl⟩) | (go_at_call 138;refine (Qmx s _ h0 HS.out).mono ?_;rintro e w1 ⟨rfl,hb1⟩;have HB:=hQ hb1;clear hb1))
      go_ret
      exact ⟨Qb5 (by rw [HC.out];rfl),HB.out.alloc HB.out.size _⟩
    ·have he':((((Qbg (suf s 0)).e:Nat):Int) != 0)=true:=by simp;omega
     have HC:=hQ (Qk0 he);clear he
     go_enter Tryz.func90,Tryz.ntmps90
     go_wp2_with (first | (go_at_call 137;refine (Qdm _ _).mono ?_;rintro e w' ⟨rfl,rfl⟩) | (go_at_call 138;refine (Qmx s _ h0 HS.out).mono ?_;rintro e w1 ⟨rfl,hb1⟩;have HB:=hQ hb1;clear hb1))
     go_ret
     exact ⟨Qb5 (by rw [HC.out];rfl),HB.out.alloc HB.out.size _⟩
  ·have HC:=hQ (Qk0 (l:=suf s 0) (by rw [Qz1 (by rw [H0.out];exact hw)];decide))
   go_enter Tryz.func90,Tryz.ntmps90
   go_wp2_with (go_at_call 137;refine (Qdm _ _).mono ?_;rintro e w' ⟨rfl,rfl⟩)
   go_ret
   exact ⟨Qb5 (by rw [HC.out];rfl),xC _ _⟩
 ·have he:s.toList.isEmpty=true:=by rw [←Qdu,Qoz (by omega)];rfl
  have HC:=hQ (show Qa4 (suf s 0)=0 from by rw [Qoz (by omega)];rfl)
  go_enter Tryz.func90,Tryz.ntmps90
  go_wp2
  go_ret
  exact ⟨Qb5 (by rw [HC.out];rfl),xC _ _⟩
theorem Zem {k0 k1:Int} {l0 x0 l1 x1 a b:ByteArray} (h:Qov [⟨k0,l0,x0⟩,⟨k1,l1,x1⟩] (Qji a b)=true):bl l0 = []∧bl x0=bl a∧bl l1 = []∧bl x1=bl b:=by
 simp only [Qji,Qov,Zfh,Bool.and_eq_true,beq_iff_eq,Bool.and_true] at h;obtain ⟨⟨⟨_,h1⟩,h2⟩,⟨_,h3⟩,h4⟩:=h;simp only [←Qdu] at h1 h2 h3 h4;exact ⟨h1,h2,h3,h4⟩
theorem Qi4 {a b:ByteArray} (h1:Qa4 (suf a 0)≠0) (h2:Qa4 (suf b 0)≠0):Qf6 a b = !Qov (Qbh (a ++ b)).toks (Qji a b):=by
 unfold Qf6;simp [h1,h2]
section
variable {a b:ByteArray} (h1:Qa4 (suf a 0)≠0) (h2:Qa4 (suf b 0)≠0)
include h1 h2
theorem Zbk (he:(Qbh (a ++ b)).e≠0):Qf6 a b=true:=by
 rw [Qi4 h1 h2,((Qiw (a ++ b)).2 he).1];rfl
theorem Zbl (hl:(Qbh (a ++ b)).toks.length≠2):Qf6 a b=true:=by
 rw [Qi4 h1 h2,Qpz (by simpa [Qji] using hl)];rfl
variable {k0 k1:Int} {l0 x0 l1 x1:ByteArray} (ht:(Qbh (a ++ b)).toks = [⟨k0,l0,x0⟩,⟨k1,l1,x1⟩])
include ht
theorem Qit (h:¬ (bl l0 = []∧bl x0=bl a∧bl l1 = []∧bl x1=bl b)):Qf6 a b=true:=by
 rw [Qi4 h1 h2,ht]
 cases hs:Qov [⟨k0,l0,x0⟩,⟨k1,l1,x1⟩] (Qji a b)
 ·rfl
 ·exact absurd (Zem hs) h
theorem Qxp (he:(Qbh (a ++ b)).e=0) (h:bl (Qbh (a ++ b)).tail≠[]):Qf6 a b=true:=by
 refine Qit h1 h2 ht (fun ⟨g1,g2,g3,g4⟩=>h ?_);have hj:=((Qiw (a ++ b)).1 he).2.1;rw [ht] at hj;unfold Qko at hj;rw [List.flatMap_cons,List.flatMap_cons,List.flatMap_nil] at hj;simp only [g1,g2,g3,g4,Qg8,xU,List.append_nil] at hj;exact List.append_cancel_left (by rw [hj,List.append_nil]:(bl a ++ bl b) ++ bl (Qbh (a ++ b)).tail=(bl a ++ bl b) ++ [])
theorem Zbm (he:(Qbh (a ++ b)).e=0) (h:bl l0 = []∧bl x0=bl a∧bl l1 = []∧bl x1=bl b):Qf6 a b=false:=by
 have hg:=((Qiw (a ++ b)).1 he).1;rw [ht] at hg;have q0:=(hg ⟨k0,l0,x0⟩ (by simp)).1;have q1:=(hg ⟨k1,l1,x1⟩ (by simp)).1;obtain ⟨g1,g2,g3,g4⟩:=h;simp only [g2,g4] at q0 q1;have e0:bl ByteArray.empty = []:=rfl;rw [Qi4 h1 h2,ht];simp only [Qji,Qov,Zfh,←Qdu,Bool.and_true]
 change (!((k0==(Qa4 (bl a):Int) && bl l0==bl ByteArray.empty && bl x0==bl a) && (k1==(Qa4 (bl b):Int) && bl l1==bl ByteArray.empty && bl x1==bl b)))=false
 rw [g1,g2,g3,g4,e0,q0,q1];simp
end
theorem Qtl {x:ByteArray} (h:bl x = []):x.toList.isEmpty=true:=by rw [←Qdu];unfold bl at h;rw [h];rfl
theorem Zbn {x:ByteArray} (h:bl x≠[]):x.toList.isEmpty=false:=by rw [←Qdu];unfold bl at h;simpa using h
theorem Zfa {x y:ByteArray} (h:bl x=bl y):(x.toList==y.toList)=true:=by rw [←Qdu,←Qdu];unfold bl at h;simpa using h
theorem Zik {x y:ByteArray} (h:bl x≠bl y):(x.toList==y.toList)=false:=by rw [←Qdu,←Qdu];unfold bl at h;simpa using h
theorem Qi5 (s:ByteArray) (w:World) (hs:s.size≤maxLen) {k0 k1:Int} {l0 x0 l1 x1:ByteArray} (ht:(Qbh s).toks = [⟨k0,l0,x0⟩,⟨k1,l1,x1⟩]) :
  Calls Tryz.prog 145 #[.string s] w fun e w'=>∃ g c,e = .returned (.tuple #[.slice (some ⟨g,0,none⟩) 2 c,.string (Qbh s).tail,.int .i64 (Qbh s).place,.int .i64 (Qbh s).e])∧Below w.heap.size w w' ∧
   w'.cell? ⟨g,0,none⟩=some (.int .i64 k0)∧w'.cell? ⟨g,1,none⟩=some (.string l0)∧w'.cell? ⟨g,2,none⟩=some (.string x0)∧w'.cell? ⟨g,3,none⟩=some (.int .i64 k1)∧w'.cell? ⟨g,4,none⟩=some (.string l1)∧w'.cell? ⟨g,5,none⟩=some (.string x1):=by
 refine (Qmw s w hs).mono fun e w' h=>?_
 obtain ⟨v,he,ho,hb⟩:=h;rw [ht] at ho;obtain ⟨g,c,hv,_,_⟩:=World.ownsRow.form ho (by simp);subst hv;have hc:=World.ownsRow.cells (g:=g) ho rfl;exact ⟨g,c,he,hb,hc 0 _ rfl,hc 1 _ rfl,hc 2 _ rfl,hc 3 _ rfl,hc 4 _ rfl,hc 5 _ rfl⟩
theorem Qoc (a b:ByteArray) (w:World) (hs:a.size+b.size<maxLen) :
  Calls Tryz.prog 105 #[.string a,.string b] w fun e w'=>e = .returned (.bool (Qf6 a b))∧Below w.heap.size w w':=by
 have HA:=hQ (show a.size<maxLen from by omega);have HB:=hQ (show b.size<maxLen from by omega);have HS:=hQ (show (a ++ b).size≤maxLen from by rw [ByteArray.size_append];omega);unfold maxLen at hs
 by_cases h1:Qa4 (suf a 0)=0
 ·have h1':(((Qa4 (suf a 0):Nat):Int)==0)=true:=by simp [h1]
  have HF:=hQ (show Qf6 a b=false from by unfold Qf6;simp [h1]);clear h1
  go_enter Tryz.func105,Tryz.ntmps105
  go_wp2_with (go_at_call 90;((with_reducible refine (Qa2 a _ HA.out).mono ?_);rintro e w1 ⟨rfl,hb1⟩;have W1:=hQ hb1;clear hb1))
  go_ret
  exact ⟨Qah HF.out.symm,W1.out⟩
 ·by_cases h2:Qa4 (suf b 0)=0
  ·have h1':(((Qa4 (suf a 0):Nat):Int)==0)=false:=by simp;omega
   have h2':(((Qa4 (suf b 0):Nat):Int)==0)=true:=by simp [h2]
   have HF:=hQ (show Qf6 a b=false from by unfold Qf6;simp [h2]);clear h1 h2
   go_enter Tryz.func105,Tryz.ntmps105
   go_wp2_with (first | (go_at_call 90;((with_reducible refine (Qa2 a _ HA.out).mono ?_);rintro e w1 ⟨rfl,hb1⟩;have W1:=hQ hb1;clear hb1)) | (go_at_call 90;((with_reducible refine (Qa2 b _ HB.out).mono ?_);rintro e w2 ⟨rfl,hb2⟩;have W2:=hQ hb2;clear hb2)))
   go_ret
   exact ⟨Qah HF.out.symm,W1.out.trans (W2.out.mono W1.out.size)⟩
  ·have h1':(((Qa4 (suf a 0):Nat):Int)==0)=false:=by simp;omega
   have h2':(((Qa4 (suf b 0):Nat):Int)==0)=false:=by simp;omega
   have H1:=hQ h1;have H2:=hQ h2;clear h1 h2
   by_cases he:(Qbh (a ++ b)).e=0
   ·have HE:=hQ he;have he':((((Qbh (a ++ b)).e:Nat):Int) != 0)=false:=by simp [he]
    clear he
    by_cases hl:(Qbh (a ++ b)).toks.length=2
    ·obtain ⟨⟨k0,l0,x0⟩,⟨k1,l1,x1⟩,ht⟩:∃ t u,(Qbh (a ++ b)).toks = [t,u]:=by
      match h:(Qbh (a ++ b)).toks,hl with
      | [t,u],_=>exact ⟨t,u,rfl⟩
     have HT:=hQ ht;clear hl ht
     by_cases ht0:bl (Qbh (a ++ b)).tail = []
     ·have gt:=Qtl ht0
      by_cases hx0:bl x0=bl a
      ·have gx0:=Zfa hx0
       by_cases hl0:bl l0 = []
       ·have gl0:=Qtl hl0
        by_cases hx1:bl x1=bl b
        ·have gx1:=Zfa hx1
         by_cases hl1:bl l1 = []
         ·have gl1:=Qtl hl1;have HF:=hQ (Zbm H1.out H2.out HT.out HE.out ⟨hl0,hx0,hl1,hx1⟩)
          go_enter Tryz.func105,Tryz.ntmps105
          go_wp2_with (first | (go_at_call 90;((with_reducible refine (Qa2 a _ HA.out).mono ?_);rintro e w1 ⟨rfl,hb1⟩;have W1:=hQ hb1;clear hb1)) | (go_at_call 90;((with_reducible refine (Qa2 b _ HB.out).mono ?_);rintro e w2 ⟨rfl,hb2⟩;have W2:=hQ hb2;clear hb2)) | (go_at_call 145;refine (Qi5 (a ++ b) _ HS.out HT.out).mono ?_;rintro e w3 ⟨g,c,rfl,hb3,c0,c1,c2,c3,c4,c5⟩;have W3:=hQ hb3;clear hb3))
          go_ret
          exact ⟨Qah HF.out.symm,(W1.out.trans (W2.out.mono W1.out.size)).trans (W3.out.mono (xQ W1.out.size W2.out.size))⟩
         ·have gl1:=Zbn hl1;have HF:=hQ (Qit H1.out H2.out HT.out (fun h=>hl1 h.2.2.1))
          go_enter Tryz.func105,Tryz.ntmps105
          go_wp2_with (first | (go_at_call 90;((with_reducible refine (Qa2 a _ HA.out).mono ?_);rintro e w1 ⟨rfl,hb1⟩;have W1:=hQ hb1;clear hb1)) | (go_at_call 90;((with_reducible refine (Qa2 b _ HB.out).mono ?_);rintro e w2 ⟨rfl,hb2⟩;have W2:=hQ hb2;clear hb2)) | (go_at_call 145;refine (Qi5 (a ++ b) _ HS.out HT.out).mono ?_;rintro e w3 ⟨g,c,rfl,hb3,c0,c1,c2,c3,c4,c5⟩;have W3:=hQ hb3;clear hb3))
          go_ret
          exact ⟨Qah HF.out.symm,(W1.out.trans (W2.out.mono W1.out.size)).trans (W3.out.mono (xQ W1.out.size W2.out.size))⟩
        ·have gx1:=Zik hx1;have HF:=hQ (Qit H1.out H2.out HT.out (fun h=>hx1 h.2.2.2))
         go_enter Tryz.func105,Tryz.ntmps105
         go_wp2_with (first | (go_at_call 90;((with_reducible refine (Qa2 a _ HA.out).mono ?_);rintro e w1 ⟨rfl,hb1⟩;have W1:=hQ hb1;clear hb1)) | (go_at_call 90;((with_reducible refine (Qa2 b _ HB.out).mono ?_);rintro e w2 ⟨rfl,hb2⟩;have W2:=hQ hb2;clear hb2)) | (go_at_call 145;refine (Qi5 (a ++ b) _ HS.out HT.out).mono ?_;rintro e w3 ⟨g,c,rfl,hb3,c0,c1,c2,c3,c4,c5⟩;have W3:=hQ hb3;clear hb3))
         go_ret
         exact ⟨Qah HF.out.symm,(W1.out.trans (W2.out.mono W1.out.size)).trans (W3.out.mono (xQ W1.out.size W2.out.size))⟩
       ·have gl0:=Zbn hl0;have HF:=hQ (Qit H1.out H2.out HT.out (fun h=>hl0 h.1))
        go_enter Tryz.func105,Tryz.ntmps105
        go_wp2_with (first | (go_at_call 90;((with_reducible refine (Qa2 a _ HA.out).mono ?_);rintro e w1 ⟨rfl,hb1⟩;have W1:=hQ hb1;clear hb1)) | (go_at_call 90;((with_reducible refine (Qa2 b _ HB.out).mono ?_);rintro e w2 ⟨rfl,hb2⟩;have W2:=hQ hb2;clear hb2)) | (go_at_call 145;refine (Qi5 (a ++ b) _ HS.out HT.out).mono ?_;rintro e w3 ⟨g,c,rfl,hb3,c0,c1,c2,c3,c4,c5⟩;have W3:=hQ hb3;clear hb3))
        go_ret
        exact ⟨Qah HF.out.symm,(W1.out.trans (W2.out.mono W1.out.size)).trans (W3.out.mono (xQ W1.out.size W2.out.size))⟩
      ·have gx0:=Zik hx0;have HF:=hQ (Qit H1.out H2.out HT.out (fun h=>hx0 h.2.1))
       go_enter Tryz.func105,Tryz.ntmps105
       go_wp2_with (first | (go_at_call 90;((with_reducible refine (Qa2 a _ HA.out).mono ?_);rintro e w1 ⟨rfl,hb1⟩;have W1:=hQ hb1;clear hb1)) | (go_at_call 90;((with_reducible refine (Qa2 b _ HB.out).mono ?_);rintro e w2 ⟨rfl,hb2⟩;have W2:=hQ hb2;clear hb2)) | (go_at_call 145;refine (Qi5 (a ++ b) _ HS.out HT.out).mono ?_;rintro e w3 ⟨g,c,rfl,hb3,c0,c1,c2,c3,c4,c5⟩;have W3:=hQ hb3;clear hb3))
       go_ret
       exact ⟨Qah HF.out.symm,(W1.out.trans (W2.out.mono W1.out.size)).trans (W3.out.mono (xQ W1.out.size W2.out.size))⟩
     ·have gt:=Zbn ht0;have HF:=hQ (Qxp H1.out H2.out HT.out HE.out ht0)
      go_enter Tryz.func105,Tryz.ntmps105
      go_wp2_with (first | (go_at_call 90;((with_reducible refine (Qa2 a _ HA.out).mono ?_);rintro e w1 ⟨rfl,hb1⟩;have W1:=hQ hb1;clear hb1)) | (go_at_call 90;((with_reducible refine (Qa2 b _ HB.out).mono ?_);rintro e w2 ⟨rfl,hb2⟩;have W2:=hQ hb2;clear hb2)) | (go_at_call 145;refine (Qi5 (a ++ b) _ HS.out HT.out).mono ?_;rintro e w3 ⟨g,c,rfl,hb3,c0,c1,c2,c3,c4,c5⟩;have W3:=hQ hb3;clear hb3))
      go_ret
      exact ⟨Qah HF.out.symm,(W1.out.trans (W2.out.mono W1.out.size)).trans (W3.out.mono (xQ W1.out.size W2.out.size))⟩
    ·have hl':((((Qbh (a ++ b)).toks.length:Nat):Int) != 2)=true:=by simp;omega
     have HF:=hQ (Zbl H1.out H2.out hl);clear hl
     go_enter Tryz.func105,Tryz.ntmps105
     go_wp2_with (first | (go_at_call 90;((with_reducible refine (Qa2 a _ HA.out).mono ?_);rintro e w1 ⟨rfl,hb1⟩;have W1:=hQ hb1;clear hb1)) | (go_at_call 90;((with_reducible refine (Qa2 b _ HB.out).mono ?_);rintro e w2 ⟨rfl,hb2⟩;have W2:=hQ hb2;clear hb2)) | (go_at_call 145;refine (Qmw (a ++ b) _ HS.out).mono ?_;rintro e w3 ⟨v,rfl,ho,hb3⟩;obtain ⟨A,c,rfl⟩:=Qet ho;have HO:=hQ ho;have W3:=hQ hb3;clear ho hb3))
     go_ret
     exact ⟨Qah HF.out.symm,(W1.out.trans (W2.out.mono W1.out.size)).trans (W3.out.mono (xQ W1.out.size W2.out.size))⟩
   ·have he':((((Qbh (a ++ b)).e:Nat):Int) != 0)=true:=by simp;omega
    have HF:=hQ (Zbk H1.out H2.out he);clear he
    go_enter Tryz.func105,Tryz.ntmps105
    go_wp2_with (first | (go_at_call 90;((with_reducible refine (Qa2 a _ HA.out).mono ?_);rintro e w1 ⟨rfl,hb1⟩;have W1:=hQ hb1;clear hb1)) | (go_at_call 90;((with_reducible refine (Qa2 b _ HB.out).mono ?_);rintro e w2 ⟨rfl,hb2⟩;have W2:=hQ hb2;clear hb2)) | (go_at_call 145;refine (Qmw (a ++ b) _ HS.out).mono ?_;rintro e w3 ⟨v,rfl,ho,hb3⟩;obtain ⟨A,c,rfl⟩:=Qet ho;have HO:=hQ ho;have W3:=hQ hb3;clear ho hb3))
    go_ret
    exact ⟨Qah HF.out.symm,(W1.out.trans (W2.out.mono W1.out.size)).trans (W3.out.mono (xQ W1.out.size W2.out.size))⟩
end Go.Proofs.YtfjpemdejoejbaaGreat
