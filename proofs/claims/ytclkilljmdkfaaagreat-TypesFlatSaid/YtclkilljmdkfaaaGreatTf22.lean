/- Part 22 -/
import Derived.Test.YtclkilljmdkfaaaGreatTf21
import Derived.Test.YtclkilljmdkfaaaGreatTf18
set_option maxRecDepth 100000
set_option maxHeartbeats 4000000
namespace Go.Proofs.YtclkilljmdkfaaaGreat
open Go.RowKit
theorem Ziw {t:Tk} {a:Nat} (h:t.e≠0):iAt t a=((a+t.n:Nat):Int):=by
 unfold iAt
 rw [xN h]
 omega
theorem Zar {w w1:World} {base:Nat} {e:TypeId} {size n:Nat} {v:Value} {xs:List Value} (h:w.ownsRow base e size v n xs) (hb:Below w.heap.size w w1):w1.ownsRow base e size v n xs :=
 h.kept (row:=none) ⟨hb.os,hb.tape,hb.output,hb.size,fun k hk _=>hb.block k hk⟩ (by cases h1:v.ownBlock with | none=>exact .inl rfl | some g=>exact .inr (by simp))
def Qak (s:ByteArray) (k:Nat):Nat:=Qan s k-k
theorem Qom (s:ByteArray) (k:Nat):Qan s k=k+Qak s k:=by
 have:=Qg7 s k
 unfold Qak
 omega
theorem Qma (s:ByteArray) (k:Nat) (w:World) (hk:k≤s.size) (hs:s.size≤maxLen) :
  Calls Tryz.prog 205 #[.string s,.int .i64 k] w fun e w'=>e = .returned (.tuple #[.int .i64 (Qak s k:Nat),.int .i64 (Qjm s k)])∧w=w':=by
 have h:=Qu4 s k w hk hs
 rwa [show ((Qan s k:Nat):Int)-(k:Int)=((Qak s k:Nat):Int) from by rw [Qom];omega] at h
theorem Qtw (s:ByteArray) (k n:Nat) (w:World) (h0:k+n<s.size) (hs:s.size<maxLen) :
  Calls Tryz.prog 176 #[.string s,.int .i64 ((k:Int)+(n:Int))] w (Qgv (Qbe (suf s (k+n))) (k+n) w):=by
 have h:=Ze9 s (k+n) w h0 hs (fun hl w=>Zaq s (k+n) w h0 hl hs)
 rwa [show ((k+n:Nat):Int)=(k:Int)+(n:Int) from by omega] at h
theorem ScanRel.step {s:ByteArray} {w W3 w':World} {v v':Value} {k:Nat} {acc:List Tok} {o:Obj}
  (h:ScanAt s (Qan s k+(Qbe (suf s (Qan s k))).n) (acc ++ [⟨(Qbe (suf s (Qan s k))).kind,s.extract k (Qan s k),s.extract (Qan s k) (Qan s k+(Qbe (suf s (Qan s k))).n)⟩]))
  (hS:Qan s k=k+Qak s k) (hown:W3.ownsRow w.heap.size 91 3 v acc.length (Qco acc)) (hb:Below w.heap.size w W3)
  (hown':w'.ownsRow w.heap.size 91 3 v' (acc.length+1) (Qco acc ++ [.int .i64 (Qbe (suf s (k+Qak s k))).kind,.string (s.extract k (k+Qak s k)),.string (s.extract (k+Qak s k) (k+Qak s k+(Qbe (suf s (k+Qak s k))).n))]))
  (hg:((W3.alloc o).drew).grownBy w' v.ownBlock):ScanRel s w v' (.int .i64 ((k:Int)+(Qak s k:Nat)+((Qbe (suf s (k+Qak s k))).n:Nat))) w':=by
 rw [hS] at h
 refine ⟨_,_,?_,h,by rw [Qhv];simpa using hown',?_⟩
 ·rw [show ((k+Qak s k+(Qbe (suf s (k+Qak s k))).n:Nat):Int)=(k:Int)+(Qak s k:Nat)+((Qbe (suf s (k+Qak s k))).n:Nat) from by omega]
 ·exact ((hb.alloc hb.size o).drew).grown hg (by have:=hb.size;show w.heap.size≤(W3.alloc o).heap.size;rw [xI];omega) (fun j hj=>(hown.lt j hj).1)
theorem Zas (s:ByteArray) (w:World) (hshort:s.size≤4096) :
  Calls Tryz.prog 206 #[.string s] w (Qpn (Qnx s) w):=by
 have HL:=hQ (show s.size<maxLen from by unfold maxLen;omega)
 have HM:=hQ (Nat.le_of_lt HL.out)
 obtain ⟨i0,hi,hz0,hz1,hz2⟩:=info_parts Qk1
 go_enter Tryz.func206,Tryz.ntmps206
 go_wp2
 go_loopw [6,7] (fun v i wr=>ScanRel s w v i wr) (fun _ i _=>s.size-(intOf i).toNat)
 case atStart=>exact ScanRel.start s w
 case round =>
  obtain ⟨k,acc,rfl,hat,hown,hbl⟩:=hrel
  have HA:=hQ hat
  have hk:=hat.1
  have hacc:=hat.2.1
  have hge:=Qg7 s k
  have hle:=Qgg s k hk
  have HS:=hQ (Qom s k)
  have hn:k+Qak s k≤s.size:=by rw [←HS.out];exact hle
  clear hat
  have HO:=hQ hown
  have HB:=hQ hbl
  clear hown hbl
  by_cases hst:k+Qak s k=s.size
  ·have hst':((k:Int)+(Qak s k:Nat)==(s.size:Int))=true:=by simp;omega
   have HD:=hQ (HA.out.done (HS.out.trans hst))
   have hbad:Qjm s k = -1:=Qiu ⟨rfl,rfl⟩ (.inr (by rw [HS.out];omega))
   clear hst hge hle
   have HE:=hQ (show s.extract k s.size=s.extract k s.size from rfl)
   go_wp2_with (go_at_call 205;refine (Qma s k _ hk HM.out).mono ?_;rintro e w' ⟨rfl,rfl⟩)
   go_quiet (fail)
   go_wp2
   exact bodyPost_ret (v:=.tuple #[u6,.string (s.extract k s.size),.int .i64 0,.int .i64 0]) (by simp [results,Tryz.results206,go_sem]) rfl ⟨_,by rw [HD.out];rfl,by rw [HD.out];exact HO.out,below_drewN HB.out _⟩
  ·have hst':((k:Int)+(Qak s k:Nat)==(s.size:Int))=false:=by simp;omega
   have hlt:k+Qak s k<s.size:=by omega
   have HK:=hQ (show Qan s k<s.size from by rw [HS.out];exact hlt)
   have HJ:=hQ (show Qan s k≠s.size from by rw [HS.out];exact hst)
   cases ho:Qc6 s k
   ·have hbad:Qjm s k = -1:=Qiu ⟨rfl,ho⟩ (.inl rfl)
    by_cases he:(Qbe (suf s (k+Qak s k))).e=0
    ·have HN:=hQ (HA.out.next HJ.out (by rw [HS.out];exact he))
     have hlen:=Qkz he
     rw [Qb0] at hlen
     have he':((((Qbe (suf s (k+Qak s k))).e:Nat):Int) != 0)=false:=by simp [he]
     have hil:Qy1 (Qbe (suf s (k+Qak s k)))=(((Qbe (suf s (k+Qak s k))).n:Nat):Int):=by unfold Qy1;rw [xO he]
     clear he hst hge hle ho
     go_wp2_with (first | (go_at_call 205;refine (Qma s k _ hk HM.out).mono ?_;rintro e w' ⟨rfl,rfl⟩) | (go_at_call 176;refine (Qtw s k (Qak s k) _ hlt HL.out).mono ?_;rintro e w1 ⟨rfl,hb1⟩;have HB1:=hQ hb1;clear hb1))
     have c0:(w1.alloc (.cells #[.int .i64 (Qbe (suf s (k+Qak s k))).n,.int .i64 (Qbe (suf s (k+Qak s k))).kind,.int .i64 (Qbe (suf s (k+Qak s k))).e,.int .i64 (iAt (Qbe (suf s (k+Qak s k))) (k+Qak s k))] 194)).cell? ⟨w1.heap.size,0,none⟩=some (.int .i64 (Qbe (suf s (k+Qak s k))).n):=by simp
     have c1:(w1.alloc (.cells #[.int .i64 (Qbe (suf s (k+Qak s k))).n,.int .i64 (Qbe (suf s (k+Qak s k))).kind,.int .i64 (Qbe (suf s (k+Qak s k))).e,.int .i64 (iAt (Qbe (suf s (k+Qak s k))) (k+Qak s k))] 194)).cell? ⟨w1.heap.size,1,none⟩=some (.int .i64 (Qbe (suf s (k+Qak s k))).kind):=by simp
     have hb3:Below w.heap.size w (w1.alloc (.cells #[.int .i64 (Qbe (suf s (k+Qak s k))).n,.int .i64 (Qbe (suf s (k+Qak s k))).kind,.int .i64 (Qbe (suf s (k+Qak s k))).e,.int .i64 (iAt (Qbe (suf s (k+Qak s k))) (k+Qak s k))] 194)):=(HB.out.trans (HB1.out.mono HB.out.size)).alloc (xQ HB.out.size HB1.out.size) _
     have hown3:(w1.alloc (.cells #[.int .i64 (Qbe (suf s (k+Qak s k))).n,.int .i64 (Qbe (suf s (k+Qak s k))).kind,.int .i64 (Qbe (suf s (k+Qak s k))).e,.int .i64 (iAt (Qbe (suf s (k+Qak s k))) (k+Qak s k))] 194)).ownsRow w.heap.size 91 3 u6 acc.length (Qco acc):=(Zar HO.out HB1.out).alloc _
     have ag:u6.ownBlock≠some w1.heap.size:=fun e=>by have:=(HO.out.lt _ e).2;have:=HB1.out.size;omega
     have lg:w1.heap.size<(w1.alloc (.cells #[.int .i64 (Qbe (suf s (k+Qak s k))).n,.int .i64 (Qbe (suf s (k+Qak s k))).kind,.int .i64 (Qbe (suf s (k+Qak s k))).e,.int .i64 (iAt (Qbe (suf s (k+Qak s k))) (k+Qak s k))] 194)).heap.size:=by simp
     generalize w1.alloc (.cells #[.int .i64 (Qbe (suf s (k+Qak s k))).n,.int .i64 (Qbe (suf s (k+Qak s k))).kind,.int .i64 (Qbe (suf s (k+Qak s k))).e,.int .i64 (iAt (Qbe (suf s (k+Qak s k))) (k+Qak s k))] 194)=W3 at c0 c1 hb3 hown3 lg ⊢
     generalize w1.heap.size=g1 at c0 c1 ag lg ⊢
     have hsz3:=hb3.size
     have h63:=hQ (show acc.length+1≤maxLen from by unfold maxLen;omega)
     have hby:=hQ (show (acc.length+1)*40≤140737488355328 from by omega)
     have p0:(0:Int)≤(k:Int):=by omega
     have p1:(0:Int)≤(k:Int)+(Qak s k:Nat):=by omega
     have p2:(0:Int)≤(k:Int)+(Qak s k:Nat)+((Qbe (suf s (k+Qak s k))).n:Nat):=by omega
     have q1:(k:Int)≤(k:Int)+(Qak s k:Nat):=by omega
     have q2:(k:Int)+(Qak s k:Nat)≤(k:Int)+(Qak s k:Nat)+((Qbe (suf s (k+Qak s k))).n:Nat):=by omega
     have r1:(k:Int)+(Qak s k:Nat)≤(s.size:Int):=by omega
     have r2:(k:Int)+(Qak s k:Nat)+((Qbe (suf s (k+Qak s k))).n:Nat)≤(s.size:Int):=by omega
     have t1:((k:Int)+(Qak s k:Nat)).toNat=k+Qak s k:=by omega
     have t2:((k:Int)+(Qak s k:Nat)+((Qbe (suf s (k+Qak s k))).n:Nat)).toNat=k+Qak s k+(Qbe (suf s (k+Qak s k))).n:=by omega
     have w1':IntKind.i64.wrap ((k:Int)+(Qak s k:Nat))=(k:Int)+(Qak s k:Nat):=IntWalk.i64_in _ (by omega)
     have w2':IntKind.i64.wrap ((k:Int)+(Qak s k:Nat)+((Qbe (suf s (k+Qak s k))).n:Nat))=(k:Int)+(Qak s k:Nat)+((Qbe (suf s (k+Qak s k))).n:Nat):=IntWalk.i64_in _ (by omega)
     go_region_held3 (fun w'=>w'.cell? ⟨g1,0,none⟩=some (.int .i64 (Qbe (suf s (k+Qak s k))).n)∧w'.cell? ⟨g1,1,none⟩=some (.int .i64 (Qbe (suf s (k+Qak s k))).kind)) (first | go_keep | (go_split_ands;refine ⟨?_,?_⟩ <;> (rw [hgrow.cell_far _ (xE lg (by simp)) (Ne.symm ag)];assumption))) ((refine step_append_lies _ (by rfl) _ _ _ (by rfl) w.heap.size 91 i0 _ 3 40 Tryz.underlying87 hi hz0 hz1 hz2 rfl (by decide) u6 acc.length (Qco acc) (by rfl) ((hown3.alloc _).drew) ⟨W3.heap.size,0,none⟩ 1 1 [.int .i64 (Qbe (suf s (k+Qak s k))).kind,.string (s.extract k (k+Qak s k)),.string (s.extract (k+Qak s k) (k+Qak s k+(Qbe (suf s (k+Qak s k))).n))] (by rfl) (by rfl) (xM (cs:=#[.int .i64 (Qbe (suf s (k+Qak s k))).kind,.string (s.extract k (k+Qak s k)),.string (s.extract (k+Qak s k) (k+Qak s k+(Qbe (suf s (k+Qak s k))).n))]) (t:=91) (fr:=(0,0)) (xH W3 _)) (Qmj _ _ _) (by decide) h63.out hby.out (xQ hsz3 (by simp)) (W3.heap.size+1) (by simp) ?_;intro gg cap w4 hown4 hgrow hat4 hlt4))
     have HV:=hQ hown4
     have HG:=hQ hgrow
     have H3:=hQ hown3
     have HB3:=hQ hb3
     clear hown4 hgrow p0 p1 p2 q1 q2 r1 r2 t1 t2 w1' w2' hat4 hlt4 hown3 hb3 hil c0 c1 ag lg hsz3
     go_split_ands
     go_wp2
     go_roundw
     case rel=>exact ScanRel.step HN.out HS.out H3.out HB3.out HV.out HG.out
     case measure=>simp [intOf];omega
    ·have HD:=hQ (HA.out.stop HJ.out (by rw [HS.out];exact he))
     have he':((((Qbe (suf s (k+Qak s k))).e:Nat):Int) != 0)=true:=by simp;omega
     have HX:=hQ (Ziw (a:=k+Qak s k) he)
     have hmax:(Qbe (suf s (k+Qak s k))).n≤s.size:=by have:=Qmh he;rw [Qb0] at this;omega
     clear he hst hge hle ho
     go_wp2_with (first | (go_at_call 205;refine (Qma s k _ hk HM.out).mono ?_;rintro e w' ⟨rfl,rfl⟩) | (go_at_call 176;refine (Qtw s k (Qak s k) _ hlt HL.out).mono ?_;rintro e w1 ⟨rfl,hb1⟩;have HB1:=hQ hb1;clear hb1))
     go_quiet (fail)
     go_wp2
     exact bodyPost_ret (v:=.tuple #[.slice none 0 0,.string ⟨#[]⟩,.int .i64 (iAt (Qbe (suf s (k+Qak s k))) (k+Qak s k)),.int .i64 (Qbe (suf s (k+Qak s k))).e]) (by simp [results,Tryz.results206,go_sem]) rfl ⟨_,by rw [HD.out,HS.out,HX.out];rfl,by rw [HD.out];exact World.ownsRow_nil _ _ _ _,(below_drewN ((HB.out.trans (HB1.out.mono HB.out.size)).alloc (xQ HB.out.size HB1.out.size) _) _)⟩
   ·have hbad:Qjm s k=((k+Qak s k:Nat):Int):=Qqq ⟨HS.out,ho⟩ hlt
    have HT:=hQ (Quo ho HK.out)
    have HD:=hQ (HA.out.stop HJ.out (by rw [HT.out];decide))
    clear hst hge hle ho
    go_wp2_with (go_at_call 205;refine (Qma s k _ hk HM.out).mono ?_;rintro e w' ⟨rfl,rfl⟩)
    exact bodyPost_ret (v:=.tuple #[.slice none 0 0,.string ⟨#[]⟩,.int .i64 ((k:Int)+(Qak s k:Nat)),.int .i64 1]) (by simp [results,Tryz.results206,go_sem]) rfl ⟨_,by rw [HD.out,HT.out,HS.out];rfl,by rw [HD.out];exact World.ownsRow_nil _ _ _ _,HB.out⟩
theorem Qm1 (s:ByteArray) (w:World) (hs:s.size≤maxLen) :
  Calls Tryz.prog 182 #[.string s] w (Qpn (Qbj s) w):=by
 unfold maxLen at hs
 by_cases hlong:4096<s.size
 ·have HR:=hQ (show Qbj s=⟨[],ByteArray.empty,4096,3⟩ from by unfold Qbj;rw [xO hlong])
  go_enter Tryz.func182,Tryz.ntmps182
  go_wp2
  exact bodyPost_ret (v:=.tuple #[.slice none 0 0,.string ⟨#[]⟩,.int .i64 4096,.int .i64 3]) (by simp [results,Tryz.results182,go_sem]) rfl ⟨_,by rw [HR.out];rfl,by rw [HR.out];exact World.ownsRow_nil _ _ _ _,xC _ _⟩
 ·have HR:=hQ (show Qbj s=Qnx s from by unfold Qbj;rw [xN hlong])
  have hshort:s.size≤4096:=by omega
  go_enter Tryz.func182,Tryz.ntmps182
  go_wp2_with (go_at_call 206;refine (Zas s _ hshort).mono ?_;rintro e w1 ⟨v,rfl,ho,hb⟩;have HO:=hQ ho;have HB:=hQ hb;clear ho hb)
  exact bodyPost_ret (v:=.tuple #[v,.string (Qnx s).tail,.int .i64 (Qnx s).place,.int .i64 (Qnx s).e]) (by simp [results,Tryz.results182,go_sem]) rfl ⟨_,by rw [HR.out],by rw [HR.out];exact HO.out,HB.out⟩
theorem Qm2 (s:ByteArray) (w:World) (h0:0<s.size) (hs:s.size<maxLen) :
  Calls Tryz.prog 176 #[.string s,.int .i64 0] w (Qgv (Qbe (suf s 0)) 0 w):=by
 have h:=Qtw s 0 0 w h0 hs
 simpa using h
theorem Qu7 {l:List UInt8} (ha:Qaq (at' l 0)=true) (hl:Qaw (at' l 0)=false) (hd:Qb4 (at' l 0)=false) (h34:at' l 0≠34) (h61:at' l 0≠61) (ho:Qe0 (at' l 0)=false):Qbe l=⟨0,0,2⟩:=by
 have hs:Qbv l=0:=by unfold Qbv;rw [xN h61,xN (by simp [ho])]
 unfold Qbe
 rw [xN (by simp [ha]),xN (by simp [hl]),xN (by simp [hd]),xN h34]
 unfold Qea
 rw [xO hs]
theorem Zat {l:List UInt8} (h:Qeb (at' l 0)=true):Qbe l=⟨0,0,2⟩:=by
 have:at' l 0=9∨at' l 0=10∨at' l 0=13∨at' l 0=32:=by
  unfold Qeb at h
  simp at h
  omega
 rcases this with h | h | h | h <;> exact Qu7 (by rw [h];decide) (by rw [h];decide) (by rw [h];decide) (by rw [h];decide) (by rw [h];decide) (by rw [h];decide)
theorem Zff {l:List UInt8} (h:at' l 0=35):Qbe l=⟨0,0,2⟩ :=
 Qu7 (by rw [h];decide) (by rw [h];decide) (by rw [h];decide) (by rw [h];decide) (by rw [h];decide) (by rw [h];decide)
theorem Qk7 {l:List UInt8} (h:(Qbe l).e≠0):Qap l=0:=by
 unfold Qap
 split
 ·rfl
 ·rw [xO (.inl h)]
theorem Qa1 (s:ByteArray) (w:World) (hs:s.size<maxLen) :
  Calls Tryz.prog 129 #[.string s] w fun e w'=>e = .returned (.int .i64 (Qap (suf s 0)))∧Below w.heap.size w w':=by
 have HS:=hQ hs
 by_cases h0:0<s.size
 ·have hne:s.toList.isEmpty=false:=by
   have:=Qqz h0
   rw [Qdx] at this
   simpa using this
  have HN:=hQ (Qqz h0)
  have HL:=hQ (Qb0 s 0)
  have H0:=hQ (Qen s 0 h0)
  unfold maxLen at hs
  cases hw:Qeb s[0].toNat
  ·by_cases h35:s[0].toNat=35
   ·have g35:((s[0].toNat:Int)==35)=true:=Qda h35
    have HC:=hQ (Qk7 (l:=suf s 0) (by rw [Zff (H0.out.trans h35)];decide))
    clear h35
    go_enter Tryz.func129,Tryz.ntmps129
    go_wp2_with (go_at_call 175;refine (Qdq _ _).mono ?_;rintro e w' ⟨rfl,rfl⟩)
    go_ret
    exact ⟨Qcf (by rw [HC.out];rfl),xC _ _⟩
   ·have g35:((s[0].toNat:Int)==35)=false:=Qdw h35
    clear h35
    by_cases he:(Qbe (suf s 0)).e=0
    ·have he':((((Qbe (suf s 0)).e:Nat):Int) != 0)=false:=by simp [he]
     have hil:Qy1 (Qbe (suf s 0))=(((Qbe (suf s 0)).n:Nat):Int):=by unfold Qy1;rw [xO he]
     by_cases hn:(Qbe (suf s 0)).n=s.size
     ·have hn':((((Qbe (suf s 0)).n:Nat):Int) != (s.size:Int))=false:=by simp [hn]
      have HC:=hQ (show Qap (suf s 0)=(Qbe (suf s 0)).kind from by unfold Qap;rw [xN HN.out,xN (by rw [HL.out,he,hn];simp)])
      clear he hn
      go_enter Tryz.func129,Tryz.ntmps129
      go_wp2_with (first | (go_at_call 175;refine (Qdq _ _).mono ?_;rintro e w' ⟨rfl,rfl⟩) | (go_at_call 176;refine (Qm2 s _ h0 HS.out).mono ?_;rintro e w1 ⟨rfl,hb1⟩;have HB:=hQ hb1;clear hb1))
      go_ret
      exact ⟨Qcf (by rw [HC.out]),HB.out.alloc HB.out.size _⟩
     ·have hn':((((Qbe (suf s 0)).n:Nat):Int) != (s.size:Int))=true:=by simp;omega
      have HC:=hQ (show Qap (suf s 0)=0 from by unfold Qap;rw [xN HN.out,xO (.inr (by rw [HL.out];exact hn))])
      clear he hn
      go_enter Tryz.func129,Tryz.ntmps129
      go_wp2_with (first | (go_at_call 175;refine (Qdq _ _).mono ?_;rintro e w' ⟨rfl,rfl⟩) | (go_at_call 176;refine (Qm2 s _ h0 HS.out).mono ?_;rintro e w1 ⟨rfl,hb1⟩;have HB:=hQ hb1;clear hb1))
      go_ret
      exact ⟨Qcf (by rw [HC.out];rfl),HB.out.alloc HB.out.size _⟩
    ·have he':((((Qbe (suf s 0)).e:Nat):Int) != 0)=true:=by simp;omega
     have HC:=hQ (Qk7 he)
     clear he
     go_enter Tryz.func129,Tryz.ntmps129
     go_wp2_with (first | (go_at_call 175;refine (Qdq _ _).mono ?_;rintro e w' ⟨rfl,rfl⟩) | (go_at_call 176;refine (Qm2 s _ h0 HS.out).mono ?_;rintro e w1 ⟨rfl,hb1⟩;have HB:=hQ hb1;clear hb1))
     go_ret
     exact ⟨Qcf (by rw [HC.out];rfl),HB.out.alloc HB.out.size _⟩
  ·have HC:=hQ (Qk7 (l:=suf s 0) (by rw [Zat (by rw [H0.out];exact hw)];decide))
   go_enter Tryz.func129,Tryz.ntmps129
   go_wp2_with (go_at_call 175;refine (Qdq _ _).mono ?_;rintro e w' ⟨rfl,rfl⟩)
   go_ret
   exact ⟨Qcf (by rw [HC.out];rfl),xC _ _⟩
 ·have he:s.toList.isEmpty=true:=by rw [←Qdx,Qps (by omega)];rfl
  have HC:=hQ (show Qap (suf s 0)=0 from by rw [Qps (by omega)];rfl)
  go_enter Tryz.func129,Tryz.ntmps129
  go_wp2
  go_ret
  exact ⟨Qcf (by rw [HC.out];rfl),xC _ _⟩
theorem Zgy {k0 k1:Int} {l0 x0 l1 x1 a b:ByteArray} (h:Qpo [⟨k0,l0,x0⟩,⟨k1,l1,x1⟩] (Qjo a b)=true):bl l0 = []∧bl x0=bl a∧bl l1 = []∧bl x1=bl b:=by
 simp only [Qjo,Qpo,Zhr,Bool.and_eq_true,beq_iff_eq,Bool.and_true] at h
 obtain ⟨⟨⟨_,h1⟩,h2⟩,⟨_,h3⟩,h4⟩:=h
 simp only [←Qdx] at h1 h2 h3 h4
 exact ⟨h1,h2,h3,h4⟩
theorem Qi9 {a b:ByteArray} (h1:Qap (suf a 0)≠0) (h2:Qap (suf b 0)≠0):Qf9 a b = !Qpo (Qbj (a ++ b)).toks (Qjo a b):=by
 unfold Qf9
 simp [h1,h2]
section
variable {a b:ByteArray} (h1:Qap (suf a 0)≠0) (h2:Qap (suf b 0)≠0)
include h1 h2
theorem Zdk (he:(Qbj (a ++ b)).e≠0):Qf9 a b=true:=by
 rw [Qi9 h1 h2,((Qiv (a ++ b)).2 he).1]
 rfl
theorem Zdl (hl:(Qbj (a ++ b)).toks.length≠2):Qf9 a b=true:=by
 rw [Qi9 h1 h2,Qqu (by simpa [Qjo] using hl)]
 rfl
variable {k0 k1:Int} {l0 x0 l1 x1:ByteArray} (ht:(Qbj (a ++ b)).toks = [⟨k0,l0,x0⟩,⟨k1,l1,x1⟩])
include ht
theorem Qit (h:¬ (bl l0 = []∧bl x0=bl a∧bl l1 = []∧bl x1=bl b)):Qf9 a b=true:=by
 rw [Qi9 h1 h2,ht]
 cases hs:Qpo [⟨k0,l0,x0⟩,⟨k1,l1,x1⟩] (Qjo a b)
 ·rfl
 ·exact absurd (Zgy hs) h
theorem Qys (he:(Qbj (a ++ b)).e=0) (h:bl (Qbj (a ++ b)).tail≠[]):Qf9 a b=true:=by
 refine Qit h1 h2 ht (fun ⟨g1,g2,g3,g4⟩=>h ?_)
 have hj:=((Qiv (a ++ b)).1 he).2.1
 rw [ht] at hj
 unfold Qk0 at hj
 rw [List.flatMap_cons,List.flatMap_cons,List.flatMap_nil] at hj
 simp only [g1,g2,g3,g4,Qg9,xU,List.append_nil] at hj
 exact List.append_cancel_left (by rw [hj,List.append_nil]:(bl a ++ bl b) ++ bl (Qbj (a ++ b)).tail=(bl a ++ bl b) ++ [])
theorem Zdm (he:(Qbj (a ++ b)).e=0) (h:bl l0 = []∧bl x0=bl a∧bl l1 = []∧bl x1=bl b):Qf9 a b=false:=by
 have hg:=((Qiv (a ++ b)).1 he).1
 rw [ht] at hg
 have q0:=(hg ⟨k0,l0,x0⟩ (by simp)).1
 have q1:=(hg ⟨k1,l1,x1⟩ (by simp)).1
 obtain ⟨g1,g2,g3,g4⟩:=h
 simp only [g2,g4] at q0 q1
 have e0:bl ByteArray.empty = []:=rfl
 rw [Qi9 h1 h2,ht]
 simp only [Qjo,Qpo,Zhr,←Qdx,Bool.and_true]
 change (!((k0==(Qap (bl a):Int) && bl l0==bl ByteArray.empty && bl x0==bl a) && (k1==(Qap (bl b):Int) && bl l1==bl ByteArray.empty && bl x1==bl b)))=false
 rw [g1,g2,g3,g4,e0,q0,q1]
 simp
end
theorem Quj {x:ByteArray} (h:bl x = []):x.toList.isEmpty=true:=by rw [←Qdx];unfold bl at h;rw [h];rfl
theorem Zdn {x:ByteArray} (h:bl x≠[]):x.toList.isEmpty=false:=by rw [←Qdx];unfold bl at h;simpa using h
theorem Zhk {x y:ByteArray} (h:bl x=bl y):(x.toList==y.toList)=true:=by rw [←Qdx,←Qdx];unfold bl at h;simpa using h
theorem Zla {x y:ByteArray} (h:bl x≠bl y):(x.toList==y.toList)=false:=by rw [←Qdx,←Qdx];unfold bl at h;simpa using h
theorem Qja (s:ByteArray) (w:World) (hs:s.size≤maxLen) {k0 k1:Int} {l0 x0 l1 x1:ByteArray} (ht:(Qbj s).toks = [⟨k0,l0,x0⟩,⟨k1,l1,x1⟩]) :
  Calls Tryz.prog 182 #[.string s] w fun e w'=>∃ g c,e = .returned (.tuple #[.slice (some ⟨g,0,none⟩) 2 c,.string (Qbj s).tail,.int .i64 (Qbj s).place,.int .i64 (Qbj s).e])∧Below w.heap.size w w' ∧
   w'.cell? ⟨g,0,none⟩=some (.int .i64 k0)∧w'.cell? ⟨g,1,none⟩=some (.string l0)∧w'.cell? ⟨g,2,none⟩=some (.string x0)∧w'.cell? ⟨g,3,none⟩=some (.int .i64 k1)∧w'.cell? ⟨g,4,none⟩=some (.string l1)∧w'.cell? ⟨g,5,none⟩=some (.string x1):=by
 refine (Qm1 s w hs).mono fun e w' h=>?_
 obtain ⟨v,he,ho,hb⟩:=h
 rw [ht] at ho
 obtain ⟨g,c,hv,_,_⟩:=World.ownsRow.form ho (by simp)
 subst hv
 have hc:=World.ownsRow.cells (g:=g) ho rfl
 exact ⟨g,c,he,hb,hc 0 _ rfl,hc 1 _ rfl,hc 2 _ rfl,hc 3 _ rfl,hc 4 _ rfl,hc 5 _ rfl⟩
theorem Qo8 (a b:ByteArray) (w:World) (hs:a.size+b.size<maxLen) :
  Calls Tryz.prog 141 #[.string a,.string b] w fun e w'=>e = .returned (.bool (Qf9 a b))∧Below w.heap.size w w':=by
 have HA:=hQ (show a.size<maxLen from by omega)
 have HB:=hQ (show b.size<maxLen from by omega)
 have HS:=hQ (show (a ++ b).size≤maxLen from by rw [ByteArray.size_append];omega)
 unfold maxLen at hs
 by_cases h1:Qap (suf a 0)=0
 ·have h1':(((Qap (suf a 0):Nat):Int)==0)=true:=by simp [h1]
  have HF:=hQ (show Qf9 a b=false from by unfold Qf9;simp [h1])
  clear h1
  go_enter Tryz.func141,Tryz.ntmps141
  go_wp2_with (go_at_call 129;((with_reducible refine (Qa1 a _ HA.out).mono ?_);rintro e w1 ⟨rfl,hb1⟩;have W1:=hQ hb1;clear hb1))
  go_ret
  exact ⟨Qai HF.out.symm,W1.out⟩
 ·by_cases h2:Qap (suf b 0)=0
  ·have h1':(((Qap (suf a 0):Nat):Int)==0)=false:=by simp;omega
   have h2':(((Qap (suf b 0):Nat):Int)==0)=true:=by simp [h2]
   have HF:=hQ (show Qf9 a b=false from by unfold Qf9;simp [h2])
   clear h1 h2
   go_enter Tryz.func141,Tryz.ntmps141
   go_wp2_with (first | (go_at_call 129;((with_reducible refine (Qa1 a _ HA.out).mono ?_);rintro e w1 ⟨rfl,hb1⟩;have W1:=hQ hb1;clear hb1)) | (go_at_call 129;((with_reducible refine (Qa1 b _ HB.out).mono ?_);rintro e w2 ⟨rfl,hb2⟩;have W2:=hQ hb2;clear hb2)))
   go_ret
   exact ⟨Qai HF.out.symm,W1.out.trans (W2.out.mono W1.out.size)⟩
  ·have h1':(((Qap (suf a 0):Nat):Int)==0)=false:=by simp;omega
   have h2':(((Qap (suf b 0):Nat):Int)==0)=false:=by simp;omega
   have H1:=hQ h1
   have H2:=hQ h2
   clear h1 h2
   by_cases he:(Qbj (a ++ b)).e=0
   ·have HE:=hQ he
    have he':((((Qbj (a ++ b)).e:Nat):Int) != 0)=false:=by simp [he]
    clear he
    by_cases hl:(Qbj (a ++ b)).toks.length=2
    ·obtain ⟨⟨k0,l0,x0⟩,⟨k1,l1,x1⟩,ht⟩:∃ t u,(Qbj (a ++ b)).toks = [t,u]:=by
      match h:(Qbj (a ++ b)).toks,hl with
      | [t,u],_=>exact ⟨t,u,rfl⟩
     have HT:=hQ ht
     clear hl ht
     by_cases ht0:bl (Qbj (a ++ b)).tail = []
     ·have gt:=Quj ht0
      by_cases hx0:bl x0=bl a
      ·have gx0:=Zhk hx0
       by_cases hl0:bl l0 = []
       ·have gl0:=Quj hl0
        by_cases hx1:bl x1=bl b
        ·have gx1:=Zhk hx1
         by_cases hl1:bl l1 = []
         ·have gl1:=Quj hl1
          have HF:=hQ (Zdm H1.out H2.out HT.out HE.out ⟨hl0,hx0,hl1,hx1⟩)
          go_enter Tryz.func141,Tryz.ntmps141
          go_wp2_with (first | (go_at_call 129;((with_reducible refine (Qa1 a _ HA.out).mono ?_);rintro e w1 ⟨rfl,hb1⟩;have W1:=hQ hb1;clear hb1)) | (go_at_call 129;((with_reducible refine (Qa1 b _ HB.out).mono ?_);rintro e w2 ⟨rfl,hb2⟩;have W2:=hQ hb2;clear hb2)) | (go_at_call 182;refine (Qja (a ++ b) _ HS.out HT.out).mono ?_;rintro e w3 ⟨g,c,rfl,hb3,c0,c1,c2,c3,c4,c5⟩;have W3:=hQ hb3;clear hb3))
          go_ret
          exact ⟨Qai HF.out.symm,(W1.out.trans (W2.out.mono W1.out.size)).trans (W3.out.mono (xQ W1.out.size W2.out.size))⟩
         ·have gl1:=Zdn hl1
          have HF:=hQ (Qit H1.out H2.out HT.out (fun h=>hl1 h.2.2.1))
          go_enter Tryz.func141,Tryz.ntmps141
          go_wp2_with (first | (go_at_call 129;((with_reducible refine (Qa1 a _ HA.out).mono ?_);rintro e w1 ⟨rfl,hb1⟩;have W1:=hQ hb1;clear hb1)) | (go_at_call 129;((with_reducible refine (Qa1 b _ HB.out).mono ?_);rintro e w2 ⟨rfl,hb2⟩;have W2:=hQ hb2;clear hb2)) | (go_at_call 182;refine (Qja (a ++ b) _ HS.out HT.out).mono ?_;rintro e w3 ⟨g,c,rfl,hb3,c0,c1,c2,c3,c4,c5⟩;have W3:=hQ hb3;clear hb3))
          go_ret
          exact ⟨Qai HF.out.symm,(W1.out.trans (W2.out.mono W1.out.size)).trans (W3.out.mono (xQ W1.out.size W2.out.size))⟩
        ·have gx1:=Zla hx1
         have HF:=hQ (Qit H1.out H2.out HT.out (fun h=>hx1 h.2.2.2))
         go_enter Tryz.func141,Tryz.ntmps141
         go_wp2_with (first | (go_at_call 129;((with_reducible refine (Qa1 a _ HA.out).mono ?_);rintro e w1 ⟨rfl,hb1⟩;have W1:=hQ hb1;clear hb1)) | (go_at_call 129;((with_reducible refine (Qa1 b _ HB.out).mono ?_);rintro e w2 ⟨rfl,hb2⟩;have W2:=hQ hb2;clear hb2)) | (go_at_call 182;refine (Qja (a ++ b) _ HS.out HT.out).mono ?_;rintro e w3 ⟨g,c,rfl,hb3,c0,c1,c2,c3,c4,c5⟩;have W3:=hQ hb3;clear hb3))
         go_ret
         exact ⟨Qai HF.out.symm,(W1.out.trans (W2.out.mono W1.out.size)).trans (W3.out.mono (xQ W1.out.size W2.out.size))⟩
       ·have gl0:=Zdn hl0
        have HF:=hQ (Qit H1.out H2.out HT.out (fun h=>hl0 h.1))
        go_enter Tryz.func141,Tryz.ntmps141
        go_wp2_with (first | (go_at_call 129;((with_reducible refine (Qa1 a _ HA.out).mono ?_);rintro e w1 ⟨rfl,hb1⟩;have W1:=hQ hb1;clear hb1)) | (go_at_call 129;((with_reducible refine (Qa1 b _ HB.out).mono ?_);rintro e w2 ⟨rfl,hb2⟩;have W2:=hQ hb2;clear hb2)) | (go_at_call 182;refine (Qja (a ++ b) _ HS.out HT.out).mono ?_;rintro e w3 ⟨g,c,rfl,hb3,c0,c1,c2,c3,c4,c5⟩;have W3:=hQ hb3;clear hb3))
        go_ret
        exact ⟨Qai HF.out.symm,(W1.out.trans (W2.out.mono W1.out.size)).trans (W3.out.mono (xQ W1.out.size W2.out.size))⟩
      ·have gx0:=Zla hx0
       have HF:=hQ (Qit H1.out H2.out HT.out (fun h=>hx0 h.2.1))
       go_enter Tryz.func141,Tryz.ntmps141
       go_wp2_with (first | (go_at_call 129;((with_reducible refine (Qa1 a _ HA.out).mono ?_);rintro e w1 ⟨rfl,hb1⟩;have W1:=hQ hb1;clear hb1)) | (go_at_call 129;((with_reducible refine (Qa1 b _ HB.out).mono ?_);rintro e w2 ⟨rfl,hb2⟩;have W2:=hQ hb2;clear hb2)) | (go_at_call 182;refine (Qja (a ++ b) _ HS.out HT.out).mono ?_;rintro e w3 ⟨g,c,rfl,hb3,c0,c1,c2,c3,c4,c5⟩;have W3:=hQ hb3;clear hb3))
       go_ret
       exact ⟨Qai HF.out.symm,(W1.out.trans (W2.out.mono W1.out.size)).trans (W3.out.mono (xQ W1.out.size W2.out.size))⟩
     ·have gt:=Zdn ht0
      have HF:=hQ (Qys H1.out H2.out HT.out HE.out ht0)
      go_enter Tryz.func141,Tryz.ntmps141
      go_wp2_with (first | (go_at_call 129;((with_reducible refine (Qa1 a _ HA.out).mono ?_);rintro e w1 ⟨rfl,hb1⟩;have W1:=hQ hb1;clear hb1)) | (go_at_call 129;((with_reducible refine (Qa1 b _ HB.out).mono ?_);rintro e w2 ⟨rfl,hb2⟩;have W2:=hQ hb2;clear hb2)) | (go_at_call 182;refine (Qja (a ++ b) _ HS.out HT.out).mono ?_;rintro e w3 ⟨g,c,rfl,hb3,c0,c1,c2,c3,c4,c5⟩;have W3:=hQ hb3;clear hb3))
      go_ret
      exact ⟨Qai HF.out.symm,(W1.out.trans (W2.out.mono W1.out.size)).trans (W3.out.mono (xQ W1.out.size W2.out.size))⟩
    ·have hl':((((Qbj (a ++ b)).toks.length:Nat):Int) != 2)=true:=by simp;omega
     have HF:=hQ (Zdl H1.out H2.out hl)
     clear hl
     go_enter Tryz.func141,Tryz.ntmps141
     go_wp2_with (first | (go_at_call 129;((with_reducible refine (Qa1 a _ HA.out).mono ?_);rintro e w1 ⟨rfl,hb1⟩;have W1:=hQ hb1;clear hb1)) | (go_at_call 129;((with_reducible refine (Qa1 b _ HB.out).mono ?_);rintro e w2 ⟨rfl,hb2⟩;have W2:=hQ hb2;clear hb2)) | (go_at_call 182;refine (Qm1 (a ++ b) _ HS.out).mono ?_;rintro e w3 ⟨v,rfl,ho,hb3⟩;obtain ⟨A,c,rfl⟩:=Qhe ho;have HO:=hQ ho;have W3:=hQ hb3;clear ho hb3))
     go_ret
     exact ⟨Qai HF.out.symm,(W1.out.trans (W2.out.mono W1.out.size)).trans (W3.out.mono (xQ W1.out.size W2.out.size))⟩
   ·have he':((((Qbj (a ++ b)).e:Nat):Int) != 0)=true:=by simp;omega
    have HF:=hQ (Zdk H1.out H2.out he)
    clear he
    go_enter Tryz.func141,Tryz.ntmps141
    go_wp2_with (first | (go_at_call 129;((with_reducible refine (Qa1 a _ HA.out).mono ?_);rintro e w1 ⟨rfl,hb1⟩;have W1:=hQ hb1;clear hb1)) | (go_at_call 129;((with_reducible refine (Qa1 b _ HB.out).mono ?_);rintro e w2 ⟨rfl,hb2⟩;have W2:=hQ hb2;clear hb2)) | (go_at_call 182;refine (Qm1 (a ++ b) _ HS.out).mono ?_;rintro e w3 ⟨v,rfl,ho,hb3⟩;obtain ⟨A,c,rfl⟩:=Qhe ho;have HO:=hQ ho;have W3:=hQ hb3;clear ho hb3))
    go_ret
    exact ⟨Qai HF.out.symm,(W1.out.trans (W2.out.mono W1.out.size)).trans (W3.out.mono (xQ W1.out.size W2.out.size))⟩
end Go.Proofs.YtclkilljmdkfaaaGreat
