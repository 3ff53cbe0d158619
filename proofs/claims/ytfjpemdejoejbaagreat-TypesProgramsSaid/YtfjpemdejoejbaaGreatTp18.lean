/- Part 18 -/
import Derived.Test.YtfjpemdejoejbaaGreatTp17
set_option maxRecDepth 100000
set_option maxHeartbeats 4000000
namespace Go.Proofs.YtfjpemdejoejbaaGreat
open Go.Proofs.Tryz Go.RowKit
def Qg6(t:Tk)(a:Nat)(w:World)(e:Ending)(w':World):Prop :=
 e = .returned (.agg #[.int .i64 (Qzp t),.int .i64 t.kind,.int .i64 t.e,.int .i64 (iAt t a)])/\Below w.heap.size w w'
section
variable {s:yD} {a:Nat}
theorem Zjv(h0:a<s.size)(ha:Qas s[a].toNat=false):Qbl (suf s a)=⟨0,0,1⟩:=by
 unfold Qbl;rw[Qcb s a h0,xO ha]
theorem Zf3(h0:a<s.size)(ha:Qas s[a].toNat=true)(hl:Qax s[a].toNat=true):Qbl (suf s a)=Qdp (suf s a):=by
 unfold Qbl;rw[Qcb s a h0,xN (by simp[ha]),xO hl]
theorem Zjw(h0:a<s.size)(ha:Qas s[a].toNat=true)(hl:Qax s[a].toNat=false)(hd:Qb8 s[a].toNat=true):Qbl (suf s a)=Qjm (suf s a):=by
 unfold Qbl;rw[Qcb s a h0,xN (by simp[ha]),xN (by simp[hl]),xO hd]
theorem Zf4(h0:a<s.size)(h34:s[a].toNat=34):Qbl (suf s a)=Qc4 1 (suf s (a+1)):=by
 have ha:Qas (34:Nat)=true:=by decide
 have hl:Qax (34:Nat)=false:=by decide
 have hd:Qb8 (34:Nat)=false:=by decide
 unfold Qbl;rw[Qcb s a h0,h34,xN (by rw[ha];decide),xN (by rw[hl];decide),xN (by rw[hd];decide),xO rfl,Qe1]
theorem Zf5(h0:a<s.size)(ha:Qas s[a].toNat=true)(hl:Qax s[a].toNat=false)(hd:Qb8 s[a].toNat=false)(h34:s[a].toNat≠34):Qbl (suf s a)=Qee (suf s a):=by
 unfold Qbl;rw[Qcb s a h0,xN (by simp[ha]),xN (by simp[hl]),xN (by simp[hd]),xN h34]
end
theorem Qr1{c:Int}(h:Qb8 c=true):Qax c=false:=by
 unfold Qb8 at h;unfold Qax Qbx Qik;simp at h |-
 omega
theorem Qr2{c:Int}(h:Qax c=false):Qbx c=false/\Qik c=false:=by
 unfold Qax at h
 simpa using h
theorem Qub{c:Nat}(hp:Qgj c=false)(ha:Qas c=true):c=92\/c=9\/c=10\/c=13:=by
 rw[Qio,hp]at ha;unfold Qef at ha;unfold Qgj at hp;simp at ha hp
 omega
theorem Quc{c:Nat}(hp:Qgj c=true)(h92:c≠92):¬ (c=92\/c=9\/c=10\/c=13):=by
 unfold Qgj at hp;simp at hp
 omega
theorem Qo3{w w1:World}{t:TypeId}(hb:Below (w.heap.size+1) (w.alloc (.cells #[.int .i64 0,.int .i64 0,.int .i64 0,.int .i64 0] t)) w1) :
  w1.cell? ⟨w.heap.size,0,none⟩=some (.int .i64 0)/\w1.cell? ⟨w.heap.size,1,none⟩=some (.int .i64 0)/\w1.cell? ⟨w.heap.size,2,none⟩=some (.int .i64 0)/\w1.cell? ⟨w.heap.size,3,none⟩=some (.int .i64 0) /\
  w1.frozen? ⟨w.heap.size,0,none⟩=false/\w1.frozen? ⟨w.heap.size,1,none⟩=false/\w1.frozen? ⟨w.heap.size,2,none⟩=false/\w1.frozen? ⟨w.heap.size,3,none⟩=false/\w.heap.size<w1.heap.size/\Below w.heap.size w w1:=by
 have hlt:w.heap.size<w1.heap.size:=by have:=hb.size;simp at this;omega
 refine⟨(hb.cell (p:=⟨w.heap.size,0,none⟩) (by simp)).trans (by simp),(hb.cell (p:=⟨w.heap.size,1,none⟩) (by simp)).trans (by simp),(hb.cell (p:=⟨w.heap.size,2,none⟩) (by simp)).trans (by simp),(hb.cell (p:=⟨w.heap.size,3,none⟩) (by simp)).trans (by simp),(hb.frozen (p:=⟨w.heap.size,0,none⟩) (by simp)).trans (by simp),(hb.frozen (p:=⟨w.heap.size,1,none⟩) (by simp)).trans (by simp),(hb.frozen (p:=⟨w.heap.size,2,none⟩) (by simp)).trans (by simp),(hb.frozen (p:=⟨w.heap.size,3,none⟩) (by simp)).trans (by simp),hlt,?_⟩;exact((xC _ w).alloc (xA _) _).trans (hb.mono (by omega))
theorem Zf6(s:yD)(a:Nat)(w:World)(h0:a<s.size)(_hs:s.size<maxLen)(ha:Qas s[a].toNat=false) :
  Calls prog 138 #[.string s,.int .i64 a] w (Qg6 (Qbl (suf s a)) a w):=by
 have HT:=hQ (Nat.le_of_lt _hs);go_enter func138,ntmps138;go_wp2_with (first | (go_at_call 160;refine(Qa8 _ _).mono ?_;rintro e w'⟨rfl,rfl⟩) | (go_at_call 161;refine(Qbq _ _).mono ?_;rintro e w'⟨rfl,rfl⟩) | (go_at_call 162;refine(Qcf _ _).mono ?_;rintro e w'⟨rfl,rfl⟩) | (go_at_call 163;refine(Qbk _ _).mono ?_;rintro e w'⟨rfl,rfl⟩) | (go_at_call 164;refine(Qaz _ _).mono ?_;rintro e w'⟨rfl,rfl⟩) | (go_at_call 166;refine(Qiv _ _ _ h0 HT.out).mono ?_;rintro e w'⟨rfl,rfl⟩))
 exact bodyPost_ret (v:=.agg #[.int .i64 0,.int .i64 0,.int .i64 1,.int .i64 a]) (by simp[results,results138,go_sem]) rfl ⟨Qet 0 0 (Zjv h0 ha) rfl (by omega),(xC _ _).alloc (xA _) _⟩
theorem Zba(s:yD)(a:Nat)(w:World)(h0:a<s.size)(hs:s.size<maxLen)(ha:Qas s[a].toNat=true)(hl:Qax s[a].toNat=false)(hd:Qb8 s[a].toNat=false)(h34:s[a].toNat≠34) :
  Calls prog 138 #[.string s,.int .i64 a] w (Qg6 (Qbl (suf s a)) a w):=by
 have HT:=hQ (Nat.le_of_lt hs);have HK:=hQ (Zf5 h0 ha hl hd h34);have g34:((s[a].toNat:Int)==34)=false:=Qdy h34;obtain⟨hu,hlo⟩:=Qr2 hl;clear h34 hs
 by_cases hz:Qbz (suf s a)=0
 ·have HZ:=hQ (show Qee (suf s a)=⟨0,0,2⟩ from by unfold Qee;rw[xO hz]);go_enter func138,ntmps138;go_wp2_with (first | (go_at_call 160;refine(Qa8 _ _).mono ?_;rintro e w'⟨rfl,rfl⟩) | (go_at_call 161;refine(Qbq _ _).mono ?_;rintro e w'⟨rfl,rfl⟩) | (go_at_call 162;refine(Qcf _ _).mono ?_;rintro e w'⟨rfl,rfl⟩) | (go_at_call 163;refine(Qbk _ _).mono ?_;rintro e w'⟨rfl,rfl⟩) | (go_at_call 164;refine(Qaz _ _).mono ?_;rintro e w'⟨rfl,rfl⟩) | (go_at_call 166;refine(Qiv _ _ _ h0 HT.out).mono ?_;rintro e w'⟨rfl,rfl⟩))
  exact bodyPost_ret (v:=.agg #[.int .i64 0,.int .i64 0,.int .i64 2,.int .i64 a]) (by simp[results,results138,go_sem]) rfl ⟨Qet 0 1 (HK.out.trans HZ.out) rfl (by omega),(xC _ _).alloc (xA _) _⟩
 ·have HZ:=hQ (show Qee (suf s a)=⟨8,Qbz (suf s a),0⟩ from by unfold Qee;rw[xN hz]);have hz':¬ ((Qbz (suf s a):Nat):Int)=0:=by omega
  clear hz;go_enter func138,ntmps138;go_wp2_with (first | (go_at_call 160;refine(Qa8 _ _).mono ?_;rintro e w'⟨rfl,rfl⟩) | (go_at_call 161;refine(Qbq _ _).mono ?_;rintro e w'⟨rfl,rfl⟩) | (go_at_call 162;refine(Qcf _ _).mono ?_;rintro e w'⟨rfl,rfl⟩) | (go_at_call 163;refine(Qbk _ _).mono ?_;rintro e w'⟨rfl,rfl⟩) | (go_at_call 164;refine(Qaz _ _).mono ?_;rintro e w'⟨rfl,rfl⟩) | (go_at_call 166;refine(Qiv _ _ _ h0 HT.out).mono ?_;rintro e w'⟨rfl,rfl⟩))
  exact bodyPost_ret (v:=.agg #[.int .i64 (Qbz (suf s a):Nat),.int .i64 8,.int .i64 0,.int .i64 0]) (by simp[results,results138,go_sem]) rfl ⟨Qey 8 _ (HK.out.trans HZ.out) rfl rfl,(xC _ _).alloc (xA _) _⟩
theorem Zbb(s:yD)(a:Nat)(w:World)(h0:a<s.size)(hs:s.size<maxLen)(ha:Qas s[a].toNat=true)(hl:Qax s[a].toNat=true)(hd:Qb8 s[a].toNat=false)
  (hw:∀ w:World,Calls prog 165 #[.string s,.int .i64 a] w (Qdt s a w)) :
  Calls prog 138 #[.string s,.int .i64 a] w (Qg6 (Qbl (suf s a)) a w):=by
 have HT:=hQ (Nat.le_of_lt hs);have HK:=hQ (Zf3 h0 ha hl);have HW:=hQ hw;have g34:((s[a].toNat:Int)==34)=false:=Qdy (m:=34) (fun h=>by rw[h]at hl;exact absurd hl (by decide));have HU:=hQ (show Qax s[a].toNat=(Qbx s[a].toNat || Qik s[a].toNat) from rfl)
 cases hu:Qbx s[a].toNat
 ·cases hlo:Qik s[a].toNat
  ·exact absurd hl (by rw[HU.out,hu,hlo];decide)
  ·clear hs hw hl;go_enter func138,ntmps138;go_wp2_with (first | (go_at_call 160;refine(Qa8 _ _).mono ?_;rintro e w'⟨rfl,rfl⟩) | (go_at_call 161;refine(Qbq _ _).mono ?_;rintro e w'⟨rfl,rfl⟩) | (go_at_call 162;refine(Qcf _ _).mono ?_;rintro e w'⟨rfl,rfl⟩) | (go_at_call 163;refine(Qbk _ _).mono ?_;rintro e w'⟨rfl,rfl⟩) | (go_at_call 164;refine(Qaz _ _).mono ?_;rintro e w'⟨rfl,rfl⟩) | (go_at_call 166;refine(Qiv _ _ _ h0 HT.out).mono ?_;rintro e w'⟨rfl,rfl⟩) | (go_at_call 165;refine(HW.out _).mono ?_;rintro e w1⟨rfl,hb1⟩;have HI:=hQ (Qo3 (t:=168) (by simpa using hb1));clear hb1;obtain⟨c0,c1,c2,c3,f0,f1,f2,f3,hz,HB⟩:=HI.out;clear HI;have HB:=hQ HB))
   exact bodyPost_ret (v:=.agg #[.int .i64 (Qzp (Qdp (suf s a))),.int .i64 (Qdp (suf s a)).kind,.int .i64 (Qdp (suf s a)).e,.int .i64 (iAt (Qdp (suf s a)) a)]) (by simp[results,results138,go_sem,c0,c1,c2,c3]) rfl ⟨Qvt (by rw[HK.out]) (by rw[HK.out]) (by rw[HK.out]) (by rw[HK.out]),(((HB.out.setCell (by simp) _).setCell (by simp) _).setCell (by simp) _).setCell (by simp) _⟩
 ·cases hlo:Qik s[a].toNat
  all_goals
   clear hs hw hl;go_enter func138,ntmps138;go_wp2_with (first | (go_at_call 160;refine(Qa8 _ _).mono ?_;rintro e w'⟨rfl,rfl⟩) | (go_at_call 161;refine(Qbq _ _).mono ?_;rintro e w'⟨rfl,rfl⟩) | (go_at_call 162;refine(Qcf _ _).mono ?_;rintro e w'⟨rfl,rfl⟩) | (go_at_call 163;refine(Qbk _ _).mono ?_;rintro e w'⟨rfl,rfl⟩) | (go_at_call 164;refine(Qaz _ _).mono ?_;rintro e w'⟨rfl,rfl⟩) | (go_at_call 166;refine(Qiv _ _ _ h0 HT.out).mono ?_;rintro e w'⟨rfl,rfl⟩) | (go_at_call 165;refine(HW.out _).mono ?_;rintro e w1⟨rfl,hb1⟩;have HI:=hQ (Qo3 (t:=168) (by simpa using hb1));clear hb1;obtain⟨c0,c1,c2,c3,f0,f1,f2,f3,hz,HB⟩:=HI.out;clear HI;have HB:=hQ HB))
   exact bodyPost_ret (v:=.agg #[.int .i64 (Qzp (Qdp (suf s a))),.int .i64 (Qdp (suf s a)).kind,.int .i64 (Qdp (suf s a)).e,.int .i64 (iAt (Qdp (suf s a)) a)]) (by simp[results,results138,go_sem,c0,c1,c2,c3]) rfl ⟨Qvt (by rw[HK.out]) (by rw[HK.out]) (by rw[HK.out]) (by rw[HK.out]),(((HB.out.setCell (by simp) _).setCell (by simp) _).setCell (by simp) _).setCell (by simp) _⟩
theorem Zbc(s:yD)(a:Nat)(w:World)(h0:a<s.size)(hs:s.size<maxLen)(h34:s[a].toNat=34) :
  Calls prog 138 #[.string s,.int .i64 a] w (Qg6 (Qbl (suf s a)) a w):=by
 have HK:=hQ (Zf4 h0 h34);have g34:((s[a].toNat:Int)==34)=true:=Qdb h34;have ha:Qas s[a].toNat=true:=by rw[h34];decide
 have hst:=hQ (QuotAt.start s a h0);clear h34;unfold maxLen at hs;go_enter func138,ntmps138;go_wp2_with (first | (go_at_call 160;refine(Qa8 _ _).mono ?_;rintro e w'⟨rfl,rfl⟩) | (go_at_call 161;refine(Qbq _ _).mono ?_;rintro e w'⟨rfl,rfl⟩) | (go_at_call 162;refine(Qcf _ _).mono ?_;rintro e w'⟨rfl,rfl⟩) | (go_at_call 163;refine(Qbk _ _).mono ?_;rintro e w'⟨rfl,rfl⟩) | (go_at_call 164;refine(Qaz _ _).mono ?_;rintro e w'⟨rfl,rfl⟩))
 go_loop [6] (fun x=>∃ (k:Nat),a+1<=k/\k<=s.size/\x = .int .i64 k/\QuotAt s a k) (fun x=>s.size-(intOf x).toNat)
 case atStart=>exact⟨a+1,xA _,h0,by go_num,hst.out⟩
 case round =>
  obtain⟨k,h1,hk,rfl,hrel⟩:=hrel;have HR:=hQ hrel;clear hrel hst
  by_cases hlt:k<s.size
  ·by_cases h34:s[k].toNat=34
   ·have g34':((s[k].toNat:Int)==34)=true:=Qdb h34;have H34:=hQ h34;clear h34;go_wp2;exact bodyPost_ret (v:=.agg #[.int .i64 ((k:Int)+1-(a:Int)),.int .i64 6,.int .i64 0,.int .i64 0]) (by simp[results,results138,go_sem]) rfl ⟨Qey 6 (k-a+1) (HK.out.trans (HR.out.close hlt H34.out)) (by omega) rfl,(xC _ _).alloc (xA _) _⟩
   ·have g34':((s[k].toNat:Int)==34)=false:=Qdy h34;have H34:=hQ h34;clear h34
    cases hal:Qas s[k].toNat
    ·have HS:=hQ (show ¬ (s[k].toNat=92\/s[k].toNat=9\/s[k].toNat=10\/s[k].toNat=13) from fun h=>by rcases h with h | h | h | h <;> (rw[h]at hal;exact absurd hal (by decide)));go_wp2_with (first | (go_at_call 160;refine(Qa8 _ _).mono ?_;rintro e w'⟨rfl,rfl⟩) | (go_at_call 161;refine(Qbq _ _).mono ?_;rintro e w'⟨rfl,rfl⟩) | (go_at_call 162;refine(Qcf _ _).mono ?_;rintro e w'⟨rfl,rfl⟩) | (go_at_call 163;refine(Qbk _ _).mono ?_;rintro e w'⟨rfl,rfl⟩) | (go_at_call 164;refine(Qaz _ _).mono ?_;rintro e w'⟨rfl,rfl⟩))
     exact bodyPost_ret (v:=.agg #[.int .i64 0,.int .i64 0,.int .i64 1,.int .i64 k]) (by simp[results,results138,go_sem]) rfl ⟨Qet (k-a) 0 (HK.out.trans (HR.out.bad hlt H34.out HS.out hal)) rfl (by omega),(xC _ _).alloc (xA _) _⟩
    ·cases hp:Qgj s[k].toNat
     ·have HS:=hQ (Qub hp hal);go_wp2_with (first | (go_at_call 160;refine(Qa8 _ _).mono ?_;rintro e w'⟨rfl,rfl⟩) | (go_at_call 161;refine(Qbq _ _).mono ?_;rintro e w'⟨rfl,rfl⟩) | (go_at_call 162;refine(Qcf _ _).mono ?_;rintro e w'⟨rfl,rfl⟩) | (go_at_call 163;refine(Qbk _ _).mono ?_;rintro e w'⟨rfl,rfl⟩) | (go_at_call 164;refine(Qaz _ _).mono ?_;rintro e w'⟨rfl,rfl⟩))
      exact bodyPost_ret (v:=.agg #[.int .i64 0,.int .i64 0,.int .i64 2,.int .i64 a]) (by simp[results,results138,go_sem]) rfl ⟨Qet 0 1 (HK.out.trans (HR.out.stop hlt H34.out HS.out)) rfl (by omega),(xC _ _).alloc (xA _) _⟩
     ·by_cases h92:s[k].toNat=92
      ·have g92:((s[k].toNat:Int)==92)=true:=Qdb h92;have HS:=hQ (show s[k].toNat=92\/s[k].toNat=9\/s[k].toNat=10\/s[k].toNat=13 from .inl h92);clear h92;go_wp2_with (first | (go_at_call 160;refine(Qa8 _ _).mono ?_;rintro e w'⟨rfl,rfl⟩) | (go_at_call 161;refine(Qbq _ _).mono ?_;rintro e w'⟨rfl,rfl⟩) | (go_at_call 162;refine(Qcf _ _).mono ?_;rintro e w'⟨rfl,rfl⟩) | (go_at_call 163;refine(Qbk _ _).mono ?_;rintro e w'⟨rfl,rfl⟩) | (go_at_call 164;refine(Qaz _ _).mono ?_;rintro e w'⟨rfl,rfl⟩))
       exact bodyPost_ret (v:=.agg #[.int .i64 0,.int .i64 0,.int .i64 2,.int .i64 a]) (by simp[results,results138,go_sem]) rfl ⟨Qet 0 1 (HK.out.trans (HR.out.stop hlt H34.out HS.out)) rfl (by omega),(xC _ _).alloc (xA _) _⟩
      ·have g92:((s[k].toNat:Int)==92)=false:=Qdy h92;have HS:=hQ (Quc hp h92);clear h92;go_wp2_with (first | (go_at_call 160;refine(Qa8 _ _).mono ?_;rintro e w'⟨rfl,rfl⟩) | (go_at_call 161;refine(Qbq _ _).mono ?_;rintro e w'⟨rfl,rfl⟩) | (go_at_call 162;refine(Qcf _ _).mono ?_;rintro e w'⟨rfl,rfl⟩) | (go_at_call 163;refine(Qbk _ _).mono ?_;rintro e w'⟨rfl,rfl⟩) | (go_at_call 164;refine(Qaz _ _).mono ?_;rintro e w'⟨rfl,rfl⟩))
       go_round
       case rel=>exact⟨k+1,by omega,by omega,by go_num,HR.out.next hlt H34.out HS.out hal⟩
       case measure=>simp[intOf];omega
  ·go_wp2;exact bodyPost_ret (v:=.agg #[.int .i64 0,.int .i64 0,.int .i64 2,.int .i64 a]) (by simp[results,results138,go_sem]) rfl ⟨Qet 0 1 (HK.out.trans (HR.out.done hlt)) rfl (by omega),(xC _ _).alloc (xA _) _⟩
theorem Zf7{s:yD}{a k:Nat}(h0:a<s.size)(hn:Qdw (suf s a)+a=k)(h1:a+1<k)(h48:s[a].toNat=48):Qjm (suf s a)=⟨0,0,2⟩:=by
 unfold Qjm;rw[Qcb s a h0,xO ⟨by omega,h48⟩]
theorem Zf8{s:yD}{a k:Nat}(h0:a<s.size)(hn:Qdw (suf s a)+a=k)(h1:¬ (a+1<k/\s[a].toNat=48))(h15:a+15<k):Qjm (suf s a)=⟨0,0,3⟩:=by
 unfold Qjm;rw[Qcb s a h0,xN (by omega),xO (by omega)]
theorem Zib{s:yD}{a k:Nat}(h0:a<s.size)(hn:Qdw (suf s a)+a=k)(h1:¬ (a+1<k/\s[a].toNat=48))(h15:¬ a+15<k):Qjm (suf s a)=⟨5,k-a,0⟩:=by
 unfold Qjm;rw[Qcb s a h0,xN (by omega),xN (by omega),show Qdw (suf s a)=k-a from by omega]
theorem Zf9(s:yD)(a:Nat)(w:World)(h0:a<s.size)(hs:s.size<maxLen)(ha:Qas s[a].toNat=true)(hl:Qax s[a].toNat=false)(hd:Qb8 s[a].toNat=true) :
  Calls prog 138 #[.string s,.int .i64 a] w (Qg6 (Qbl (suf s a)) a w):=by
 have HK:=hQ (Zjw h0 ha hl hd);have g34:((s[a].toNat:Int)==34)=false:=Qdy (m:=34) (fun h=>by rw[h]at hd;exact absurd hd (by decide));have hst:=hQ (RunAt.start Qb8 s a (Nat.le_of_lt h0));clear hl;unfold maxLen at hs;go_enter func138,ntmps138;go_wp2_with (first | (go_at_call 160;refine(Qa8 _ _).mono ?_;rintro e w'⟨rfl,rfl⟩) | (go_at_call 161;refine(Qbq _ _).mono ?_;rintro e w'⟨rfl,rfl⟩) | (go_at_call 162;refine(Qcf _ _).mono ?_;rintro e w'⟨rfl,rfl⟩) | (go_at_call 163;refine(Qbk _ _).mono ?_;rintro e w'⟨rfl,rfl⟩) | (go_at_call 164;refine(Qaz _ _).mono ?_;rintro e w'⟨rfl,rfl⟩))
 go_loop [7] (fun x=>∃ (k:Nat),a<=k/\k<=s.size/\x = .int .i64 k/\RunAt Qb8 s a k) (fun x=>s.size-(intOf x).toNat)
 case atStart=>exact⟨a,xA _,Nat.le_of_lt h0,rfl,hst.out⟩
 case round =>
  obtain⟨k,hak,hk,rfl,hrel⟩:=hrel;have HR:=hQ hrel;clear hrel hst
  by_cases hgo:∃ h:k<s.size,Qb8 s[k].toNat=true
  ·obtain⟨hlt,hd'⟩:=hgo;go_wp2_with (first | (go_at_call 160;refine(Qa8 _ _).mono ?_;rintro e w'⟨rfl,rfl⟩) | (go_at_call 161;refine(Qbq _ _).mono ?_;rintro e w'⟨rfl,rfl⟩) | (go_at_call 162;refine(Qcf _ _).mono ?_;rintro e w'⟨rfl,rfl⟩) | (go_at_call 163;refine(Qbk _ _).mono ?_;rintro e w'⟨rfl,rfl⟩) | (go_at_call 164;refine(Qaz _ _).mono ?_;rintro e w'⟨rfl,rfl⟩))
   go_round
   case rel=>exact⟨k+1,by omega,by omega,by go_num,HR.out.next hlt hd'⟩
   case measure=>simp[intOf];omega
  ·have HN:Hid (Qdw (suf s a)+a=k):=by
    unfold Qdw
    by_cases hlt:k<s.size
    ·exact hQ (HR.out.stop hlt (by simpa using fun h=>hgo ⟨hlt,h⟩))
    ·exact hQ (HR.out.done hlt)
   by_cases h1:a+1<k
   ·have hgt:1<(k:Int)-(a:Int):=by omega
    by_cases h48:s[a].toNat=48
    ·have h48':((s[a].toNat:Int)==48)=true:=Qdb h48;have HX:=hQ (HK.out.trans (Zf7 h0 HN.out h1 h48));clear h48;by_cases hlt:k<s.size
     all_goals
      first | (have hd':Qb8 s[k].toNat=false:=by simpa using fun h=>hgo ⟨hlt,h⟩) | skip
      clear hgo;go_wp2_with (first | (go_at_call 160;refine(Qa8 _ _).mono ?_;rintro e w'⟨rfl,rfl⟩) | (go_at_call 161;refine(Qbq _ _).mono ?_;rintro e w'⟨rfl,rfl⟩) | (go_at_call 162;refine(Qcf _ _).mono ?_;rintro e w'⟨rfl,rfl⟩) | (go_at_call 163;refine(Qbk _ _).mono ?_;rintro e w'⟨rfl,rfl⟩) | (go_at_call 164;refine(Qaz _ _).mono ?_;rintro e w'⟨rfl,rfl⟩))
      exact bodyPost_ret (v:=.agg #[.int .i64 0,.int .i64 0,.int .i64 2,.int .i64 a]) (by simp[results,results138,go_sem]) rfl ⟨Qet 0 1 HX.out rfl (by omega),(xC _ _).alloc (xA _) _⟩
    ·have h48':((s[a].toNat:Int)==48)=false:=Qdy h48
     by_cases h15:a+15<k
     ·have hgt15:15<(k:Int)-(a:Int):=by omega
      have HX:=hQ (HK.out.trans (Zf8 h0 HN.out (fun h=>h48 h.2) h15));clear h48;by_cases hlt:k<s.size
      all_goals
       first | (have hd':Qb8 s[k].toNat=false:=by simpa using fun h=>hgo ⟨hlt,h⟩) | skip
       clear hgo;go_wp2_with (first | (go_at_call 160;refine(Qa8 _ _).mono ?_;rintro e w'⟨rfl,rfl⟩) | (go_at_call 161;refine(Qbq _ _).mono ?_;rintro e w'⟨rfl,rfl⟩) | (go_at_call 162;refine(Qcf _ _).mono ?_;rintro e w'⟨rfl,rfl⟩) | (go_at_call 163;refine(Qbk _ _).mono ?_;rintro e w'⟨rfl,rfl⟩) | (go_at_call 164;refine(Qaz _ _).mono ?_;rintro e w'⟨rfl,rfl⟩))
       exact bodyPost_ret (v:=.agg #[.int .i64 0,.int .i64 0,.int .i64 3,.int .i64 a]) (by simp[results,results138,go_sem]) rfl ⟨Qet 0 2 HX.out rfl (by omega),(xC _ _).alloc (xA _) _⟩
     ·have hgt15:¬ 15<(k:Int)-(a:Int):=by omega
      have HX:=hQ (HK.out.trans (Zib h0 HN.out (fun h=>h48 h.2) h15));clear h48;by_cases hlt:k<s.size
      all_goals
       first | (have hd':Qb8 s[k].toNat=false:=by simpa using fun h=>hgo ⟨hlt,h⟩) | skip
       clear hgo;go_wp2_with (first | (go_at_call 160;refine(Qa8 _ _).mono ?_;rintro e w'⟨rfl,rfl⟩) | (go_at_call 161;refine(Qbq _ _).mono ?_;rintro e w'⟨rfl,rfl⟩) | (go_at_call 162;refine(Qcf _ _).mono ?_;rintro e w'⟨rfl,rfl⟩) | (go_at_call 163;refine(Qbk _ _).mono ?_;rintro e w'⟨rfl,rfl⟩) | (go_at_call 164;refine(Qaz _ _).mono ?_;rintro e w'⟨rfl,rfl⟩))
       exact bodyPost_ret (v:=.agg #[.int .i64 ((k:Int)-(a:Int)),.int .i64 5,.int .i64 0,.int .i64 0]) (by simp[results,results138,go_sem]) rfl ⟨Qey 5 (k-a) HX.out (by omega) rfl,(xC _ _).alloc (xA _) _⟩
   ·have hgt:¬ 1<(k:Int)-(a:Int):=by omega
    have hgt15:¬ 15<(k:Int)-(a:Int):=by omega
    have HX:=hQ (HK.out.trans (Zib h0 HN.out (fun h=>h1 h.1) (by omega)));by_cases hlt:k<s.size
    all_goals
     first | (have hd':Qb8 s[k].toNat=false:=by simpa using fun h=>hgo ⟨hlt,h⟩) | skip
     clear hgo;go_wp2_with (first | (go_at_call 160;refine(Qa8 _ _).mono ?_;rintro e w'⟨rfl,rfl⟩) | (go_at_call 161;refine(Qbq _ _).mono ?_;rintro e w'⟨rfl,rfl⟩) | (go_at_call 162;refine(Qcf _ _).mono ?_;rintro e w'⟨rfl,rfl⟩) | (go_at_call 163;refine(Qbk _ _).mono ?_;rintro e w'⟨rfl,rfl⟩) | (go_at_call 164;refine(Qaz _ _).mono ?_;rintro e w'⟨rfl,rfl⟩))
     exact bodyPost_ret (v:=.agg #[.int .i64 ((k:Int)-(a:Int)),.int .i64 5,.int .i64 0,.int .i64 0]) (by simp[results,results138,go_sem]) rfl ⟨Qey 5 (k-a) HX.out (by omega) rfl,(xC _ _).alloc (xA _) _⟩
theorem Zga(s:yD)(a:Nat)(w:World)(h0:a<s.size)(hs:s.size<maxLen)
  (hw:Qax s[a].toNat=true->∀ w:World,Calls prog 165 #[.string s,.int .i64 a] w (Qdt s a w)) :
  Calls prog 138 #[.string s,.int .i64 a] w (Qg6 (Qbl (suf s a)) a w):=by
 cases ha:Qas s[a].toNat
 ·exact Zf6 s a w h0 hs ha
 ·cases hl:Qax s[a].toNat
  ·cases hd:Qb8 s[a].toNat
   ·by_cases h34:s[a].toNat=34
    ·exact Zbc s a w h0 hs h34
    ·exact Zba s a w h0 hs ha hl hd h34
   ·exact Zf9 s a w h0 hs ha hl hd
  ·cases hd:Qb8 s[a].toNat
   ·exact Zbb s a w h0 hs ha hl hd (hw hl)
   ·rw[Qr1 hd]at hl;cases hl
theorem Zjx{t:Tk}{a:Nat}(h:t.e≠0):iAt t a=((a+t.n:Nat):Int):=by
 unfold iAt;rw[xN h];omega
theorem Zbe{w w1:World}{base:Nat}{e:TypeId}{size n:Nat}{v:Value}{xs:List Value}(h:w.ownsRow base e size v n xs)(hb:Below w.heap.size w w1):w1.ownsRow base e size v n xs :=
 h.kept (row:=none) ⟨hb.os,hb.tape,hb.output,hb.size,fun k hk _=>hb.block k hk⟩ (by cases h1:v.ownBlock with | none=>exact .inl rfl | some g=>exact .inr (by simp))
def Qak(s:yD)(k:Nat):Nat:=Qan s k-k
theorem Qo4(s:yD)(k:Nat):Qan s k=k+Qak s k:=by
 have:=Qhi s k
 unfold Qak;omega
theorem Qms(s:yD)(k:Nat)(w:World)(hk:k<=s.size)(hs:s.size<=maxLen) :
  Calls prog 167 #[.string s,.int .i64 k] w fun e w'=>e = .returned (.tuple #[.int .i64 (Qak s k:Nat),.int .i64 (Qju s k)])/\w=w':=by
 have h:=Qvn s k w hk hs
 rwa[show((Qan s k:Nat):Int)-(k:Int)=((Qak s k:Nat):Int) from by rw[Qo4];omega]at h
theorem Qud(s:yD)(k n:Nat)(w:World)(h0:k+n<s.size)(hs:s.size<maxLen) :
  Calls prog 138 #[.string s,.int .i64 ((k:Int)+(n:Int))] w (Qg6 (Qbl (suf s (k+n))) (k+n) w):=by
 have h:=Zga s (k+n) w h0 hs (fun hl w=>Zbd s (k+n) w h0 hl hs)
 rwa[show((k+n:Nat):Int)=(k:Int)+(n:Int) from by omega]at h
theorem ScanRel.step{s:yD}{w W3 w':World}{v v':Value}{k:Nat}{acc:List Tok}{o:Obj}
  (h:ScanAt s (Qan s k+(Qbl (suf s (Qan s k))).n) (acc ++ [⟨(Qbl (suf s (Qan s k))).kind,s.extract k (Qan s k),s.extract (Qan s k) (Qan s k+(Qbl (suf s (Qan s k))).n)⟩]))
  (hS:Qan s k=k+Qak s k) (hown:W3.ownsRow w.heap.size 88 3 v acc.length (Qcu acc)) (hb:Below w.heap.size w W3)
  (hown':w'.ownsRow w.heap.size 88 3 v' (acc.length+1) (Qcu acc ++ [.int .i64 (Qbl (suf s (k+Qak s k))).kind,.string (s.extract k (k+Qak s k)),.string (s.extract (k+Qak s k) (k+Qak s k+(Qbl (suf s (k+Qak s k))).n))]))
  (hg:((W3.alloc o).drew).grownBy w' v.ownBlock):ScanRel s w v' (.int .i64 ((k:Int)+(Qak s k:Nat)+((Qbl (suf s (k+Qak s k))).n:Nat))) w':=by
 rw[hS]at h
 refine⟨_,_,?_,h,by rw[Qh5];simpa using hown',?_⟩
 ·rw[show((k+Qak s k+(Qbl (suf s (k+Qak s k))).n:Nat):Int)=(k:Int)+(Qak s k:Nat)+((Qbl (suf s (k+Qak s k))).n:Nat) from by omega]
 ·exact((hb.alloc hb.size o).drew).grown hg (by have:=hb.size;show w.heap.size<=(W3.alloc o).heap.size;rw[xI];omega) (fun j hj=>(hown.lt j hj).1)
theorem Zbf(s:yD)(w:World)(hshort:s.size<=4096) :
  Calls prog 170 #[.string s] w (Qp4 (Qoe s) w):=by
 have HL:=hQ (show s.size<maxLen from by unfold maxLen;omega);have HM:=hQ (Nat.le_of_lt HL.out);obtain⟨i0,hi,hz0,hz1,hz2⟩:=info_parts Qlh;go_enter func170,ntmps170;go_wp2
 go_loopw [6,7] (fun v i wr=>ScanRel s w v i wr) (fun _ i _=>s.size-(intOf i).toNat)
 case atStart=>exact ScanRel.start s w
 case round =>
  obtain⟨k,acc,rfl,hat,hown,hbl⟩:=hrel;have HA:=hQ hat;have hk:=hat.1;have hacc:=hat.2.1;have hge:=Qhi s k;have hle:=Qgp s k hk;have HS:=hQ (Qo4 s k);have hn:k+Qak s k<=s.size:=by rw[<-HS.out];exact hle
  clear hat;have HO:=hQ hown;have HB:=hQ hbl;clear hown hbl
  by_cases hst:k+Qak s k=s.size
  ·have hst':((k:Int)+(Qak s k:Nat)==(s.size:Int))=true:=by simp;omega
   have HD:=hQ (HA.out.done (HS.out.trans hst));have hbad:Qju s k = -1:=Qi4 ⟨rfl,rfl⟩ (.inr (by rw[HS.out];omega));clear hst hge hle;have HE:=hQ (show s.extract k s.size=s.extract k s.size from rfl);go_wp2_with (go_at_call 167;refine(Qms s k _ hk HM.out).mono ?_;rintro e w'⟨rfl,rfl⟩)
   go_quiet (fail)
   go_wp2;exact bodyPost_ret (v:=.tuple #[u6,.string (s.extract k s.size),.int .i64 0,.int .i64 0]) (by simp[results,results170,go_sem]) rfl ⟨_,by rw[HD.out];rfl,by rw[HD.out];exact HO.out,below_drewN HB.out _⟩
  ·have hst':((k:Int)+(Qak s k:Nat)==(s.size:Int))=false:=by simp;omega
   have hlt:k+Qak s k<s.size:=by omega
   have HK:=hQ (show Qan s k<s.size from by rw[HS.out];exact hlt);have HJ:=hQ (show Qan s k≠s.size from by rw[HS.out];exact hst)
   cases ho:Qc7 s k
   ·have hbad:Qju s k = -1:=Qi4 ⟨rfl,ho⟩ (.inl rfl)
    by_cases he:(Qbl (suf s (k+Qak s k))).e=0
    ·have HN:=hQ (HA.out.next HJ.out (by rw[HS.out];exact he));have hlen:=Qlf he;rw[Qb4]at hlen;have he':((((Qbl (suf s (k+Qak s k))).e:Nat):Int) != 0)=false:=by simp[he]
     have hil:Qzp (Qbl (suf s (k+Qak s k)))=(((Qbl (suf s (k+Qak s k))).n:Nat):Int):=by unfold Qzp;rw[xO he]
     clear he hst hge hle ho;go_wp2_with (first | (go_at_call 167;refine(Qms s k _ hk HM.out).mono ?_;rintro e w'⟨rfl,rfl⟩) | (go_at_call 138;refine(Qud s k (Qak s k) _ hlt HL.out).mono ?_;rintro e w1⟨rfl,hb1⟩;have HB1:=hQ hb1;clear hb1))
     have c0:(w1.alloc (.cells #[.int .i64 (Qbl (suf s (k+Qak s k))).n,.int .i64 (Qbl (suf s (k+Qak s k))).kind,.int .i64 (Qbl (suf s (k+Qak s k))).e,.int .i64 (iAt (Qbl (suf s (k+Qak s k))) (k+Qak s k))] 168)).cell? ⟨w1.heap.size,0,none⟩=some (.int .i64 (Qbl (suf s (k+Qak s k))).n):=by simp
     have c1:(w1.alloc (.cells #[.int .i64 (Qbl (suf s (k+Qak s k))).n,.int .i64 (Qbl (suf s (k+Qak s k))).kind,.int .i64 (Qbl (suf s (k+Qak s k))).e,.int .i64 (iAt (Qbl (suf s (k+Qak s k))) (k+Qak s k))] 168)).cell? ⟨w1.heap.size,1,none⟩=some (.int .i64 (Qbl (suf s (k+Qak s k))).kind):=by simp
     have hb3:Below w.heap.size w (w1.alloc (.cells #[.int .i64 (Qbl (suf s (k+Qak s k))).n,.int .i64 (Qbl (suf s (k+Qak s k))).kind,.int .i64 (Qbl (suf s (k+Qak s k))).e,.int .i64 (iAt (Qbl (suf s (k+Qak s k))) (k+Qak s k))] 168)):=(yC HB.out HB1.out).alloc (xQ HB.out.size HB1.out.size) _;have hown3:(w1.alloc (.cells #[.int .i64 (Qbl (suf s (k+Qak s k))).n,.int .i64 (Qbl (suf s (k+Qak s k))).kind,.int .i64 (Qbl (suf s (k+Qak s k))).e,.int .i64 (iAt (Qbl (suf s (k+Qak s k))) (k+Qak s k))] 168)).ownsRow w.heap.size 88 3 u6 acc.length (Qcu acc):=(Zbe HO.out HB1.out).alloc _;have ag:u6.ownBlock≠some w1.heap.size:=fun e=>by have:=(HO.out.lt _ e).2;have:=HB1.out.size;omega
     have lg:w1.heap.size<(w1.alloc (.cells #[.int .i64 (Qbl (suf s (k+Qak s k))).n,.int .i64 (Qbl (suf s (k+Qak s k))).kind,.int .i64 (Qbl (suf s (k+Qak s k))).e,.int .i64 (iAt (Qbl (suf s (k+Qak s k))) (k+Qak s k))] 168)).heap.size:=by simp
     generalize w1.alloc (.cells #[.int .i64 (Qbl (suf s (k+Qak s k))).n,.int .i64 (Qbl (suf s (k+Qak s k))).kind,.int .i64 (Qbl (suf s (k+Qak s k))).e,.int .i64 (iAt (Qbl (suf s (k+Qak s k))) (k+Qak s k))] 168)=W3 at c0 c1 hb3 hown3 lg |-;generalize w1.heap.size=g1 at c0 c1 ag lg |-;have hsz3:=hb3.size;have h63:=hQ (show acc.length+1<=maxLen from by unfold maxLen;omega);have hby:=hQ (show(acc.length+1)*40<=140737488355328 from by omega);have p0:(0:Int)<=(k:Int):=by omega
     have p1:(0:Int)<=(k:Int)+(Qak s k:Nat):=by omega
     have p2:(0:Int)<=(k:Int)+(Qak s k:Nat)+((Qbl (suf s (k+Qak s k))).n:Nat):=by omega
     have q1:(k:Int)<=(k:Int)+(Qak s k:Nat):=by omega
     have q2:(k:Int)+(Qak s k:Nat)<=(k:Int)+(Qak s k:Nat)+((Qbl (suf s (k+Qak s k))).n:Nat):=by omega
     have r1:(k:Int)+(Qak s k:Nat)<=(s.size:Int):=by omega
     have r2:(k:Int)+(Qak s k:Nat)+((Qbl (suf s (k+Qak s k))).n:Nat)<=(s.size:Int):=by omega
     have t1:((k:Int)+(Qak s k:Nat)).toNat=k+Qak s k:=by omega
     have t2:((k:Int)+(Qak s k:Nat)+((Qbl (suf s (k+Qak s k))).n:Nat)).toNat=k+Qak s k+(Qbl (suf s (k+Qak s k))).n:=by omega
     have w1':IntKind.i64.wrap ((k:Int)+(Qak s k:Nat))=(k:Int)+(Qak s k:Nat):=IntWalk.i64_in _ (by omega);have w2':IntKind.i64.wrap ((k:Int)+(Qak s k:Nat)+((Qbl (suf s (k+Qak s k))).n:Nat))=(k:Int)+(Qak s k:Nat)+((Qbl (suf s (k+Qak s k))).n:Nat):=IntWalk.i64_in _ (by omega)
     go_region_held3 (fun w'=>w'.cell? ⟨g1,0,none⟩=some (.int .i64 (Qbl (suf s (k+Qak s k))).n)/\w'.cell? ⟨g1,1,none⟩=some (.int .i64 (Qbl (suf s (k+Qak s k))).kind)) (first | go_keep | (go_split_ands;refine⟨?_,?_⟩ <;> (rw[hgrow.cell_far _ (xE lg (by simp)) (Ne.symm ag)];assumption))) ((refine step_append_lies _ (by rfl) _ _ _ (by rfl) w.heap.size 88 i0 _ 3 40 underlying84 hi hz0 hz1 hz2 rfl (by decide) u6 acc.length (Qcu acc) (by rfl) ((hown3.alloc _).drew) ⟨W3.heap.size,0,none⟩ 1 1 [.int .i64 (Qbl (suf s (k+Qak s k))).kind,.string (s.extract k (k+Qak s k)),.string (s.extract (k+Qak s k) (k+Qak s k+(Qbl (suf s (k+Qak s k))).n))] (by rfl) (by rfl) (xM (cs:=#[.int .i64 (Qbl (suf s (k+Qak s k))).kind,.string (s.extract k (k+Qak s k)),.string (s.extract (k+Qak s k) (k+Qak s k+(Qbl (suf s (k+Qak s k))).n))]) (t:=88) (fr:=(0,0)) (xH W3 _)) (Qm2 _ _ _) (by decide) h63.out hby.out (xQ hsz3 (by simp)) (W3.heap.size+1) (by simp) ?_;intro gg cap w4 hown4 hgrow hat4 hlt4))
     have HV:=hQ hown4;have HG:=hQ hgrow;have H3:=hQ hown3;have HB3:=hQ hb3;clear hown4 hgrow p0 p1 p2 q1 q2 r1 r2 t1 t2 w1' w2' hat4 hlt4 hown3 hb3 hil c0 c1 ag lg hsz3
     go_split_ands
     go_wp2;go_roundw
     case rel=>exact ScanRel.step HN.out HS.out H3.out HB3.out HV.out HG.out
     case measure=>simp[intOf];omega
    ·have HD:=hQ (HA.out.stop HJ.out (by rw[HS.out];exact he));have he':((((Qbl (suf s (k+Qak s k))).e:Nat):Int) != 0)=true:=by simp;omega
     have HX:=hQ (Zjx (a:=k+Qak s k) he);have hmax:(Qbl (suf s (k+Qak s k))).n<=s.size:=by have:=Qm0 he;rw[Qb4]at this;omega
     clear he hst hge hle ho;go_wp2_with (first | (go_at_call 167;refine(Qms s k _ hk HM.out).mono ?_;rintro e w'⟨rfl,rfl⟩) | (go_at_call 138;refine(Qud s k (Qak s k) _ hlt HL.out).mono ?_;rintro e w1⟨rfl,hb1⟩;have HB1:=hQ hb1;clear hb1))
     go_quiet (fail)
     go_wp2;exact bodyPost_ret (v:=.tuple #[.slice none 0 0,.string ⟨#[]⟩,.int .i64 (iAt (Qbl (suf s (k+Qak s k))) (k+Qak s k)),.int .i64 (Qbl (suf s (k+Qak s k))).e]) (by simp[results,results170,go_sem]) rfl ⟨_,by rw[HD.out,HS.out,HX.out];rfl,by rw[HD.out];exact World.ownsRow_nil _ _ _ _,(below_drewN ((yC HB.out HB1.out).alloc (xQ HB.out.size HB1.out.size) _) _)⟩
   ·have hbad:Qju s k=((k+Qak s k:Nat):Int):=Qq8 ⟨HS.out,ho⟩ hlt;have HT:=hQ (Qu7 ho HK.out);have HD:=hQ (HA.out.stop HJ.out (by rw[HT.out];decide));clear hst hge hle ho;go_wp2_with (go_at_call 167;refine(Qms s k _ hk HM.out).mono ?_;rintro e w'⟨rfl,rfl⟩)
    exact bodyPost_ret (v:=.tuple #[.slice none 0 0,.string ⟨#[]⟩,.int .i64 ((k:Int)+(Qak s k:Nat)),.int .i64 1]) (by simp[results,results170,go_sem]) rfl ⟨_,by rw[HD.out,HT.out,HS.out];rfl,by rw[HD.out];exact World.ownsRow_nil _ _ _ _,HB.out⟩
theorem Qnk(s:yD)(w:World)(hs:s.size<=maxLen) :
  Calls prog 145 #[.string s] w (Qp4 (Qbp s) w):=by
 unfold maxLen at hs
 by_cases hlong:4096<s.size
 ·have HR:=hQ (show Qbp s=⟨[],ByteArray.empty,4096,3⟩ from by unfold Qbp;rw[xO hlong]);go_enter func145,ntmps145;go_wp2;exact bodyPost_ret (v:=.tuple #[.slice none 0 0,.string ⟨#[]⟩,.int .i64 4096,.int .i64 3]) (by simp[results,results145,go_sem]) rfl ⟨_,by rw[HR.out];rfl,by rw[HR.out];exact World.ownsRow_nil _ _ _ _,xC _ _⟩
 ·have HR:=hQ (show Qbp s=Qoe s from by unfold Qbp;rw[xN hlong]);have hshort:s.size<=4096:=by omega
  go_enter func145,ntmps145;go_wp2_with (go_at_call 170;refine(Zbf s _ hshort).mono ?_;rintro e w1⟨v,rfl,ho,hb⟩;have HO:=hQ ho;have HB:=hQ hb;clear ho hb)
  exact bodyPost_ret (v:=.tuple #[v,.string (Qoe s).tail,.int .i64 (Qoe s).place,.int .i64 (Qoe s).e]) (by simp[results,results145,go_sem]) rfl ⟨_,by rw[HR.out],by rw[HR.out];exact HO.out,HB.out⟩
theorem Qnl(s:yD)(w:World)(h0:0<s.size)(hs:s.size<maxLen) :
  Calls prog 138 #[.string s,.int .i64 0] w (Qg6 (Qbl (suf s 0)) 0 w):=by
 have h:=Qud s 0 0 w h0 hs
 simpa using h
theorem Qvu{l:List UInt8}(ha:Qas (at' l 0)=true)(hl:Qax (at' l 0)=false)(hd:Qb8 (at' l 0)=false)(h34:at' l 0≠34)(h61:at' l 0≠61)(ho:Qe6 (at' l 0)=false):Qbl l=⟨0,0,2⟩:=by
 have hs:Qbz l=0:=by unfold Qbz;rw[xN h61,xN (by simp[ho])]
 unfold Qbl;rw[xN (by simp[ha]),xN (by simp[hl]),xN (by simp[hd]),xN h34];unfold Qee;rw[xO hs]
theorem Zbg{l:List UInt8}(h:Qef (at' l 0)=true):Qbl l=⟨0,0,2⟩:=by
 have:at' l 0=9\/at' l 0=10\/at' l 0=13\/at' l 0=32:=by
  unfold Qef at h;simp at h
  omega
 rcases this with h | h | h | h <;> exact Qvu (by rw[h];decide) (by rw[h];decide) (by rw[h];decide) (by rw[h];decide) (by rw[h];decide) (by rw[h];decide)
theorem Zgg{l:List UInt8}(h:at' l 0=35):Qbl l=⟨0,0,2⟩ :=
 Qvu (by rw[h];decide) (by rw[h];decide) (by rw[h];decide) (by rw[h];decide) (by rw[h];decide) (by rw[h];decide)
theorem Qlo{l:List UInt8}(h:(Qbl l).e≠0):Qap l=0:=by
 unfold Qap
 split
 ·rfl
 ·rw[xO (.inl h)]
theorem Qa4(s:yD)(w:World)(hs:s.size<maxLen) :
  Calls prog 90 #[.string s] w fun e w'=>e = .returned (.int .i64 (Qap (suf s 0)))/\Below w.heap.size w w':=by
 have HS:=hQ hs
 by_cases h0:0<s.size
 ·have hne:s.toList.isEmpty=false:=by
   have:=Qrh h0
   rw[Qdz]at this
   simpa using this
  have HN:=hQ (Qrh h0);have HL:=hQ (Qb4 s 0);have H0:=hQ (Qes s 0 h0);unfold maxLen at hs
  cases hw:Qef s[0].toNat
  ·by_cases h35:s[0].toNat=35
   ·have g35:((s[0].toNat:Int)==35)=true:=Qdb h35;have HC:=hQ (Qlo (l:=suf s 0) (by rw[Zgg (H0.out.trans h35)];decide));clear h35;go_enter func90,ntmps90;go_wp2_with (go_at_call 137;refine(Qdr _ _).mono ?_;rintro e w'⟨rfl,rfl⟩)
    go_ret;exact⟨Qcl (by rw[HC.out];rfl),xC _ _⟩
   ·have g35:((s[0].toNat:Int)==35)=false:=Qdy h35;clear h35
    by_cases he:(Qbl (suf s 0)).e=0
    ·have he':((((Qbl (suf s 0)).e:Nat):Int) != 0)=false:=by simp[he]
     have hil:Qzp (Qbl (suf s 0))=(((Qbl (suf s 0)).n:Nat):Int):=by unfold Qzp;rw[xO he]
     by_cases hn:(Qbl (suf s 0)).n=s.size
     ·have hn':((((Qbl (suf s 0)).n:Nat):Int) != (s.size:Int))=false:=by simp[hn]
      have HC:=hQ (show Qap (suf s 0)=(Qbl (suf s 0)).kind from by unfold Qap;rw[xN HN.out,xN (by rw[HL.out,he,hn];simp)]);clear he hn;go_enter func90,ntmps90;go_wp2_with (first | (go_at_call 137;refine(Qdr _ _).mono ?_;rintro e w'⟨rfl,rfl⟩) | (go_at_call 138;refine(Qnl s _ h0 HS.out).mono ?_;rintro e w1⟨rfl,hb1⟩;have HB:=hQ hb1;clear hb1))
      go_ret;exact⟨Qcl (by rw[HC.out]),HB.out.alloc HB.out.size _⟩
     ·have hn':((((Qbl (suf s 0)).n:Nat):Int) != (s.size:Int))=true:=by simp;omega
      have HC:=hQ (show Qap (suf s 0)=0 from by unfold Qap;rw[xN HN.out,xO (.inr (by rw[HL.out];exact hn))]);clear he hn;go_enter func90,ntmps90;go_wp2_with (first | (go_at_call 137;refine(Qdr _ _).mono ?_;rintro e w'⟨rfl,rfl⟩) | (go_at_call 138;refine(Qnl s _ h0 HS.out).mono ?_;rintro e w1⟨rfl,hb1⟩;have HB:=hQ hb1;clear hb1))
      go_ret;exact⟨Qcl (by rw[HC.out];rfl),HB.out.alloc HB.out.size _⟩
    ·have he':((((Qbl (suf s 0)).e:Nat):Int) != 0)=true:=by simp;omega
     have HC:=hQ (Qlo he);clear he;go_enter func90,ntmps90;go_wp2_with (first | (go_at_call 137;refine(Qdr _ _).mono ?_;rintro e w'⟨rfl,rfl⟩) | (go_at_call 138;refine(Qnl s _ h0 HS.out).mono ?_;rintro e w1⟨rfl,hb1⟩;have HB:=hQ hb1;clear hb1))
     go_ret;exact⟨Qcl (by rw[HC.out];rfl),HB.out.alloc HB.out.size _⟩
  ·have HC:=hQ (Qlo (l:=suf s 0) (by rw[Zbg (by rw[H0.out];exact hw)];decide));go_enter func90,ntmps90;go_wp2_with (go_at_call 137;refine(Qdr _ _).mono ?_;rintro e w'⟨rfl,rfl⟩)
   go_ret;exact⟨Qcl (by rw[HC.out];rfl),xC _ _⟩
 ·have he:s.toList.isEmpty=true:=by rw[<-Qdz,Qp9 (by omega)];rfl
  have HC:=hQ (show Qap (suf s 0)=0 from by rw[Qp9 (by omega)];rfl);go_enter func90,ntmps90;go_wp2;go_ret;exact⟨Qcl (by rw[HC.out];rfl),xC _ _⟩
theorem Zht{k0 k1:Int}{l0 x0 l1 x1 a b:yD}(h:Qp5 [⟨k0,l0,x0⟩,⟨k1,l1,x1⟩] (Qjw a b)=true):bl l0 = []/\bl x0=bl a/\bl l1 = []/\bl x1=bl b:=by
 simp only[Qjw,Qp5,Zis,Bool.and_eq_true,beq_iff_eq,Bool.and_true]at h;obtain⟨⟨⟨_,h1⟩,h2⟩,⟨_,h3⟩,h4⟩:=h;simp only[<-Qdz]at h1 h2 h3 h4;exact⟨h1,h2,h3,h4⟩
theorem Qjh{a b:yD}(h1:Qap (suf a 0)≠0)(h2:Qap (suf b 0)≠0):Qgh a b = !Qp5 (Qbp (a ++ b)).toks (Qjw a b):=by
 unfold Qgh;simp[h1,h2]
section
variable {a b:yD} (h1:Qap (suf a 0)≠0) (h2:Qap (suf b 0)≠0)
include h1 h2
theorem Zeb(he:(Qbp (a ++ b)).e≠0):Qgh a b=true:=by
 rw[Qjh h1 h2,((Qi5 (a ++ b)).2 he).1];rfl
theorem Zec(hl:(Qbp (a ++ b)).toks.length≠2):Qgh a b=true:=by
 rw[Qjh h1 h2,Qrc (by simpa [Qjw] using hl)];rfl
variable {k0 k1:Int} {l0 x0 l1 x1:yD} (ht:(Qbp (a ++ b)).toks = [⟨k0,l0,x0⟩,⟨k1,l1,x1⟩])
include ht
theorem Qi3(h:¬ (bl l0 = []/\bl x0=bl a/\bl l1 = []/\bl x1=bl b)):Qgh a b=true:=by
 rw[Qjh h1 h2,ht]
 cases hs:Qp5 [⟨k0,l0,x0⟩,⟨k1,l1,x1⟩] (Qjw a b)
 ·rfl
 ·exact absurd (Zht hs) h
theorem Qzc(he:(Qbp (a ++ b)).e=0)(h:bl (Qbp (a ++ b)).tail≠[]):Qgh a b=true:=by
 refine Qi3 h1 h2 ht (fun⟨g1,g2,g3,g4⟩=>h ?_);have hj:=((Qi5 (a ++ b)).1 he).2.1;rw[ht]at hj;unfold Qlg at hj;rw[List.flatMap_cons,List.flatMap_cons,List.flatMap_nil]at hj;simp only[g1,g2,g3,g4,Qhk,xU,List.append_nil]at hj;exact List.append_cancel_left (by rw[hj,List.append_nil]:(bl a ++ bl b) ++ bl (Qbp (a ++ b)).tail=(bl a ++ bl b) ++ [])
theorem Zed(he:(Qbp (a ++ b)).e=0)(h:bl l0 = []/\bl x0=bl a/\bl l1 = []/\bl x1=bl b):Qgh a b=false:=by
 have hg:=((Qi5 (a ++ b)).1 he).1;rw[ht]at hg;have q0:=(hg ⟨k0,l0,x0⟩ (by simp)).1;have q1:=(hg ⟨k1,l1,x1⟩ (by simp)).1;obtain⟨g1,g2,g3,g4⟩:=h;simp only[g2,g4]at q0 q1;have e0:bl ByteArray.empty = []:=rfl;rw[Qjh h1 h2,ht];simp only[Qjw,Qp5,Zis,<-Qdz,Bool.and_true]
 change (!((k0==(Qap (bl a):Int) && bl l0==bl ByteArray.empty && bl x0==bl a) && (k1==(Qap (bl b):Int) && bl l1==bl ByteArray.empty && bl x1==bl b)))=false
 rw[g1,g2,g3,g4,e0,q0,q1];simp
end
theorem Qu0{x:yD}(h:bl x = []):x.toList.isEmpty=true:=by rw[<-Qdz];unfold bl at h;rw[h];rfl
theorem Zee{x:yD}(h:bl x≠[]):x.toList.isEmpty=false:=by rw[<-Qdz];unfold bl at h;simpa using h
theorem Zik{x y:yD}(h:bl x=bl y):(x.toList==y.toList)=true:=by rw[<-Qdz,<-Qdz];unfold bl at h;simpa using h
theorem Zmf{x y:yD}(h:bl x≠bl y):(x.toList==y.toList)=false:=by rw[<-Qdz,<-Qdz];unfold bl at h;simpa using h
theorem Qji(s:yD)(w:World)(hs:s.size<=maxLen){k0 k1:Int}{l0 x0 l1 x1:yD}(ht:(Qbp s).toks = [⟨k0,l0,x0⟩,⟨k1,l1,x1⟩]) :
  Calls prog 145 #[.string s] w fun e w'=>∃ g c,e = .returned (.tuple #[.slice (some ⟨g,0,none⟩) 2 c,.string (Qbp s).tail,.int .i64 (Qbp s).place,.int .i64 (Qbp s).e])/\Below w.heap.size w w' /\
   w'.cell? ⟨g,0,none⟩=some (.int .i64 k0)/\w'.cell? ⟨g,1,none⟩=some (.string l0)/\w'.cell? ⟨g,2,none⟩=some (.string x0)/\w'.cell? ⟨g,3,none⟩=some (.int .i64 k1)/\w'.cell? ⟨g,4,none⟩=some (.string l1)/\w'.cell? ⟨g,5,none⟩=some (.string x1):=by
 refine(Qnk s w hs).mono fun e w' h=>?_
 obtain⟨v,he,ho,hb⟩:=h;rw[ht]at ho;obtain⟨g,c,hv,_,_⟩:=World.ownsRow.form ho (by simp);subst hv;have hc:=World.ownsRow.cells (g:=g) ho rfl;exact⟨g,c,he,hb,hc 0 _ rfl,hc 1 _ rfl,hc 2 _ rfl,hc 3 _ rfl,hc 4 _ rfl,hc 5 _ rfl⟩
theorem Qpp(a b:yD)(w:World)(hs:a.size+b.size<maxLen) :
  Calls prog 105 #[.string a,.string b] w fun e w'=>e = .returned (.bool (Qgh a b))/\Below w.heap.size w w':=by
 have HA:=hQ (show a.size<maxLen from by omega);have HB:=hQ (show b.size<maxLen from by omega);have HS:=hQ (show(a ++ b).size<=maxLen from by rw[ByteArray.size_append];omega);unfold maxLen at hs
 by_cases h1:Qap (suf a 0)=0
 ·have h1':(((Qap (suf a 0):Nat):Int)==0)=true:=by simp[h1]
  have HF:=hQ (show Qgh a b=false from by unfold Qgh;simp[h1]);clear h1;go_enter func105,ntmps105;go_wp2_with (go_at_call 90;((with_reducible refine(Qa4 a _ HA.out).mono ?_);rintro e w1⟨rfl,hb1⟩;have W1:=hQ hb1;clear hb1))
  go_ret;exact⟨Qaj HF.out.symm,W1.out⟩
 ·by_cases h2:Qap (suf b 0)=0
  ·have h1':(((Qap (suf a 0):Nat):Int)==0)=false:=by simp;omega
   have h2':(((Qap (suf b 0):Nat):Int)==0)=true:=by simp[h2]
   have HF:=hQ (show Qgh a b=false from by unfold Qgh;simp[h2]);clear h1 h2;go_enter func105,ntmps105;go_wp2_with (first | (go_at_call 90;((with_reducible refine(Qa4 a _ HA.out).mono ?_);rintro e w1⟨rfl,hb1⟩;have W1:=hQ hb1;clear hb1)) | (go_at_call 90;((with_reducible refine(Qa4 b _ HB.out).mono ?_);rintro e w2⟨rfl,hb2⟩;have W2:=hQ hb2;clear hb2)))
   go_ret;exact⟨Qaj HF.out.symm,yC W1.out W2.out⟩
  ·have h1':(((Qap (suf a 0):Nat):Int)==0)=false:=by simp;omega
   have h2':(((Qap (suf b 0):Nat):Int)==0)=false:=by simp;omega
   have H1:=hQ h1;have H2:=hQ h2;clear h1 h2
   by_cases he:(Qbp (a ++ b)).e=0
   ·have HE:=hQ he;have he':((((Qbp (a ++ b)).e:Nat):Int) != 0)=false:=by simp[he]
    clear he
    by_cases hl:(Qbp (a ++ b)).toks.length=2
    ·obtain⟨⟨k0,l0,x0⟩,⟨k1,l1,x1⟩,ht⟩:∃ t u,(Qbp (a ++ b)).toks = [t,u]:=by
      match h:(Qbp (a ++ b)).toks,hl with
      | [t,u],_=>exact⟨t,u,rfl⟩
     have HT:=hQ ht;clear hl ht
     by_cases ht0:bl (Qbp (a ++ b)).tail = []
     ·have gt:=Qu0 ht0
      by_cases hx0:bl x0=bl a
      ·have gx0:=Zik hx0
       by_cases hl0:bl l0 = []
       ·have gl0:=Qu0 hl0
        by_cases hx1:bl x1=bl b
        ·have gx1:=Zik hx1
         by_cases hl1:bl l1 = []
         ·have gl1:=Qu0 hl1;have HF:=hQ (Zed H1.out H2.out HT.out HE.out ⟨hl0,hx0,hl1,hx1⟩);go_enter func105,ntmps105;go_wp2_with (first | (go_at_call 90;((with_reducible refine(Qa4 a _ HA.out).mono ?_);rintro e w1⟨rfl,hb1⟩;have W1:=hQ hb1;clear hb1)) | (go_at_call 90;((with_reducible refine(Qa4 b _ HB.out).mono ?_);rintro e w2⟨rfl,hb2⟩;have W2:=hQ hb2;clear hb2)) | (go_at_call 145;refine(Qji (a ++ b) _ HS.out HT.out).mono ?_;rintro e w3⟨g,c,rfl,hb3,c0,c1,c2,c3,c4,c5⟩;have W3:=hQ hb3;clear hb3))
          go_ret;exact⟨Qaj HF.out.symm,(yC W1.out W2.out).trans (W3.out.mono (xQ W1.out.size W2.out.size))⟩
         ·have gl1:=Zee hl1;have HF:=hQ (Qi3 H1.out H2.out HT.out (fun h=>hl1 h.2.2.1));go_enter func105,ntmps105;go_wp2_with (first | (go_at_call 90;((with_reducible refine(Qa4 a _ HA.out).mono ?_);rintro e w1⟨rfl,hb1⟩;have W1:=hQ hb1;clear hb1)) | (go_at_call 90;((with_reducible refine(Qa4 b _ HB.out).mono ?_);rintro e w2⟨rfl,hb2⟩;have W2:=hQ hb2;clear hb2)) | (go_at_call 145;refine(Qji (a ++ b) _ HS.out HT.out).mono ?_;rintro e w3⟨g,c,rfl,hb3,c0,c1,c2,c3,c4,c5⟩;have W3:=hQ hb3;clear hb3))
          go_ret;exact⟨Qaj HF.out.symm,(yC W1.out W2.out).trans (W3.out.mono (xQ W1.out.size W2.out.size))⟩
        ·have gx1:=Zmf hx1;have HF:=hQ (Qi3 H1.out H2.out HT.out (fun h=>hx1 h.2.2.2));go_enter func105,ntmps105;go_wp2_with (first | (go_at_call 90;((with_reducible refine(Qa4 a _ HA.out).mono ?_);rintro e w1⟨rfl,hb1⟩;have W1:=hQ hb1;clear hb1)) | (go_at_call 90;((with_reducible refine(Qa4 b _ HB.out).mono ?_);rintro e w2⟨rfl,hb2⟩;have W2:=hQ hb2;clear hb2)) | (go_at_call 145;refine(Qji (a ++ b) _ HS.out HT.out).mono ?_;rintro e w3⟨g,c,rfl,hb3,c0,c1,c2,c3,c4,c5⟩;have W3:=hQ hb3;clear hb3))
         go_ret;exact⟨Qaj HF.out.symm,(yC W1.out W2.out).trans (W3.out.mono (xQ W1.out.size W2.out.size))⟩
       ·have gl0:=Zee hl0;have HF:=hQ (Qi3 H1.out H2.out HT.out (fun h=>hl0 h.1));go_enter func105,ntmps105;go_wp2_with (first | (go_at_call 90;((with_reducible refine(Qa4 a _ HA.out).mono ?_);rintro e w1⟨rfl,hb1⟩;have W1:=hQ hb1;clear hb1)) | (go_at_call 90;((with_reducible refine(Qa4 b _ HB.out).mono ?_);rintro e w2⟨rfl,hb2⟩;have W2:=hQ hb2;clear hb2)) | (go_at_call 145;refine(Qji (a ++ b) _ HS.out HT.out).mono ?_;rintro e w3⟨g,c,rfl,hb3,c0,c1,c2,c3,c4,c5⟩;have W3:=hQ hb3;clear hb3))
        go_ret;exact⟨Qaj HF.out.symm,(yC W1.out W2.out).trans (W3.out.mono (xQ W1.out.size W2.out.size))⟩
      ·have gx0:=Zmf hx0;have HF:=hQ (Qi3 H1.out H2.out HT.out (fun h=>hx0 h.2.1));go_enter func105,ntmps105;go_wp2_with (first | (go_at_call 90;((with_reducible refine(Qa4 a _ HA.out).mono ?_);rintro e w1⟨rfl,hb1⟩;have W1:=hQ hb1;clear hb1)) | (go_at_call 90;((with_reducible refine(Qa4 b _ HB.out).mono ?_);rintro e w2⟨rfl,hb2⟩;have W2:=hQ hb2;clear hb2)) | (go_at_call 145;refine(Qji (a ++ b) _ HS.out HT.out).mono ?_;rintro e w3⟨g,c,rfl,hb3,c0,c1,c2,c3,c4,c5⟩;have W3:=hQ hb3;clear hb3))
       go_ret;exact⟨Qaj HF.out.symm,(yC W1.out W2.out).trans (W3.out.mono (xQ W1.out.size W2.out.size))⟩
     ·have gt:=Zee ht0;have HF:=hQ (Qzc H1.out H2.out HT.out HE.out ht0);go_enter func105,ntmps105;go_wp2_with (first | (go_at_call 90;((with_reducible refine(Qa4 a _ HA.out).mono ?_);rintro e w1⟨rfl,hb1⟩;have W1:=hQ hb1;clear hb1)) | (go_at_call 90;((with_reducible refine(Qa4 b _ HB.out).mono ?_);rintro e w2⟨rfl,hb2⟩;have W2:=hQ hb2;clear hb2)) | (go_at_call 145;refine(Qji (a ++ b) _ HS.out HT.out).mono ?_;rintro e w3⟨g,c,rfl,hb3,c0,c1,c2,c3,c4,c5⟩;have W3:=hQ hb3;clear hb3))
      go_ret;exact⟨Qaj HF.out.symm,(yC W1.out W2.out).trans (W3.out.mono (xQ W1.out.size W2.out.size))⟩
    ·have hl':((((Qbp (a ++ b)).toks.length:Nat):Int) != 2)=true:=by simp;omega
     have HF:=hQ (Zec H1.out H2.out hl);clear hl;go_enter func105,ntmps105;go_wp2_with (first | (go_at_call 90;((with_reducible refine(Qa4 a _ HA.out).mono ?_);rintro e w1⟨rfl,hb1⟩;have W1:=hQ hb1;clear hb1)) | (go_at_call 90;((with_reducible refine(Qa4 b _ HB.out).mono ?_);rintro e w2⟨rfl,hb2⟩;have W2:=hQ hb2;clear hb2)) | (go_at_call 145;refine(Qnk (a ++ b) _ HS.out).mono ?_;rintro e w3⟨v,rfl,ho,hb3⟩;obtain⟨A,c,rfl⟩:=Qhp ho;have HO:=hQ ho;have W3:=hQ hb3;clear ho hb3))
     go_ret;exact⟨Qaj HF.out.symm,(yC W1.out W2.out).trans (W3.out.mono (xQ W1.out.size W2.out.size))⟩
   ·have he':((((Qbp (a ++ b)).e:Nat):Int) != 0)=true:=by simp;omega
    have HF:=hQ (Zeb H1.out H2.out he);clear he;go_enter func105,ntmps105;go_wp2_with (first | (go_at_call 90;((with_reducible refine(Qa4 a _ HA.out).mono ?_);rintro e w1⟨rfl,hb1⟩;have W1:=hQ hb1;clear hb1)) | (go_at_call 90;((with_reducible refine(Qa4 b _ HB.out).mono ?_);rintro e w2⟨rfl,hb2⟩;have W2:=hQ hb2;clear hb2)) | (go_at_call 145;refine(Qnk (a ++ b) _ HS.out).mono ?_;rintro e w3⟨v,rfl,ho,hb3⟩;obtain⟨A,c,rfl⟩:=Qhp ho;have HO:=hQ ho;have W3:=hQ hb3;clear ho hb3))
    go_ret;exact⟨Qaj HF.out.symm,(yC W1.out W2.out).trans (W3.out.mono (xQ W1.out.size W2.out.size))⟩
end Go.Proofs.YtfjpemdejoejbaaGreat
