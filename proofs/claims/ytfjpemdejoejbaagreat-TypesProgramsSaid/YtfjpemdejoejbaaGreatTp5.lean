/- Part 5 -/
import Derived.Test.YtfjpemdejoejbaaGreatTp4
import Derived.StillTailTactics
import Derived.Deep.RegionHeld3
set_option maxRecDepth 100000
set_option maxHeartbeats 4000000
namespace Go.Proofs.YtfjpemdejoejbaaGreat
open Go.Proofs.Tryz Go.RowKit
theorem Qbj(x:yD)(l:List UInt8):(x.toList==l)=is x l:=by rw[ByteArray.toList_eq];rfl
theorem Qre(t:Tok)(w:World):Calls prog 124 #[.agg #[.int .i64 t.kind,.string t.lead,.string t.text]] w fun e w'=>e = .returned (.bool (Qbv 1 t.kind t.text))/\Below w.heap.size w w':=by
 go_enter func124,ntmps124;go_wp2;go_ret;exact⟨rfl,(xC _ _).alloc (xA _) _⟩
theorem Qke(t:Tok)(w:World):Calls prog 126 #[.agg #[.int .i64 t.kind,.string t.lead,.string t.text]] w fun e w'=>e = .returned (.bool (Qbv 2 t.kind t.text))/\Below w.heap.size w w':=by
 go_enter func126,ntmps126;go_wp2;go_ret;exact⟨rfl,(xC _ _).alloc (xA _) _⟩
theorem Qoo(t:Tok)(w:World):Calls prog 154 #[.agg #[.int .i64 t.kind,.string t.lead,.string t.text]] w fun e w'=>e = .returned (.bool (Qbv 5 t.kind t.text))/\Below w.heap.size w w':=by
 go_enter func154,ntmps154;go_wp2;go_ret;exact⟨rfl,(xC _ _).alloc (xA _) _⟩
theorem Qop(t:Tok)(w:World):Calls prog 155 #[.agg #[.int .i64 t.kind,.string t.lead,.string t.text]] w fun e w'=>e = .returned (.bool (Qbv 6 t.kind t.text))/\Below w.heap.size w w':=by
 go_enter func155,ntmps155;go_wp2;go_ret;exact⟨rfl,(xC _ _).alloc (xA _) _⟩
theorem Qh7(t:Tok)(w:World):Calls prog 128 #[.agg #[.int .i64 t.kind,.string t.lead,.string t.text]] w fun e w'=>e = .returned (.bool (Qbv 3 t.kind t.text))/\Below w.heap.size w w':=by
 cases h1:(t.kind==2)
 ·cases h2:(t.kind==4)
  all_goals
   have HR:=hQ (show Qbv 3 t.kind t.text=_ from by unfold Qbv;simp only[h1,h2];rfl);go_enter func128,ntmps128;go_wp2;go_ret;exact⟨by rw[HR.out];rfl,(xC _ _).alloc (xA _) _⟩
 ·have HR:=hQ (show Qbv 3 t.kind t.text=true from by unfold Qbv;simp only[h1];rfl);go_enter func128,ntmps128;go_wp2;go_ret;exact⟨by rw[HR.out];rfl,(xC _ _).alloc (xA _) _⟩
theorem Qoq(t:Tok)(w:World):Calls prog 156 #[.agg #[.int .i64 t.kind,.string t.lead,.string t.text]] w fun e w'=>e = .returned (.bool (Qbv 4 t.kind t.text))/\Below w.heap.size w w':=by
 cases h1:(t.kind==1)
 ·cases h2:(t.kind==3)
  all_goals
   have HR:=hQ (show Qbv 4 t.kind t.text=_ from by unfold Qbv;simp only[h1,h2];rfl);go_enter func156,ntmps156;go_wp2;go_ret;exact⟨by rw[HR.out];rfl,(xC _ _).alloc (xA _) _⟩
 ·have HR:=hQ (show Qbv 4 t.kind t.text=true from by unfold Qbv;simp only[h1];rfl);go_enter func156,ntmps156;go_wp2;go_ret;exact⟨by rw[HR.out];rfl,(xC _ _).alloc (xA _) _⟩
theorem Qw4(t:Tok)(w:World)(h0:(t.text.toList == [43])=true):Calls prog 134 #[.agg #[.int .i64 t.kind,.string t.lead,.string t.text]] w fun e w'=>e = .returned (.bool (opB t.text))/\Below w.heap.size w w':=by
 have HR:=hQ (show opB t.text=true from by unfold opB;simp only[<-Qbj,h0];rfl);go_enter func134,ntmps134;go_wp2;go_ret;exact⟨by rw[HR.out];rfl,(xC _ _).alloc (xA _) _⟩
theorem Qw5(t:Tok)(w:World)(h0:(t.text.toList == [43])=false)(h1:(t.text.toList == [45])=true):Calls prog 134 #[.agg #[.int .i64 t.kind,.string t.lead,.string t.text]] w fun e w'=>e = .returned (.bool (opB t.text))/\Below w.heap.size w w':=by
 have HR:=hQ (show opB t.text=true from by unfold opB;simp only[<-Qbj,h0,h1];rfl);go_enter func134,ntmps134;go_wp2;go_ret;exact⟨by rw[HR.out];rfl,(xC _ _).alloc (xA _) _⟩
theorem Qw6(t:Tok)(w:World)(h0:(t.text.toList == [43])=false)(h1:(t.text.toList == [45])=false)(h2:(t.text.toList == [42])=true):Calls prog 134 #[.agg #[.int .i64 t.kind,.string t.lead,.string t.text]] w fun e w'=>e = .returned (.bool (opB t.text))/\Below w.heap.size w w':=by
 have HR:=hQ (show opB t.text=true from by unfold opB;simp only[<-Qbj,h0,h1,h2];rfl);go_enter func134,ntmps134;go_wp2;go_ret;exact⟨by rw[HR.out];rfl,(xC _ _).alloc (xA _) _⟩
theorem Qw7(t:Tok)(w:World)(h0:(t.text.toList == [43])=false)(h1:(t.text.toList == [45])=false)(h2:(t.text.toList == [42])=false)(h3:(t.text.toList == [60])=true):Calls prog 134 #[.agg #[.int .i64 t.kind,.string t.lead,.string t.text]] w fun e w'=>e = .returned (.bool (opB t.text))/\Below w.heap.size w w':=by
 have HR:=hQ (show opB t.text=true from by unfold opB;simp only[<-Qbj,h0,h1,h2,h3];rfl);go_enter func134,ntmps134;go_wp2;go_ret;exact⟨by rw[HR.out];rfl,(xC _ _).alloc (xA _) _⟩
theorem Qw8(t:Tok)(w:World)(h0:(t.text.toList == [43])=false)(h1:(t.text.toList == [45])=false)(h2:(t.text.toList == [42])=false)(h3:(t.text.toList == [60])=false)(h4:(t.text.toList == [61,61])=true):Calls prog 134 #[.agg #[.int .i64 t.kind,.string t.lead,.string t.text]] w fun e w'=>e = .returned (.bool (opB t.text))/\Below w.heap.size w w':=by
 have HR:=hQ (show opB t.text=true from by unfold opB;simp only[<-Qbj,h0,h1,h2,h3,h4];rfl);go_enter func134,ntmps134;go_wp2;go_ret;exact⟨by rw[HR.out];rfl,(xC _ _).alloc (xA _) _⟩
theorem Qw9(t:Tok)(w:World)(h0:(t.text.toList == [43])=false)(h1:(t.text.toList == [45])=false)(h2:(t.text.toList == [42])=false)(h3:(t.text.toList == [60])=false)(h4:(t.text.toList == [61,61])=false):Calls prog 134 #[.agg #[.int .i64 t.kind,.string t.lead,.string t.text]] w fun e w'=>e = .returned (.bool (opB t.text))/\Below w.heap.size w w':=by
 have HR:=hQ (show opB t.text=false from by unfold opB;simp only[<-Qbj,h0,h1,h2,h3,h4];rfl);go_enter func134,ntmps134;go_wp2;go_ret;exact⟨by rw[HR.out];rfl,(xC _ _).alloc (xA _) _⟩
theorem Qg2(t:Tok)(w:World):Calls prog 134 #[.agg #[.int .i64 t.kind,.string t.lead,.string t.text]] w fun e w'=>e = .returned (.bool (opB t.text))/\Below w.heap.size w w':=by
 cases h0:(t.text.toList == [43])
 case true=>exact Qw4 t w h0
 cases h1:(t.text.toList == [45])
 case true=>exact Qw5 t w h0 h1
 cases h2:(t.text.toList == [42])
 case true=>exact Qw6 t w h0 h1 h2
 cases h3:(t.text.toList == [60])
 case true=>exact Qw7 t w h0 h1 h2 h3
 cases h4:(t.text.toList == [61,61])
 case true=>exact Qw8 t w h0 h1 h2 h3 h4
 exact Qw9 t w h0 h1 h2 h3 h4
theorem Qmh(t:Tok)(w:World)(h0:(t.text.toList == [100,101,102])=true):Calls prog 157 #[.agg #[.int .i64 t.kind,.string t.lead,.string t.text]] w fun e w'=>e = .returned (.int .i64 (Qff t.text))/\Below w.heap.size w w':=by
 have HR:=hQ (show Qff t.text=2 from by unfold Qff;simp only[<-Qbj,h0];rfl);go_enter func157,ntmps157;go_wp2;go_ret;exact⟨by rw[HR.out];rfl,(xC _ _).alloc (xA _) _⟩
theorem Qmi(t:Tok)(w:World)(h0:(t.text.toList == [100,101,102])=false)(h1:(t.text.toList == [116,121,112,101])=true):Calls prog 157 #[.agg #[.int .i64 t.kind,.string t.lead,.string t.text]] w fun e w'=>e = .returned (.int .i64 (Qff t.text))/\Below w.heap.size w w':=by
 have HR:=hQ (show Qff t.text=3 from by unfold Qff;simp only[<-Qbj,h0,h1];rfl);go_enter func157,ntmps157;go_wp2;go_ret;exact⟨by rw[HR.out];rfl,(xC _ _).alloc (xA _) _⟩
theorem Qmj(t:Tok)(w:World)(h0:(t.text.toList == [100,101,102])=false)(h1:(t.text.toList == [116,121,112,101])=false):Calls prog 157 #[.agg #[.int .i64 t.kind,.string t.lead,.string t.text]] w fun e w'=>e = .returned (.int .i64 (Qff t.text))/\Below w.heap.size w w':=by
 have HR:=hQ (show Qff t.text=0 from by unfold Qff;simp only[<-Qbj,h0,h1];rfl);go_enter func157,ntmps157;go_wp2;go_ret;exact⟨by rw[HR.out];rfl,(xC _ _).alloc (xA _) _⟩
theorem Qkf(t:Tok)(w:World):Calls prog 157 #[.agg #[.int .i64 t.kind,.string t.lead,.string t.text]] w fun e w'=>e = .returned (.int .i64 (Qff t.text))/\Below w.heap.size w w':=by
 cases h0:(t.text.toList == [100,101,102])
 case true=>exact Qmh t w h0
 cases h1:(t.text.toList == [116,121,112,101])
 case true=>exact Qmi t w h0 h1
 exact Qmj t w h0 h1
structure Off (b:Nat) (w w':World):Prop where
 os:w'.os=w.os
 tape:w'.tape=w.tape
 output:w'.output=w.output
 size:w.heap.size<=w'.heap.size
 block:∀ k,k<w.heap.size->k≠b->w'.heap[k]? = w.heap[k]?
theorem Off.trans{b:Nat}{u v w:World}(h:Off b u v)(k:Off b v w):Off b u w :=
 ⟨k.os.trans h.os,k.tape.trans h.tape,k.output.trans h.output,xQ h.size k.size,fun i hi hb=>(k.block i (xE hi h.size) hb).trans (h.block i hi hb)⟩
theorem Off.of{b:Nat}{w w':World}(h:Below w.heap.size w w'):Off b w w':=⟨h.os,h.tape,h.output,h.size,fun k hk _=>h.block k hk⟩
theorem Off.set{b:Nat}{w:World}(o:Nat)(u:Value):Off b w (w.setCell ⟨b,o,none⟩ u):=⟨rfl,rfl,rfl,by simp[World.setCell],fun k _ hk=>Below.heap_setCell _ _ _ _ hk⟩
theorem Off.setNew{b:Nat}{u w:World}(h:Off b u w){k:Nat}(hk:u.heap.size<=k)(o:Nat)(x:Value):Off b u (w.setCell ⟨k,o,none⟩ x) :=
 ⟨h.os,h.tape,h.output,by simpa [World.setCell] using h.size,fun i hi hb=>(Below.heap_setCell w ⟨k,o,none⟩ x i (by show i≠k;omega)).trans (h.block i hi hb)⟩
theorem Off.setOwn{b:Nat}{u w:World}(h:Off b u w)(o:Nat)(x:Value):Off b u (w.setCell ⟨b,o,none⟩ x):=h.trans (.set o x)
theorem Off.alloc{b:Nat}{w:World}(o:Obj):Off b w (w.alloc o):=.of ((xC _ _).alloc (xA _) o)
theorem Off.drew{b:Nat}{w:World}:Off b w w.drew:=.of (xC _ _).drew
theorem Off.below{b B:Nat}{w w':World}(h:Off b w w')(hb:B<=b)(hB:B<=w.heap.size):Below B w w' :=
 ⟨h.os,h.tape,h.output,h.size,fun k hk=>h.block k (by omega) (by omega)⟩
theorem Off.cell{b:Nat}{w w':World}(h:Off b w w'){p:Addr}(hp:p.block<w.heap.size)(hb:p.block≠b):w'.cell? p=w.cell? p:=xJ (w:=w) (h.block p.block hp hb)
theorem Qp6(b o n:Nat):(⟨b,o,none⟩:Addr).add n=⟨b,o+n,none⟩:=by unfold Addr.add;split <;> simp_all
theorem Toks.drop{w:World}{b off:Nat}{ts:List Tok}(h:Toks w (some ⟨b,off,none⟩) ts)(n:Nat):Toks w (some ⟨b,off+n*3,none⟩) (ts.drop n):=fun hne=>by
 obtain⟨b',off',hA,hc⟩:=h (by intro e;rw[e]at hne;simp at hne);injection hA with hA;injection hA with e1 e2 _;subst e1 e2;refine⟨b,_,rfl,fun i t ht=>?_⟩;rw[List.getElem?_drop]at ht;have:=hc _ t ht
 rw[show off+(n+i)*3=off+n*3+i*3 from by omega]at this;exact this
theorem Toks.at0{w:World}{b off:Nat}{ts:List Tok}(h:Toks w (some ⟨b,off,none⟩) ts)(i:Nat)(t:Tok)(ht:ts[i]? = some t) :
  w.cell? ⟨b,off+i*3,none⟩=some (.int .i64 t.kind)/\w.cell? ⟨b,off+i*3+1,none⟩=some (.string t.lead)/\w.cell? ⟨b,off+i*3+2,none⟩=some (.string t.text):=by
 obtain⟨b',off',hA,hc⟩:=h (by intro e;rw[e]at ht;simp at ht);injection hA with hA;injection hA with e1 e2 _;subst e1 e2;exact hc i t ht
theorem Toks.off{w w':World}{b tb o:Nat}{ts:List Tok}(h:Toks w (some ⟨tb,o,none⟩) ts)(hb:tb≠b)(hw:Off b w w'):Toks w' (some ⟨tb,o,none⟩) ts:=fun hne=>by
 refine⟨tb,o,rfl,fun i t ht=>?_⟩;obtain⟨h1,h2,h3⟩:=h.at0 i t ht;have hlt:tb<w.heap.size:=xK w _ h1;have hk:∀ o,w'.cell? ⟨tb,o,none⟩=w.cell? ⟨tb,o,none⟩:=fun o=>hw.cell (p:=⟨tb,o,none⟩) hlt hb
 exact⟨(hk _).trans h1,(hk _).trans h2,(hk _).trans h3⟩
structure PAt (w:World) (b:Nat) (p:PS) (tb off c:Nat):Prop where
 heap:w.heap[b]? = some (.cells #[.slice (some ⟨tb,off,none⟩) p.rest.length c,.int .i64 p.read,.int .i64 p.place,.int .i64 p.e] 90 (0,0))
 below:tb<b
 cap:p.rest.length<=c
 toks:Toks w (some ⟨tb,off,none⟩) p.rest
 ok:PSok p
def PIn(w:World)(b:Nat)(p:PS):Prop:=∃ tb off c,PAt w b p tb off c
section
variable {w w':World} {b tb off c:Nat} {p:PS}
theorem PAt.ne(h:PAt w b p tb off c):tb≠b:=Nat.ne_of_lt h.below
theorem PAt.lt(h:PAt w b p tb off c):b<w.heap.size:=by
 rcases Nat.lt_or_ge b w.heap.size with h' | h'
 ·exact h'
 ·have:=h.heap
  simp[Array.getElem?_eq_none h']at this
theorem PAt.c0(h:PAt w b p tb off c):w.cell? ⟨b,0,none⟩=some (.slice (some ⟨tb,off,none⟩) p.rest.length c):=by rw[Lib.cell_of_heap h.heap];rfl
theorem PAt.c1(h:PAt w b p tb off c):w.cell? ⟨b,1,none⟩=some (.int .i64 p.read):=by rw[Lib.cell_of_heap h.heap];rfl
theorem PAt.c2(h:PAt w b p tb off c):w.cell? ⟨b,2,none⟩=some (.int .i64 p.place):=by rw[Lib.cell_of_heap h.heap];rfl
theorem PAt.c3(h:PAt w b p tb off c):w.cell? ⟨b,3,none⟩=some (.int .i64 p.e):=by rw[Lib.cell_of_heap h.heap];rfl
theorem PAt.frozen(h:PAt w b p tb off c)(i:Nat):w.frozen? ⟨b,i,none⟩=false:=xL h.heap i
theorem PAt.n0(h:PAt w b p tb off c):w.cell? ⟨tb,off,none⟩=some (.int .i64 (Qad p).kind)/\w.cell? ⟨tb,off+1,none⟩=some (.string (Qad p).lead)/\w.cell? ⟨tb,off+2,none⟩=some (.string (Qad p).text):=by
 have:=h.toks.at0 0 (Qad p) (by rw[h.ok.next];rfl)
 simpa using this
theorem PAt.pos(h:PAt w b p tb off c):0<p.rest.length:=by rw[h.ok.next];simp
theorem PAt.keep(h:PAt w b p tb off c)(hb:Below w.heap.size w w'):PAt w' b p tb off c :=
 ⟨by rw[hb.block b h.lt];exact h.heap,h.below,h.cap,h.toks.below hb,h.ok⟩
theorem PIn.keep(h:PIn w b p)(hb:Below w.heap.size w w'):PIn w' b p:=by
 obtain⟨tb,off,c,h⟩:=h;exact⟨tb,off,c,h.keep hb⟩
theorem PIn.upto(h:PIn w b p)(hw:∀ k,k<=b->w'.heap[k]? = w.heap[k]?):PIn w' b p:=by
 obtain⟨tb,off,c,h⟩:=h;refine⟨tb,off,c,by rw[hw b (xA _)];exact h.heap,h.below,h.cap,fun hne=>?_,h.ok⟩;refine⟨tb,off,rfl,fun i t ht=>?_⟩;obtain⟨h1,h2,h3⟩:=h.toks.at0 i t ht;have hk:∀ o,w'.cell? ⟨tb,o,none⟩=w.cell? ⟨tb,o,none⟩:=fun o=>xJ (w:=w) (a:=⟨tb,o,none⟩) (hw tb (Nat.le_of_lt h.below))
 exact⟨(hk _).trans h1,(hk _).trans h2,(hk _).trans h3⟩
theorem PIn.lt(h:PIn w b p):b<w.heap.size:=by
 obtain⟨tb,off,c,h⟩:=h;exact h.lt
theorem PAt.turn{p':PS}{n c':Nat}(h:PAt w b p tb off c)(hw:Off b w w')
  (hh:w'.heap[b]? = some (.cells #[.slice (some ⟨tb,off+n*3,none⟩) p'.rest.length c',.int .i64 p'.read,.int .i64 p'.place,.int .i64 p'.e] 90 (0,0)))
  (hr:p'.rest=p.rest.drop n) (hc:p'.rest.length<=c') (hok:PSok p'):PIn w' b p' :=
 ⟨tb,_,c',⟨hh,h.below,hc,by rw[hr];exact(h.toks.off h.ne hw).drop n,hok⟩⟩
end
theorem Qbe{b:Nat}{p:PS}(w:World)(h:PIn w b p):Calls prog 132 #[.pointer (some ⟨b,0,none⟩)] w fun e w'=>e = .returned (.agg #[.int .i64 (Qad p).kind,.string (Qad p).lead,.string (Qad p).text])/\Below w.heap.size w w':=by
 obtain⟨tb,off,c,h⟩:=h;have c0:=h.c0;obtain⟨n0,n1,n2⟩:=h.n0;have hp:(0:Int)<(p.rest.length:Int):=by have:=h.pos;omega
 have e0:b<w.heap.size:=xK w _ c0;have e1:tb<w.heap.size:=xK w _ n0;clear h;go_enter func132,ntmps132;go_wp2;exact bodyPost_ret (v:=.agg #[.int .i64 (Qad p).kind,.string (Qad p).lead,.string (Qad p).text]) (by simp[results,results132,go_sem]) rfl ⟨rfl,(xC _ _).alloc (xA _) _⟩
theorem Qa1{w:World}{b i:Nat}{cs cs':Array Value}{y:Value}{T:TypeId}(h:w.heap[b]? = some (.cells cs T (0,0)))(hc:cs.setIfInBounds i y=cs'):(w.setCell ⟨b,i,none⟩ y).heap[b]? = some (.cells cs' T (0,0)):=by
 rw[heap_setCell_same w b i cs T y h,hc]
theorem Qm3{w:World}{b:Nat}{x0 x1 x2 x3 y:Value}{T:TypeId}(h:w.heap[b]? = some (.cells #[x0,x1,x2,x3] T (0,0))):(w.setCell ⟨b,0,none⟩ y).heap[b]? = some (.cells #[y,x1,x2,x3] T (0,0)):=by
 rw[heap_setCell_same w b 0 _ T y h];rfl
def Qp7(b:Nat)(p:PS)(w:World)(e:Ending)(w':World):Prop :=
 e = .returned (.agg #[.int .i64 (Qad p).kind,.string (Qad p).lead,.string (Qad p).text])/\PIn w' b (Qha p)/\Off b w w'
theorem Zfo{b:Nat}{p:PS}(w:World)(h:PIn w b p)(hl:¬ 1<p.rest.length):Calls prog 133 #[.pointer (some ⟨b,0,none⟩)] w (Qp7 b p w):=by
 have HI:=hQ h;obtain⟨tb,off,c,h⟩:=h;have HP:=hQ h;have HT:=hQ (show Qha p=p from by unfold Qha;rw[xN hl]);have hl':decide ((1:Int)<(p.rest.length:Int))=false:=xR (by omega);clear h hl;go_enter func133,ntmps133;go_wp2_with fail;go_at_call 132;refine(Qbe _ (HI.out.keep ((xC _ _).alloc (xA _) _))).mono ?_;rintro e w1⟨rfl,hb⟩;have H1:=hQ ((HP.out.keep ((xC _ _).alloc (xA _) (.cells #[.int .i64 0,.string ⟨#[]⟩,.string ⟨#[]⟩] 88))).keep hb);have d0:=H1.out.c0;have e0:=H1.out.lt;have r0:=(hb.block w.heap.size (by simp)).trans (xH w _);have HB:=hQ hb;clear hb;have r1:w1.cell? ⟨w.heap.size,0,none⟩=some (.int .i64 0):=by (rw[Lib.cell_of_heap r0];rfl)
 have r2:w1.cell? ⟨w.heap.size,1,none⟩=some (.string ⟨#[]⟩):=by (rw[Lib.cell_of_heap r0];rfl)
 have r3:w1.cell? ⟨w.heap.size,2,none⟩=some (.string ⟨#[]⟩):=by (rw[Lib.cell_of_heap r0];rfl)
 have r4:=xL r0;have r5:w.heap.size<w1.heap.size:=xK w1 _ r1;clear r0;go_wp2;have hB:=((((xC w.heap.size w).alloc (xA _) (.cells #[.int .i64 0,.string ⟨#[]⟩,.string ⟨#[]⟩] 88)).trans (HB.out.mono (by simp))).setCell (p:=⟨w.heap.size,0,none⟩) (xA _) (.int .i64 (Qad p).kind)).setCell (p:=⟨w.heap.size,1,none⟩) (xA _) (.string (Qad p).lead) |>.setCell (p:=⟨w.heap.size,2,none⟩) (xA _) (.string (Qad p).text) |>.alloc (by simp[World.setCell];omega) (.cells #[.int .i64 (Qad p).kind,.string (Qad p).lead,.string (Qad p).text] 88)
 exact bodyPost_ret (v:=.agg #[.int .i64 (Qad p).kind,.string (Qad p).lead,.string (Qad p).text]) (by simp[results,results133,go_sem, *]) rfl ⟨rfl,by rw[HT.out];exact HI.out.keep hB,.of hB⟩
theorem Qor{P:Program}{c:Code}{Q:Exit->Act->World->Prop}{a:Act}{w:World}(h:∀ w',w'=w->Code.wp P c Q a w'):Code.wp P c Q a w:=h w rfl
theorem Qtp{P:Program}{ops:Array Oper}{l:List Oper}{Q:Exit->Act->World->Prop}{a:Act}{w:World}(h:∀ w',w'=w->wpList P ops Q l a w'):wpList P ops Q l a w:=h w rfl
theorem Qab{w:World}{b:Nat}{cs:Array Value}{T:TypeId}(h:w.heap[b]? = some (.cells cs T (0,0)))(i:Nat)(u:Value)(hu:cs[i]? = some u):w.cell? ⟨b,i,none⟩=some u:=by rw[Lib.cell_of_heap h];exact hu
theorem Qaa{w:World}{b:Nat}{o:Obj}(h:w.heap[b]? = some o):b<w.heap.size:=by
 rcases Nat.lt_or_ge b w.heap.size with h' | h'
 ·exact h'
 ·simp[Array.getElem?_eq_none h']at h
theorem Zae{b:Nat}{p:PS}(w:World)(h:PIn w b p)(hl:1<p.rest.length):Calls prog 133 #[.pointer (some ⟨b,0,none⟩)] w (Qp7 b p w):=by
 have HI:=hQ h;obtain⟨tb,off,c,h⟩:=h;have HP:=hQ h;have HT:=hQ (show Qha p=⟨p.rest.drop 1,p.read+((Qad p).lead.size+(Qad p).text.size),p.place,p.e⟩ from by unfold Qha;rw[xO hl]);have HO:=hQ h.ok.take;have hl1:(1:Int)<(p.rest.length:Int):=by omega
 have hl2:(1:Int)<=(p.rest.length:Int):=by omega
 have hl3:(p.rest.length:Int)<=(c:Int):=by have:=h.cap;omega
 have HL:=hQ hl;have hle:=h.ok.nextLe;clear h hl;go_enter func133,ntmps133;go_wp2_with fail;go_at_call 132;refine(Qbe _ (HI.out.keep ((xC _ _).alloc (xA _) _))).mono ?_;rintro e w1⟨rfl,hb⟩;have H1:=hQ ((HP.out.keep ((xC _ _).alloc (xA _) (.cells #[.int .i64 0,.string ⟨#[]⟩,.string ⟨#[]⟩] 88))).keep hb);have d0:=H1.out.c0;have d1:=H1.out.c1;have dz:=H1.out.frozen;have e0:=H1.out.lt;have r0:=(hb.block w.heap.size (by simp)).trans (xH w _);have R0:=hQ r0;have HB:=hQ (((xC w.heap.size w).alloc (xA _) (.cells #[.int .i64 0,.string ⟨#[]⟩,.string ⟨#[]⟩] 88)).trans (hb.mono (by simp)));have r5:=Qaa r0;clear hb r0;go_wp2;refine Qor ?_;intro w2 hw2
 have g0:w2.heap[b]? = some (.cells #[.slice (some ⟨tb,off+3,none⟩) (p.rest.length-1) (c-1),.int .i64 p.read,.int .i64 p.place,.int .i64 p.e] 90 (0,0)):=by
  rw[hw2,Below.heap_alloc _ _ _ (by simpa [World.setCell] using e0)];exact Qm3 H1.out.heap
 have g1:w2.heap[w1.heap.size]? = some (.cells #[.int .i64 (Qad p).kind,.string (Qad p).lead,.string (Qad p).text] 88 (0,0)):=by
  rw[hw2];exact(by simp[World.setCell]:w1.heap.size=(w1.setCell ⟨b,0,none⟩ (.slice (some ⟨tb,off+3,none⟩) (p.rest.length-1) (c-1))).heap.size) ▸ xH _ _
 have hne:w.heap.size≠b:=by have:=HI.out.lt;omega
 have g2:w2.heap[w.heap.size]? = some (.cells #[.int .i64 0,.string ⟨#[]⟩,.string ⟨#[]⟩] 88 (0,0)):=by
  rw[hw2,Below.heap_alloc _ _ _ (by simpa [World.setCell] using r5),Below.heap_setCell _ _ _ _ hne];exact R0.out
 have HW:=hQ (show Off b w w2 from by rw[hw2];exact((Off.of HB.out).trans (Off.set _ _)).trans (Off.alloc _));have n1:w1.heap.size≠b:=by omega
 have n2:w.heap.size≠w1.heap.size:=by omega
 clear hw2 d0 d1 dz e0;have k1:=Qab g0 1 _ rfl;have kf:=xL g0;have t0:=Qab g1 0 _ rfl;have t1:=Qab g1 1 _ rfl;have t2:=Qab g1 2 _ rfl;have z1:IntKind.i64.wrap (((Qad p).lead.size:Int)+((Qad p).text.size:Int))=((Qad p).lead.size:Int)+((Qad p).text.size:Int):=IntWalk.i64_in _ (by omega);have z2:IntKind.i64.wrap ((p.read:Int)+(((Qad p).lead.size:Int)+((Qad p).text.size:Int)))=(p.read:Int)+(((Qad p).lead.size:Int)+((Qad p).text.size:Int)):=IntWalk.i64_in _ (by omega)
 go_still_tail 14,(by kernel_rfl)
 change wpList _ _ _ _ _ w2.drew
 clear k1 kf t0 t1 t2;refine Qtp ?_;intro w3 hw3;have G0:w3.heap[b]? = _:=(by rw[hw3];rfl:w3.heap[b]? = w2.heap[b]?).trans g0;have G1:w3.heap[w1.heap.size]? = _:=(by rw[hw3];rfl:w3.heap[w1.heap.size]? = w2.heap[w1.heap.size]?).trans g1;have G2:w3.heap[w.heap.size]? = _:=(by rw[hw3];rfl:w3.heap[w.heap.size]? = w2.heap[w.heap.size]?).trans g2;have HW3:=hQ (show Off b w w3 from by rw[hw3];exact HW.out.trans Off.drew);clear hw3 g0 g1 g2;have k1:=Qab G0 1 _ rfl;have kf:=xL G0;have t0:=Qab G1 0 _ rfl;have t1:=Qab G1 1 _ rfl;have t2:=Qab G1 2 _ rfl;have r1:=Qab G2 0 _ rfl;have r2:=Qab G2 1 _ rfl;have r3:=Qab G2 2 _ rfl;have rf:=xL G2;have HG:=hQ G0;clear G0 G1 G2;go_wp2;refine bodyPost_ret (v:=.agg #[.int .i64 (Qad p).kind,.string (Qad p).lead,.string (Qad p).text]) (by simp[results,results133,go_sem, *]) rfl ?_;have hoff:=(((HW3.out.setOwn 1 (.int .i64 ((p.read:Int)+(((Qad p).lead.size:Int)+((Qad p).text.size:Int))))).setNew (xA _) 0 (.int .i64 (Qad p).kind)).setNew (xA _) 1 (.string (Qad p).lead)).setNew (xA _) 2 (.string (Qad p).text);refine⟨rfl,HP.out.turn (n:=1) (c':=c-1) hoff ?_ (by rw[HT.out]) (by rw[HT.out];have:=HL.out;simp only[List.length_drop];omega) HO.out,hoff⟩;rw[HT.out];rw[Below.heap_setCell _ _ _ _ (Ne.symm hne),Below.heap_setCell _ _ _ _ (Ne.symm hne),Below.heap_setCell _ _ _ _ (Ne.symm hne),Qa1 (i:=1) HG.out rfl];simp
theorem Qg3{b:Nat}{p:PS}(w:World)(h:PIn w b p):Calls prog 133 #[.pointer (some ⟨b,0,none⟩)] w (Qp7 b p w):=by
 by_cases hl:1<p.rest.length
 ·exact Zae w h hl
 ·exact Zfo w h hl
theorem Qh8(k:Int)(x y:yD)(w:World):(Instr.field 88 (.agg #[.int .i64 k,.string x,.string y]) 1).run prog w = .ok (.string x) w:=by kernel_rfl
theorem Qe2(k:Int)(x y:yD)(w:World):(Instr.field 88 (.agg #[.int .i64 k,.string x,.string y]) 2).run prog w = .ok (.string y) w:=by kernel_rfl
def Qp8(b x:Nat)(p:PS)(w:World)(e:Ending)(w':World):Prop:=e = .returned (.tuple #[])/\PIn w' b (Qkd p x)/\Off b w w'
theorem Zaf{b x:Nat}{p:PS}(w:World)(h:PIn w b p)(he:p.e≠0):Calls prog 131 #[.pointer (some ⟨b,0,none⟩),.int .i64 x] w (Qp8 b x p w):=by
 obtain⟨tb,off,c,h⟩:=h;have HP:=hQ h;have HF:=hQ (show Qkd p x=⟨p.rest.drop (p.rest.length-1),p.read,p.place,p.e⟩ from by unfold Qkd;rw[xN he,xN he]);have HO:=hQ (h.ok.fail x);have HL:=hQ h.pos;have g0:=h.heap;have he':((p.e:Int)==0)=false:=Qcr (by omega);have c0:=h.c0;have c3:=h.c3;have cf:=h.frozen;have hl0:(0:Int)<=(p.rest.length:Int)-1:=by have:=h.pos;omega
 have hl1:(p.rest.length:Int)-1<=(p.rest.length:Int):=by omega
 have hl2:(p.rest.length:Int)<=(c:Int):=by have:=h.cap;omega
 have hl3:(p.rest.length:Int)<=65536:=by have:=h.ok.len;omega
 have z1:IntKind.i64.wrap ((p.rest.length:Int)-1)=(p.rest.length:Int)-1:=IntWalk.i64_in _ (by omega);have z2:((p.rest.length:Int)-1).toNat=p.rest.length-1:=by omega
 have z3:(1:Int)<=(p.rest.length:Int):=by omega
 have z4:¬ c=p.rest.length-1:=by have:=h.cap;have:=h.pos;omega
 have z5:p.rest.length-(p.rest.length-1)=1:=by have:=h.pos;omega
 clear h he;go_enter func131,ntmps131;go_wp2
 go_still_tail 14,(by kernel_rfl)
 change wpList _ _ _ _ _ w.drew
 go_wp2;refine bodyPost_end (v:=.tuple #[]) (by simp[results,results131,go_sem]) rfl ?_;have hoff:Off b w (w.setCell ⟨b,0,none⟩ (.slice (some ⟨tb,off+(p.rest.length-1)*3,none⟩) 1 (c-(p.rest.length-1)))).drew:=(Off.drew (b:=b) (w:=w)).setOwn 0 (.slice (some ⟨tb,off+(p.rest.length-1)*3,none⟩) 1 (c-(p.rest.length-1)));refine⟨rfl,HP.out.turn (n:=p.rest.length-1) (c':=c-(p.rest.length-1)) hoff ?_ (by rw[HF.out]) (by rw[HF.out];have:=HP.out.cap;simp only[List.length_drop];omega) HO.out,hoff⟩;rw[HF.out];refine(Qm3 (w:=w.drew) g0).trans ?_;simp[z5]
theorem Qxa{b x:Nat}{p:PS}(w:World)(h:PIn w b p)(he:p.e=0):Calls prog 131 #[.pointer (some ⟨b,0,none⟩),.int .i64 x] w (Qp8 b x p w):=by
 have HI:=hQ h;obtain⟨tb,off,c,h⟩:=h;have HP:=hQ h;have HF:=hQ (show Qkd p x=⟨p.rest.drop (p.rest.length-1),p.read,p.read+(Qad p).lead.size,x⟩ from by unfold Qkd;rw[xO he,xO he]);have HO:=hQ (h.ok.fail x);have HL:=hQ h.pos;have g0:=h.heap;have he':((p.e:Int)==0)=true:=by simp[he]
 have c0:=h.c0;have c1:=h.c1;have c3:=h.c3;have cf:=h.frozen;have e0:=h.lt;have hl0:(0:Int)<=(p.rest.length:Int)-1:=by have:=h.pos;omega
 have hl1:(p.rest.length:Int)-1<=(p.rest.length:Int):=by omega
 have hl2:(p.rest.length:Int)<=(c:Int):=by have:=h.cap;omega
 have hl3:(p.rest.length:Int)<=65536:=by have:=h.ok.len;omega
 have z1:IntKind.i64.wrap ((p.rest.length:Int)-1)=(p.rest.length:Int)-1:=IntWalk.i64_in _ (by omega);have z2:((p.rest.length:Int)-1).toNat=p.rest.length-1:=by omega
 have z3:(1:Int)<=(p.rest.length:Int):=by omega
 have z4:¬ c=p.rest.length-1:=by have:=h.cap;have:=h.pos;omega
 have z5:p.rest.length-(p.rest.length-1)=1:=by have:=h.pos;omega
 have z6:IntKind.i64.wrap ((p.read:Int)+((Qad p).lead.size:Int))=(p.read:Int)+((Qad p).lead.size:Int):=IntWalk.i64_in _ (by have:=h.ok.nextLe;omega);clear h he;go_enter func131,ntmps131;go_wp2_with fail;have hfl:=fun(w:World)=>Qh8 (Qad p).kind (Qad p).lead (Qad p).text w
 go_region_held3 (fun w'=>w'.cell? ⟨b,1,none⟩=some (.int .i64 p.read)) (first | go_keep | (rw[World.cell?_setCell_other _ _ _ _ (by simp)];assumption) | simp[*,go_sem])
  (first | (go_at_call 132;refine(Qbe _ (HI.out.keep (xC _ _).drew)).mono ?_;rintro e w1⟨rfl,hb⟩;have H1:=HP.out.keep ((xC _ _).drew.trans hb);have d1:=H1.c1;have d0:=H1.c0;have d2:=H1.c2;have d3:=H1.c3;have df:=H1.frozen;have H1':=hQ H1;have HB:=hQ hb;clear hb H1))
 go_wp2;refine Qor ?_;intro w2 hw2
 have G0:w2.heap[b]? = some (.cells #[.slice (some ⟨tb,off,none⟩) p.rest.length c,.int .i64 p.read,.int .i64 ((p.read:Int)+((Qad p).lead.size:Int)),.int .i64 x] 90 (0,0)):=by
  rw[hw2];exact Qa1 (Qa1 H1'.out.heap rfl) rfl
 have HW:=hQ (show Off b w w2 from by rw[hw2];exact(((Off.drew (b:=b) (w:=w)).trans (Off.of HB.out)).setOwn _ _).setOwn _ _);clear hw2 d0 d1 d2 d3 df c0 c1 c3 cf;have c0:=Qab G0 0 _ rfl;have cf:=xL G0
 go_still_tail 14,(by kernel_rfl)
 change wpList _ _ _ _ _ w2.drew
 go_wp2;refine bodyPost_end (v:=.tuple #[]) (by simp[results,results131,go_sem]) rfl ?_;have hoff:Off b w (w2.setCell ⟨b,0,none⟩ (.slice (some ⟨tb,off+(p.rest.length-1)*3,none⟩) 1 (c-(p.rest.length-1)))).drew:=(HW.out.trans Off.drew).setOwn 0 _;refine⟨rfl,HP.out.turn (n:=p.rest.length-1) (c':=c-(p.rest.length-1)) hoff ?_ (by rw[HF.out]) (by rw[HF.out];have:=HP.out.cap;simp only[List.length_drop];omega) HO.out,hoff⟩;rw[HF.out];refine(Qm3 (w:=w2.drew) G0).trans ?_;simp[z5]
theorem Qmr{b x:Nat}{p:PS}(w:World)(h:PIn w b p):Calls prog 131 #[.pointer (some ⟨b,0,none⟩),.int .i64 x] w (Qp8 b x p w):=by
 by_cases he:p.e=0
 ·exact Qxa w h he
 ·exact Zaf w h he
theorem Qxb(t:Tok)(w:World)(h0:(t.text.toList == [73,110,116])=true):Calls prog 158 #[.agg #[.int .i64 t.kind,.string t.lead,.string t.text]] w fun e w'=>e = .returned (.int .i64 (Qc2 t))/\Below w.heap.size w w':=by
 have HR:=hQ (show Qc2 t=5 from by unfold Qc2;simp only[<-Qbj,h0];rfl);go_enter func158,ntmps158;go_wp2;go_ret;exact⟨by rw[HR.out];rfl,(xC _ _).alloc (xA _) _⟩
theorem Qxc(t:Tok)(w:World)(h0:(t.text.toList == [73,110,116])=false)(h1:(t.text.toList == [84,101,120,116])=true):Calls prog 158 #[.agg #[.int .i64 t.kind,.string t.lead,.string t.text]] w fun e w'=>e = .returned (.int .i64 (Qc2 t))/\Below w.heap.size w w':=by
 have HR:=hQ (show Qc2 t=6 from by unfold Qc2;simp only[<-Qbj,h0,h1];rfl);go_enter func158,ntmps158;go_wp2;go_ret;exact⟨by rw[HR.out];rfl,(xC _ _).alloc (xA _) _⟩
theorem Qxd(t:Tok)(w:World)(h0:(t.text.toList == [73,110,116])=false)(h1:(t.text.toList == [84,101,120,116])=false)(h2:(t.text.toList == [66,111,111,108])=true):Calls prog 158 #[.agg #[.int .i64 t.kind,.string t.lead,.string t.text]] w fun e w'=>e = .returned (.int .i64 (Qc2 t))/\Below w.heap.size w w':=by
 have HR:=hQ (show Qc2 t=7 from by unfold Qc2;simp only[<-Qbj,h0,h1,h2];rfl);go_enter func158,ntmps158;go_wp2;go_ret;exact⟨by rw[HR.out];rfl,(xC _ _).alloc (xA _) _⟩
theorem Qxe(t:Tok)(w:World)(h0:(t.text.toList == [73,110,116])=false)(h1:(t.text.toList == [84,101,120,116])=false)(h2:(t.text.toList == [66,111,111,108])=false)(h3:(t.text.toList == [91])=true):Calls prog 158 #[.agg #[.int .i64 t.kind,.string t.lead,.string t.text]] w fun e w'=>e = .returned (.int .i64 (Qc2 t))/\Below w.heap.size w w':=by
 have HR:=hQ (show Qc2 t=8 from by unfold Qc2;simp only[<-Qbj,h0,h1,h2,h3];rfl);go_enter func158,ntmps158;go_wp2;go_ret;exact⟨by rw[HR.out];rfl,(xC _ _).alloc (xA _) _⟩
theorem Qxf(t:Tok)(w:World)(h0:(t.text.toList == [73,110,116])=false)(h1:(t.text.toList == [84,101,120,116])=false)(h2:(t.text.toList == [66,111,111,108])=false)(h3:(t.text.toList == [91])=false):Calls prog 158 #[.agg #[.int .i64 t.kind,.string t.lead,.string t.text]] w fun e w'=>e = .returned (.int .i64 (Qc2 t))/\Below w.heap.size w w':=by
 have HR:=hQ (show Qc2 t=if Qbv 3 t.kind t.text=true then 9 else 0 from by
  unfold Qc2 Qbv;simp only[<-Qbj,h0,h1,h2,h3];simp)
 cases hn:Qbv 3 t.kind t.text
 all_goals
  rw[hn]at HR;go_enter func158,ntmps158;go_wp2_with (go_at_call 128;refine(Qh7 t _).mono ?_;rintro e w1⟨rfl,hb⟩;have HB:=hQ hb;clear hb)
  go_ret;exact⟨by rw[HR.out];rfl,((xC _ _).alloc (xA _) _).trans (HB.out.mono (by simp))⟩
theorem Qrf(t:Tok)(w:World):Calls prog 158 #[.agg #[.int .i64 t.kind,.string t.lead,.string t.text]] w fun e w'=>e = .returned (.int .i64 (Qc2 t))/\Below w.heap.size w w':=by
 cases h0:(t.text.toList == [73,110,116])
 case true=>exact Qxb t w h0
 cases h1:(t.text.toList == [84,101,120,116])
 case true=>exact Qxc t w h0 h1
 cases h2:(t.text.toList == [66,111,111,108])
 case true=>exact Qxd t w h0 h1 h2
 cases h3:(t.text.toList == [91])
 case true=>exact Qxe t w h0 h1 h2 h3
 exact Qxf t w h0 h1 h2 h3
theorem Zm0(k:Int)(w:World):Calls prog 97 #[.int .i64 1,.int .i64 k] w fun e w'=>e = .returned (.bool (Qfd 1 k))/\w=w':=by
 cases h1:(k==2)
 all_goals
  have HR:=hQ (show Qfd 1 k=_ from by unfold Qfd;simp only[if_true,h1];rfl);go_enter func97,ntmps97;go_wp2;go_ret;exact⟨by rw[HR.out];rfl,rfl⟩
theorem Zm1(k:Int)(w:World):Calls prog 97 #[.int .i64 2,.int .i64 k] w fun e w'=>e = .returned (.bool (Qfd 2 k))/\w=w':=by
 go_enter func97,ntmps97;go_wp2;go_ret;exact⟨rfl,rfl⟩
theorem Zm2(k:Int)(w:World):Calls prog 97 #[.int .i64 3,.int .i64 k] w fun e w'=>e = .returned (.bool (Qfd 3 k))/\w=w':=by
 cases h1:decide (5<=k)
 all_goals
  have HR:=hQ (show Qfd 3 k=_ from by unfold Qfd;simp only[h1];rfl);go_enter func97,ntmps97;go_wp2;go_ret;exact⟨by rw[HR.out];rfl,rfl⟩
theorem Zm3(k:Int)(w:World):Calls prog 97 #[.int .i64 4,.int .i64 k] w fun e w'=>e = .returned (.bool (Qfd 4 k))/\w=w':=by
 go_enter func97,ntmps97;go_wp2;go_ret;exact⟨rfl,rfl⟩
theorem Zi3(s k:Int)(w:World)(s1:(s==1)=false)(s2:(s==2)=false)(s3:(s==3)=false)(s4:(s==4)=false)(k1:(k==17)=true):Calls prog 97 #[.int .i64 s,.int .i64 k] w fun e w'=>e = .returned (.bool (Qfd s k))/\w=w':=by
 have HR:=hQ (show Qfd s k=false from by unfold Qfd;simp[show s≠1 from by simpa using s1,show s≠2 from by simpa using s2,show s≠3 from by simpa using s3,show s≠4 from by simpa using s4,show k=17 from by simpa using k1]);go_enter func97,ntmps97;go_wp2;go_ret;exact⟨by rw[HR.out];rfl,rfl⟩
theorem Zi4(s k:Int)(w:World)(s1:(s==1)=false)(s2:(s==2)=false)(s3:(s==3)=false)(s4:(s==4)=false)(k1:(k==17)=false)(k2:(k==19)=true):Calls prog 97 #[.int .i64 s,.int .i64 k] w fun e w'=>e = .returned (.bool (Qfd s k))/\w=w':=by
 have HR:=hQ (show Qfd s k=(s==5) from by unfold Qfd;simp[show s≠1 from by simpa using s1,show s≠2 from by simpa using s2,show s≠3 from by simpa using s3,show s≠4 from by simpa using s4,show k=19 from by simpa using k2]);go_enter func97,ntmps97;go_wp2;go_ret;exact⟨by rw[HR.out];rfl,rfl⟩
theorem Zi5(s k:Int)(w:World)(s1:(s==1)=false)(s2:(s==2)=false)(s3:(s==3)=false)(s4:(s==4)=false)(k1:(k==17)=false)(k2:(k==19)=false)(k3:(k==20)=true):Calls prog 97 #[.int .i64 s,.int .i64 k] w fun e w'=>e = .returned (.bool (Qfd s k))/\w=w':=by
 have HR:=hQ (show Qfd s k=(s==5) from by unfold Qfd;simp[show s≠1 from by simpa using s1,show s≠2 from by simpa using s2,show s≠3 from by simpa using s3,show s≠4 from by simpa using s4,show k=20 from by simpa using k3]);go_enter func97,ntmps97;go_wp2;go_ret;exact⟨by rw[HR.out];rfl,rfl⟩
theorem Zi6(s k:Int)(w:World)(s1:(s==1)=false)(s2:(s==2)=false)(s3:(s==3)=false)(s4:(s==4)=false)(k1:(k==17)=false)(k2:(k==19)=false)(k3:(k==20)=false)(k4:(k==21)=true):Calls prog 97 #[.int .i64 s,.int .i64 k] w fun e w'=>e = .returned (.bool (Qfd s k))/\w=w':=by
 have HR:=hQ (show Qfd s k=(s != 7) from by unfold Qfd;simp[show s≠1 from by simpa using s1,show s≠2 from by simpa using s2,show s≠3 from by simpa using s3,show s≠4 from by simpa using s4,show k=21 from by simpa using k4]);go_enter func97,ntmps97;go_wp2;go_ret;exact⟨by rw[HR.out];rfl,rfl⟩
theorem Zfp(s k:Int)(w:World)(s1:(s==1)=false)(s2:(s==2)=false)(s3:(s==3)=false)(s4:(s==4)=false)(k1:(k==17)=false)(k2:(k==19)=false)(k3:(k==20)=false)(k4:(k==21)=false):Calls prog 97 #[.int .i64 s,.int .i64 k] w fun e w'=>e = .returned (.bool (Qfd s k))/\w=w':=by
 cases h1:decide (10<=k)
 all_goals
  have HR:=hQ (show Qfd s k=_ from by unfold Qfd;simp only[show s≠1 from by simpa using s1,show s≠2 from by simpa using s2,show s≠3 from by simpa using s3,show s≠4 from by simpa using s4,show k≠17 from by simpa using k1,show k≠19 from by simpa using k2,show k≠20 from by simpa using k3,show k≠21 from by simpa using k4,if_false,or_self,h1];rfl);go_enter func97,ntmps97;go_wp2;go_ret;exact⟨by rw[HR.out];rfl,rfl⟩
theorem Qhb(s k:Int)(w:World):Calls prog 97 #[.int .i64 s,.int .i64 k] w fun e w'=>e = .returned (.bool (Qfd s k))/\w=w':=by
 cases s1:(s==1)
 case true=>rw[show s=1 from by simpa using s1];exact Zm0 k w
 cases s2:(s==2)
 case true=>rw[show s=2 from by simpa using s2];exact Zm1 k w
 cases s3:(s==3)
 case true=>rw[show s=3 from by simpa using s3];exact Zm2 k w
 cases s4:(s==4)
 case true=>rw[show s=4 from by simpa using s4];exact Zm3 k w
 cases k1:(k==17)
 case true=>exact Zi3 s k w s1 s2 s3 s4 k1
 cases k2:(k==19)
 case true=>exact Zi4 s k w s1 s2 s3 s4 k1 k2
 cases k3:(k==20)
 case true=>exact Zi5 s k w s1 s2 s3 s4 k1 k2 k3
 cases k4:(k==21)
 case true=>exact Zi6 s k w s1 s2 s3 s4 k1 k2 k3 k4
 exact Zfp s k w s1 s2 s3 s4 k1 k2 k3 k4
theorem Qhc(f:FuncId)(w:World):(binOp .neq 129 (.func (.func f) #[] #[]) .nilFunc).run prog w = .ok (.bool true) w:=by kernel_rfl
theorem Zag(w:World):(binOp .neq 129 .nilFunc .nilFunc).run prog w = .ok (.bool false) w:=by kernel_rfl
theorem Zle(s:yD)(k l m:Int)(se co:Bool)(t:Tok)(w:World):Calls prog 135 #[.agg #[.string s,.nilFunc,.int .i64 k,.int .i64 l,.int .i64 m,.bool se,.bool co],.agg #[.int .i64 t.kind,.string t.lead,.string t.text]] w fun e w'=>e = .returned (.bool (Qfe ⟨s,0,k,l,m,se,co⟩ t))/\Below w.heap.size w w':=by
 have HR:=hQ (show Qfe ⟨s,0,k,l,m,se,co⟩ t=(s.toList==t.text.toList) from by unfold Qfe;rw[xO rfl];unfold is;rw[ByteArray.toList_eq,ByteArray.toList_eq,Bool.eq_iff_iff];simp only[beq_iff_eq];exact eq_comm);have hn:=Zag;go_enter func135,ntmps135;go_wp2;go_ret;exact⟨by rw[HR.out];rfl,((xC _ _).alloc (xA _) _).alloc (by simp) _⟩
theorem Zlf(s:yD)(k l m:Int)(se co:Bool)(t:Tok)(w:World):Calls prog 135 #[.agg #[.string s,.func (.func 124) #[] #[],.int .i64 k,.int .i64 l,.int .i64 m,.bool se,.bool co],.agg #[.int .i64 t.kind,.string t.lead,.string t.text]] w fun e w'=>e = .returned (.bool (Qfe ⟨s,1,k,l,m,se,co⟩ t))/\Below w.heap.size w w':=by
 have HR:=hQ (show Qfe ⟨s,1,k,l,m,se,co⟩ t=Qbv 1 t.kind t.text from by unfold Qfe;rw[xN (fun e:(1:Nat)=0=>absurd e (by decide))]);have hn:=Qhc;go_enter func135,ntmps135;go_wp2_with (go_at_call 124;refine(Qre t _).mono ?_;rintro e w1⟨rfl,hb⟩;have HB:=hQ hb;clear hb)
 go_ret;exact⟨by rw[HR.out];rfl,(((xC _ _).alloc (xA _) _).alloc (by simp) _).trans (HB.out.mono (by simp;omega))⟩
theorem Zlg(s:yD)(k l m:Int)(se co:Bool)(t:Tok)(w:World):Calls prog 135 #[.agg #[.string s,.func (.func 126) #[] #[],.int .i64 k,.int .i64 l,.int .i64 m,.bool se,.bool co],.agg #[.int .i64 t.kind,.string t.lead,.string t.text]] w fun e w'=>e = .returned (.bool (Qfe ⟨s,2,k,l,m,se,co⟩ t))/\Below w.heap.size w w':=by
 have HR:=hQ (show Qfe ⟨s,2,k,l,m,se,co⟩ t=Qbv 2 t.kind t.text from by unfold Qfe;rw[xN (fun e:(2:Nat)=0=>absurd e (by decide))]);have hn:=Qhc;go_enter func135,ntmps135;go_wp2_with (go_at_call 126;refine(Qke t _).mono ?_;rintro e w1⟨rfl,hb⟩;have HB:=hQ hb;clear hb)
 go_ret;exact⟨by rw[HR.out];rfl,(((xC _ _).alloc (xA _) _).alloc (by simp) _).trans (HB.out.mono (by simp;omega))⟩
theorem Zlh(s:yD)(k l m:Int)(se co:Bool)(t:Tok)(w:World):Calls prog 135 #[.agg #[.string s,.func (.func 128) #[] #[],.int .i64 k,.int .i64 l,.int .i64 m,.bool se,.bool co],.agg #[.int .i64 t.kind,.string t.lead,.string t.text]] w fun e w'=>e = .returned (.bool (Qfe ⟨s,3,k,l,m,se,co⟩ t))/\Below w.heap.size w w':=by
 have HR:=hQ (show Qfe ⟨s,3,k,l,m,se,co⟩ t=Qbv 3 t.kind t.text from by unfold Qfe;rw[xN (fun e:(3:Nat)=0=>absurd e (by decide))]);have hn:=Qhc;go_enter func135,ntmps135;go_wp2_with (go_at_call 128;refine(Qh7 t _).mono ?_;rintro e w1⟨rfl,hb⟩;have HB:=hQ hb;clear hb)
 go_ret;exact⟨by rw[HR.out];rfl,(((xC _ _).alloc (xA _) _).alloc (by simp) _).trans (HB.out.mono (by simp;omega))⟩
theorem Zli(s:yD)(k l m:Int)(se co:Bool)(t:Tok)(w:World):Calls prog 135 #[.agg #[.string s,.func (.func 156) #[] #[],.int .i64 k,.int .i64 l,.int .i64 m,.bool se,.bool co],.agg #[.int .i64 t.kind,.string t.lead,.string t.text]] w fun e w'=>e = .returned (.bool (Qfe ⟨s,4,k,l,m,se,co⟩ t))/\Below w.heap.size w w':=by
 have HR:=hQ (show Qfe ⟨s,4,k,l,m,se,co⟩ t=Qbv 4 t.kind t.text from by unfold Qfe;rw[xN (fun e:(4:Nat)=0=>absurd e (by decide))]);have hn:=Qhc;go_enter func135,ntmps135;go_wp2_with (go_at_call 156;refine(Qoq t _).mono ?_;rintro e w1⟨rfl,hb⟩;have HB:=hQ hb;clear hb)
 go_ret;exact⟨by rw[HR.out];rfl,(((xC _ _).alloc (xA _) _).alloc (by simp) _).trans (HB.out.mono (by simp;omega))⟩
theorem Zlj(s:yD)(k l m:Int)(se co:Bool)(t:Tok)(w:World):Calls prog 135 #[.agg #[.string s,.func (.func 154) #[] #[],.int .i64 k,.int .i64 l,.int .i64 m,.bool se,.bool co],.agg #[.int .i64 t.kind,.string t.lead,.string t.text]] w fun e w'=>e = .returned (.bool (Qfe ⟨s,5,k,l,m,se,co⟩ t))/\Below w.heap.size w w':=by
 have HR:=hQ (show Qfe ⟨s,5,k,l,m,se,co⟩ t=Qbv 5 t.kind t.text from by unfold Qfe;rw[xN (fun e:(5:Nat)=0=>absurd e (by decide))]);have hn:=Qhc;go_enter func135,ntmps135;go_wp2_with (go_at_call 154;refine(Qoo t _).mono ?_;rintro e w1⟨rfl,hb⟩;have HB:=hQ hb;clear hb)
 go_ret;exact⟨by rw[HR.out];rfl,(((xC _ _).alloc (xA _) _).alloc (by simp) _).trans (HB.out.mono (by simp;omega))⟩
theorem Zlk(s:yD)(k l m:Int)(se co:Bool)(t:Tok)(w:World):Calls prog 135 #[.agg #[.string s,.func (.func 155) #[] #[],.int .i64 k,.int .i64 l,.int .i64 m,.bool se,.bool co],.agg #[.int .i64 t.kind,.string t.lead,.string t.text]] w fun e w'=>e = .returned (.bool (Qfe ⟨s,6,k,l,m,se,co⟩ t))/\Below w.heap.size w w':=by
 have HR:=hQ (show Qfe ⟨s,6,k,l,m,se,co⟩ t=Qbv 6 t.kind t.text from by unfold Qfe;rw[xN (fun e:(6:Nat)=0=>absurd e (by decide))]);have hn:=Qhc;go_enter func135,ntmps135;go_wp2_with (go_at_call 155;refine(Qop t _).mono ?_;rintro e w1⟨rfl,hb⟩;have HB:=hQ hb;clear hb)
 go_ret;exact⟨by rw[HR.out];rfl,(((xC _ _).alloc (xA _) _).alloc (by simp) _).trans (HB.out.mono (by simp;omega))⟩
theorem Zll(s:yD)(k l m:Int)(se co:Bool)(t:Tok)(w:World):Calls prog 135 #[.agg #[.string s,.func (.func 134) #[] #[],.int .i64 k,.int .i64 l,.int .i64 m,.bool se,.bool co],.agg #[.int .i64 t.kind,.string t.lead,.string t.text]] w fun e w'=>e = .returned (.bool (Qfe ⟨s,7,k,l,m,se,co⟩ t))/\Below w.heap.size w w':=by
 have HR:=hQ (show Qfe ⟨s,7,k,l,m,se,co⟩ t=opB t.text from by unfold Qfe;rw[xN (fun e:(7:Nat)=0=>absurd e (by decide))];rfl);have hn:=Qhc;go_enter func135,ntmps135;go_wp2_with (go_at_call 134;refine(Qg2 t _).mono ?_;rintro e w1⟨rfl,hb⟩;have HB:=hQ hb;clear hb)
 go_ret;exact⟨by rw[HR.out];rfl,(((xC _ _).alloc (xA _) _).alloc (by simp) _).trans (HB.out.mono (by simp;omega))⟩
theorem Qvb(x:Part)(hx:x.nm<=7)(t:Tok)(w:World):Calls prog 135 #[.agg #[.string x.word,fnV x.nm,.int .i64 x.kids,.int .i64 x.least,.int .i64 x.most,.bool x.series,.bool x.commas],.agg #[.int .i64 t.kind,.string t.lead,.string t.text]] w fun e w'=>e = .returned (.bool (Qfe x t))/\Below w.heap.size w w':=by
 obtain⟨s,n,k,l,m,se,co⟩:=x
 match n,hx with
 | 0,_=>exact Zle s k l m se co t w
 | 1,_=>exact Zlf s k l m se co t w
 | 2,_=>exact Zlg s k l m se co t w
 | 3,_=>exact Zlh s k l m se co t w
 | 4,_=>exact Zli s k l m se co t w
 | 5,_=>exact Zlj s k l m se co t w
 | 6,_=>exact Zlk s k l m se co t w
 | 7,_=>exact Zll s k l m se co t w
 | n+8,h=>exact absurd h (by show ¬ n+8<=7;omega)
end Go.Proofs.YtfjpemdejoejbaaGreat
