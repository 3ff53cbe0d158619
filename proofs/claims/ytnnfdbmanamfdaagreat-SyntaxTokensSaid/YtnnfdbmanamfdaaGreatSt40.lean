/- Part 40: The contract of bare of the laws of package syntax. -/
import Derived.Test.YtnnfdbmanamfdaaGreatSt1
import Derived.Test.YtnnfdbmanamfdaaGreatSt37
import Derived.Test.YtnnfdbmanamfdaaGreatSt39
import Derived.Test.YtnnfdbmanamfdaaGreatSt29
import Derived.Deep.DeepCutAuto
set_option maxRecDepth 100000
set_option linter.unusedVariables false
set_option linter.unusedSimpArgs false
set_option maxHeartbeats 4000000
namespace Go.Proofs.YtnnfdbmanamfdaaGreat
open Go.RowKit Go.Shelf
theorem tgt_boxes' (w:World) (a b:Obj):((w.alloc a).alloc b).heap[w.heap.size]? = some a ∧ ((w.alloc a).alloc b).heap[w.heap.size + 1]? = some b :=
 ⟨(((xC (w.alloc a).heap.size _).alloc (xA _) _).block w.heap.size (by simp)).trans (xH w _),by rw [← xI w a];exact xH _ _⟩
theorem made_str (n i:Nat) (h:i < n):(madeCells (Value.string ByteArray.empty).cells (n * 1))[i]? = some (.string ⟨#[]⟩):=by
 have e:(Value.string ByteArray.empty).cells = #[.string ByteArray.empty]:=rfl
 rw [e]
 unfold madeCells
 rw [Array.getElem?_map,Nat.mul_one]
 have:(Array.range n)[i]? = some i:=by simp [h]
 rw [this]
 simp [Nat.mod_one]
 rfl
def BrC (k:Int) (x:ByteArray) (n:Nat) (LE:Array Value) (w:World) (s:Value) (wx:World):Prop:=∃ (g:Nat) (lb:Nat),s = .pointer (some ⟨g,0,none⟩) ∧ wx.heap[g]? = some (.cells #[.int .i64 k,.string x,.slice (some ⟨lb,0,none⟩) n n,.slice none 0 0] 25 (0,0)) ∧
 wx.heap[lb]? = some (.cells LE 9 (0,0)) ∧ w.heap.size ≤ lb ∧ w.heap.size ≤ g ∧ Below w.heap.size w wx
theorem own_set {w:World} {B:Nat} {e:TypeId} {size n:Nat} {v:Value} {xs:List Value} (h:w.ownsRow B e size v n xs) {b o:Nat} {u:Value} (hb:b < B):(w.setCell ⟨b,o,none⟩ u).ownsRow B e size v n xs :=
 ⟨h.1,h.2.imp id fun ⟨g,cap,cur,hv,hB,hh,r⟩=>⟨g,cap,cur,hv,hB,(Qav (by omega)).trans hh,r⟩⟩
theorem own_low {w w1:World} {base:Nat} {e:TypeId} {size n:Nat} {v:Value} {xs:List Value} (h:w.ownsRow base e size v n xs) (hb:Below w.heap.size w w1):w1.ownsRow base e size v n xs :=
 ⟨h.1,h.2.imp id fun ⟨g,cap,cur,hv,hB,hh,r⟩=>⟨g,cap,cur,hv,hB,(hb.block g (Qaa hh)).trans hh,r⟩⟩
def BaAt (t:Tr) (v:TV) (LE:Array Value) (n:Nat) (w:World) (b1 g lb:Nat) (i:Value) (wr:World):Prop :=
 ∃ (j:Nat) (vs:List TV) (ka:Option Addr) (kc:Nat),i = .int .i64 j ∧ j ≤ t.kids.length ∧ vs.length = j ∧ wr.heap[w.heap.size]? = some (trO v) ∧ wr.heap[w.heap.size + 1]? = some (.cells #[.int .i64 0,.string ⟨#[]⟩,.slice none 0 0,.slice none 0 0] 25 (0,0)) ∧
  wr.heap[g]? = some (.cells #[.int .i64 v.kind,.string v.text,.slice (some ⟨lb,0,none⟩) n n,.slice ka j kc] 25 (0,0)) ∧ wr.heap[lb]? = some (.cells LE 9 (0,0)) ∧ wr.ownsRow b1 25 4 (.slice ka j kc) j (Qag vs) ∧
  (∀ (i:Nat) (k:Tr) (u:TV),t.kids[i]? = some k → vs[i]? = some u → TrAt (fun b=>b1 ≤ b ∧ b < wr.heap.size ∧ (Value.slice ka j kc).ownBlock ≠ some b) wr (bareL k) u) ∧ Below w.heap.size w wr ∧ b1 ≤ wr.heap.size
theorem ba_next {t k:Tr} {v y:TV} {LE:Array Value} {n b1 G lb:Nat} {w wr w5 w6:World} {j g cap kc:Nat} {vs:List TV} {ka:Option Addr} {o:Obj} (hk:t.kids[j]? = some k) (hvl:vs.length = j)
  (h0:wr.heap[w.heap.size]? = some (trO v)) (h1:wr.heap[w.heap.size + 1]? = some (.cells #[.int .i64 0,.string ⟨#[]⟩,.slice none 0 0,.slice none 0 0] 25 (0,0)))
  (hG1:w.heap.size + 2 ≤ G) (hG2:G < b1) (hl1:lb < b1) (hl2:lb ≠ G) (hbw:b1 ≤ wr.heap.size)
  (h2:wr.heap[G]? = some (.cells #[.int .i64 v.kind,.string v.text,.slice (some ⟨lb,0,none⟩) n n,.slice ka j kc] 25 (0,0))) (hlb:wr.heap[lb]? = some (.cells LE 9 (0,0))) (how:wr.ownsRow (b1) 25 4 (.slice ka j kc) j (Qag vs))
  (hts:∀ (i:Nat) (k:Tr) (u:TV),t.kids[i]? = some k → vs[i]? = some u → TrAt (fun b=>b1 ≤ b ∧ b < wr.heap.size ∧ (Value.slice ka j kc).ownBlock ≠ some b) wr (bareL k) u) (hb:Below w.heap.size w wr)
  (hb5:Below wr.heap.size wr w5) (hty:TrAt (fun b=>wr.heap.size ≤ b ∧ b < w5.heap.size) w5 (bareL k) y) (ho:w6.ownsRow (b1) 25 4 (.slice (some ⟨g,0,none⟩) (j + 1) cap) (j + 1) (Qag vs ++ y.cells))
  (hg:(w5.alloc o).grownBy w6 (Value.slice ka j kc).ownBlock) (hat:(Value.slice ka j kc).ownBlock = some g ∨ g = w5.heap.size + 1) :
  BaAt t v LE n w b1 G lb (.int .i64 ((j:Int) + 1)) (w6.setCell ⟨G,3,none⟩ (.slice (some ⟨g,0,none⟩) ((j + 1:Nat):Nat) cap)):=by
 have hlt:=(List.getElem?_eq_some_iff.1 hk).1
 have hrow:∀ b,(Value.slice ka j kc).ownBlock = some b → b1 ≤ b ∧ b < wr.heap.size:=how.lt
 have hs5:=hb5.size
 have hs6:w5.heap.size + 1 ≤ w6.heap.size:=by have:=hg.size;rwa [xI] at this
 have hsz:(w6.setCell ⟨G,3,none⟩ (.slice (some ⟨g,0,none⟩) ((j + 1:Nat):Nat) cap)).heap.size = w6.heap.size:=by simp [World.setCell]
 have h56:∀ b,b < w5.heap.size → (Value.slice ka j kc).ownBlock ≠ some b → w6.heap[b]? = w5.heap[b]?:=fun b hl hn=>(hg.block b (by rw [xI];omega) (Ne.symm hn)).trans (Below.heap_alloc w5 _ b hl)
 have hr6:∀ b,b < wr.heap.size → (Value.slice ka j kc).ownBlock ≠ some b → w6.heap[b]? = wr.heap[b]?:=fun b hl hn=>(h56 b (by omega) hn).trans (hb5.block b hl)
 have hlow:∀ b,b < b1 → (Value.slice ka j kc).ownBlock ≠ some b:=fun b hl e=>by have:=hrow b e;omega
 have hge:∀ b,(Value.slice ka j kc).ownBlock ≠ some b → b < w5.heap.size → b ≠ g:=fun b hn hl e=>by
  rcases hat with h | h
  ·exact hn (by rw [h,e])
  ·omega
 have e6:Below w.heap.size wr w6:=⟨(hg.os.trans rfl).trans hb5.os,(hg.tape.trans rfl).trans hb5.tape,(hg.output.trans rfl).trans hb5.output,by omega,fun b hl=>hr6 b (by have:=hb.size;omega) (hlow b (by omega))⟩
 refine ⟨j + 1,vs ++ [y],some ⟨g,0,none⟩,cap,by go_num,by omega,by simp [hvl],(Qav (by omega)).trans ((hr6 _ (Qaa h0) (hlow _ (by omega))).trans h0),(Qav (by omega)).trans ((hr6 _ (Qaa h1) (hlow _ (by omega))).trans h1),Qa0 ((hr6 _ (Qaa h2) (hlow _ (by omega))).trans h2) rfl,(Qav hl2).trans ((hr6 _ (Qaa hlb) (hlow _ hl1)).trans hlb),own_set ?_ (by omega),fun i k' u hk' hu=>?_,(hb.trans e6).setCell (p:=⟨G,3,none⟩) (by show w.heap.size ≤ G;omega) _,by rw [hsz];omega⟩
 ·have e:Qag (vs ++ [y]) = Qag vs ++ y.cells:=by unfold Qag;simp
  rw [e]
  exact ho
 ·by_cases hi:i < j
  ·rw [List.getElem?_append_left (by omega)] at hu
   refine TrAt.move (fun b hb'=>⟨hb'.1,by rw [hsz];omega,fun e=>?_⟩) (fun b hb' hl=>(Qav (by omega)).trans (hr6 b hl hb'.2.2)) _ _ (hts i k' u hk' hu)
   have:g = b:=by simpa [Value.ownBlock] using e
   exact hge b hb'.2.2 (by omega) this.symm
  ·rw [List.getElem?_append_right (by omega)] at hu
   have hij:i = j:=by
    have h3:=(List.getElem?_eq_some_iff.1 hu).1
    simp at h3
    omega
   subst hij
   rw [hvl,Nat.sub_self] at hu
   simp at hu
   subst hu
   have:=hk.symm.trans hk'
   injection this with this
   subst this
   have hn:∀ b,wr.heap.size ≤ b → (Value.slice ka i kc).ownBlock ≠ some b:=fun b hl e=>by have:=hrow b e;omega
   refine TrAt.move (fun b hb'=>⟨by omega,by rw [hsz];omega,fun e=>?_⟩) (fun b hb' hl=>(Qav (by omega)).trans (h56 b hl (hn b hb'.1))) _ _ hty
   have:g = b:=by simpa [Value.ownBlock] using e
   exact hge b (hn b hb'.1) hb'.2 this.symm
theorem ba_row {b1 G:Nat} {wr w5 w6:World} {j kc:Nat} {ka:Option Addr} {xs:List Value} {o x:Obj} (how:wr.ownsRow b1 25 4 (.slice ka j kc) j xs) (hG:G < b1) (h2:wr.heap[G]? = some x) (hb5:Below wr.heap.size wr w5) (hg:(w5.alloc o).grownBy w6 (Value.slice ka j kc).ownBlock):w6.heap[G]? = some x:=by
 have hl:=Qaa h2
 have h5:=hb5.size
 exact (hg.block _ (by rw [xI];omega) (fun e=>by have:=(how.lt _ e.symm).1;omega)).trans ((Below.heap_alloc w5 _ _ (by omega)).trans ((hb5.block _ hl).trans h2))
theorem br_one (k:Int) (x:ByteArray) (n:Nat) (LE:Array Value) (w:World):BrC k x n LE w (.pointer (some ⟨w.heap.size + 1,0,none⟩)) (((w.alloc (.cells LE 9)).alloc (.cells #[.int .i64 k,.string x,.slice (some ⟨w.heap.size,0,none⟩) n n,.slice none 0 0] 25)).drew) :=
 ⟨_,_,rfl,(tgt_boxes' w _ _).2,(tgt_boxes' w _ _).1,xA _,Nat.le_succ _,(((xC w.heap.size w).alloc (xA _) _).alloc (by rw [xI];omega) _).drew⟩
theorem br_two (k:Int) (x:ByteArray) (n:Nat) (LE:Array Value) (w:World):BrC k x n LE w (.pointer (some ⟨w.heap.size,0,none⟩)) (((w.alloc (.cells #[.int .i64 k,.string x,.slice (some ⟨w.heap.size + 1,0,none⟩) n n,.slice none 0 0] 25)).alloc (.cells LE 9)).drew) :=
 ⟨_,_,rfl,(tgt_boxes' w _ _).1,(tgt_boxes' w _ _).2,Nat.le_succ _,xA _,(((xC w.heap.size w).alloc (xA _) _).alloc (by rw [xI];omega) _).drew⟩
theorem bare_syn (N:Nat):∀ (S:Nat → Prop) (t:Tr) (v:TV) (w:World),SizeOf.sizeOf t ≤ N → TrAt S w t v → fitT t = true →
  Calls Tryz.prog 47 #[.agg #[.int .i64 v.kind,.string v.text,.slice v.la v.ll v.lc,.slice v.ka v.kl v.kc]] w fun e w'=>∃ u:TV,e = .returned (.agg #[.int .i64 u.kind,.string u.text,.slice u.la u.ll u.lc,.slice u.ka u.kl u.kc]) ∧ TrAt (fun k=>w.heap.size ≤ k ∧ k < w'.heap.size) w' (bareL t) u ∧ Below w.heap.size w w':=by
 induction N with
 | zero=>intro S t v w h;have:=tr_pos t;omega
 | succ N ih =>
  intro S t v w hN h hz
  have HIH:=hQ ih
  obtain ⟨hf1,hf2,hf3⟩:=Qco hz
  have HF2:=hQ hf2
  have HF3:=hQ hf3
  have HN:=hQ hN
  have HT:=hQ h
  obtain ⟨e1,e2,e3,e4⟩:=h.kl
  obtain ⟨vk,vx,vla,vll,vlc,vka,vkl,vkc⟩:=v
  simp only at e1 e2 e3 e4
  subst e1 e2 e3 e4
  obtain ⟨x0,x1⟩:=tgt_boxes' w (trO ⟨t.kind,t.text,vla,t.leads.length,vlc,vka,t.kids.length,vkc⟩) (.cells #[.int .i64 0,.string ⟨#[]⟩,.slice none 0 0,.slice none 0 0] 25)
  obtain ⟨W0,hW0⟩:∃ W0,W0 = (w.alloc (.cells #[.int .i64 t.kind,.string t.text,.slice vla t.leads.length vlc,.slice vka t.kids.length vkc] 25)).alloc (.cells #[.int .i64 0,.string ⟨#[]⟩,.slice none 0 0,.slice none 0 0] 25):=⟨_,rfl⟩
  have HW0:=hQ hW0.symm
  have hx0:W0.heap[w.heap.size]? = some (trO ⟨t.kind,t.text,vla,t.leads.length,vlc,vka,t.kids.length,vkc⟩):=by rw [hW0];exact x0
  have HX0:=hQ hx0
  have HR0:=hQ (show W0.heap[w.heap.size + 1]? = some (.cells #[.int .i64 0,.string ⟨#[]⟩,.slice none 0 0,.slice none 0 0] 25 (0,0)) from by rw [hW0];exact x1)
  have HB0:=hQ (show Below w.heap.size w W0 ∧ W0.heap.size = w.heap.size + 2 from by rw [hW0];exact ⟨((xC w.heap.size w).alloc (xA _) _).alloc (by rw [xI];omega) _,by simp⟩)
  clear x1
  obtain ⟨is,his,s0,s1,s2⟩:=info_parts Qdi
  have HBY:=hQ (show is.bytes * t.leads.length ≤ 281474976710656 from by rw [s2];omega)
  have HML:=hQ (show t.leads.length ≤ maxLen from by unfold maxLen;omega)
  obtain ⟨LE,hLE⟩:∃ LE,LE = madeCells (Value.string ByteArray.empty).cells (t.leads.length * 1):=⟨_,rfl⟩
  have hmk:∀ w:World,(Instr.makeSlice 22 (.int .i64 (t.leads.length:Int)) (.int .i64 (t.leads.length:Int))).run Tryz.prog w = .ok (.slice (some ⟨w.heap.size,0,none⟩) t.leads.length t.leads.length) (w.alloc (.cells LE 9)):=fun w=>by
   have h:=run_make (P:=Tryz.prog) (w:=w) 22 9 is _ Tryz.underlying22 his s0 .i64 .i64 (t.leads.length:Int) (t.leads.length:Int) (by omega) (Int.le_refl _) (by rw [s2];omega) (by omega)
   rw [s1,Int.toNat_natCast,← hLE] at h
   exact h
  have HLE:=hQ hLE
  clear ih hz h hN x0 hW0 hLE hf1 hf2 hf3
  go_enter Tryz.func47,Tryz.ntmps47
  go_upto_region 1 with fail
  rw [HW0.out]
  have k0:W0.cell? ⟨w.heap.size,0,none⟩ = some (.int .i64 t.kind):=Qab hx0 0 _ rfl
  have k1:W0.cell? ⟨w.heap.size,1,none⟩ = some (.string t.text):=Qab hx0 1 _ rfl
  have k2:W0.cell? ⟨w.heap.size,2,none⟩ = some (.slice vla t.leads.length vlc):=Qab hx0 2 _ rfl
  have n0:=World.new_ne W0 _ k0
  have kl:=Qaa hx0
  go_cut [3] (fun s3 wx=>BrC t.kind t.text t.leads.length LE W0 s3 wx)
  case first =>
   go_region_held3 (fun w'=>w'.cell? ⟨w.heap.size,0,none⟩ = some (.int .i64 t.kind) ∧ w'.cell? ⟨w.heap.size,1,none⟩ = some (.string t.text) ∧ w'.cell? ⟨w.heap.size,2,none⟩ = some (.slice vla t.leads.length vlc)) (first | with_reducible exact ⟨k0,k1,k2⟩ | go_keep) (fail)
   all_goals go_wp2_with fail
   all_goals go_meet
   all_goals first
    | exact br_one _ _ _ _ _
    | exact br_two _ _ _ _ _
    | (trace_state;sorry)
  case rest =>
   obtain ⟨w1,hww⟩:∃ w',w' = wc:=⟨_,rfl⟩
   subst hww
   obtain ⟨G,lb,rfl,hG,hLB,hlb0,hG0,hb1⟩:=hcut
   have HX1:=hQ ((hb1.block _ (Qaa HX0.out)).trans HX0.out)
   have HR1:=hQ ((hb1.block _ (Qaa HR0.out)).trans HR0.out)
   have HB1:=hQ (HB0.out.1.trans (hb1.mono HB0.out.1.size))
   have HG:=hQ hG
   have HLB:=hQ hLB
   have HGG:=hQ (show w.heap.size + 2 ≤ G ∧ G < w1.heap.size ∧ w.heap.size + 2 ≤ lb ∧ lb < w1.heap.size ∧ lb ≠ G from ⟨by rw [← HB0.out.2];exact hG0,Qaa hG,by rw [← HB0.out.2];exact hlb0,Qaa hLB,fun e=>by
    rw [e,hG] at hLB
    injection hLB with hLB
    injection hLB with _ h2
    exact absurd h2 (by decide)⟩)
   obtain ⟨it,hit,ht0,ht1,ht2⟩:=info_parts Qcv
   have a3:w1.cell? ⟨w.heap.size,3,none⟩ = some (.slice vka t.kids.length vkc):=Qab HX1.out 3 _ rfl
   clear hG hLB hlb0 hG0 hb1 k0 k1 k2 n0 kl hx0
   go_wp2_with fail
   clear a3
   go_loopw [4] (fun i wr=>BaAt t ⟨t.kind,t.text,vla,t.leads.length,vlc,vka,t.kids.length,vkc⟩ LE t.leads.length w w1.heap.size G lb i wr) (fun i _=>t.kids.length - (intOf i).toNat)
   case atStart=>exact ⟨0,[],none,0,rfl,Nat.zero_le _,rfl,HX1.out,HR1.out,HG.out,HLB.out,World.ownsRow_nil _ _ _ _,fun i k u _ h=>by simp at h,HB1.out,xA _⟩
   case round =>
    obtain ⟨j,vs,ka,kc,rfl,hj,hvl,h0,h1,h2,hlbx,how,hts,hb,hbw⟩:=hrel
    have HVL:=hQ hvl
    have H0:=hQ h0
    have H1:=hQ h1
    have H2:=hQ h2
    have HL:=hQ hlbx
    have HOW:=hQ how
    have HTS:=hQ hts
    have HBR:=hQ hb
    have HBW:=hQ hbw
    clear hvl how hts hb hlbx hbw
    by_cases hlt:j < t.kids.length
    ·obtain ⟨k,hk⟩:∃ k,t.kids[j]? = some k:=⟨_,xF hlt⟩
     obtain ⟨b,off,hka⟩:∃ b off,vka = some ⟨b,off,none⟩:=HT.out.addr.resolve_left (by show ¬ t.kids.length = 0;omega)
     subst hka
     have hut:=(HT.out.keep HBR.out).at rfl hk
     obtain ⟨u,c0,c1,c2,c3,hu⟩:=hut
     have HU:=hQ hu
     have HK:=hQ hk
     have HNK:=hQ (show SizeOf.sizeOf k ≤ N from by have:=Qa1 hk;have:=HN.out;omega)
     have HFK:=hQ (HF3.out j k hk)
     have k3:=Qab h0 3 _ rfl
     have x3:wr.cell? ⟨G,3,none⟩ = some (.slice ka j kc):=Qab h2 3 _ rfl
     have xl:G < wr.heap.size:=Qaa h2
     have xf:wr.frozen? ⟨G,3,none⟩ = false:=Lib.frozen_of_heap h2 _
     have hj0:(0:Int) ≤ (j:Int):=by omega
     have hj1:(j:Int) < (t.kids.length:Int):=by omega
     clear hk hu h0 h1 h2
     have HBA:=hQ ((xC wr.heap.size wr).drew)
     have HJ:=hQ (show j + 1 ≤ 1900000000000 from by have:=HF2.out;omega)
     have HB4:=hQ (show j + 1 ≤ maxLen from by have:=HJ.out;unfold maxLen;omega)
     have HB2:=hQ (show (j + 1) * 72 ≤ 140737488355328 from by have:=HJ.out;omega)
     go_wp2_with fail
     go_region_law (first
      | (go_simp;go_at_call 47;refine (HIH.out S k u _ HNK.out (HU.out.keep HBA.out) HFK.out).mono ?_;rintro e w5 ⟨y,rfl,hty,hb5⟩;have HTY:=hQ hty;have HB5:=hQ (HBA.out.trans hb5);have HO5:=hQ (own_low HOW.out HB5.out);have g2:=(HB5.out.block _ xl).trans H2.out;clear hty hb5 c0 c1 c2 c3 k3 x3 xl xf;have x3:w5.cell? ⟨G,3,none⟩ = some (.slice ka j kc):=Qab g2 3 _ rfl;have xl:G < w5.heap.size:=Qaa g2;have xf:w5.frozen? ⟨G,3,none⟩ = false:=Lib.frozen_of_heap g2 _;clear g2)
      | (refine step_append_lies _ (by rfl) _ _ _ (by rfl) w1.heap.size 25 it _ 4 72 Tryz.underlying23 hit ht0 ht1 ht2 rfl (by decide) (.slice ka j kc) j (Qag vs) (by rfl) (HO5.out.alloc _) ⟨w5.heap.size,0,none⟩ 1 1 y.cells (by rfl) (by rfl) (World.news_of_block (cs:=y.cells.toArray) (t:=25) (fr:=(0,0)) (xH w5 _)) (tv_news y) (by decide) HB4.out HB2.out (by rw [xI];have:=HBW.out;have:=HB5.out.size;omega) (w5.heap.size + 1) (by simp) ?_;intro g cap w6 ho6 hg6 hat6 hlt6;have HO6:=hQ ho6;have HG6:=hQ hg6;have HAT6:=hQ hat6;have hx6:=ba_row HOW.out HGG.out.2.1 H2.out HB5.out hg6;clear ho6 hg6 hat6 hlt6 x3 xl xf;have x3:w6.cell? ⟨G,3,none⟩ = some (.slice ka j kc):=Qab hx6 3 _ rfl;have xl:G < w6.heap.size:=Qaa hx6;have xf:w6.frozen? ⟨G,3,none⟩ = false:=Lib.frozen_of_heap hx6 _;clear hx6))
     all_goals
      have hj2:(j:Int) + 1 ≤ 1900000000001:=by have:=HF2.out;omega
      go_wp2
      go_roundw
      case measure=>simp [intOf];omega
      case rel=>exact ba_next HK.out HVL.out H0.out H1.out HGG.out.1 HGG.out.2.1 HGG.out.2.2.2.1 HGG.out.2.2.2.2 HBW.out H2.out HL.out HOW.out HTS.out HBR.out HB5.out HTY.out HO6.out HG6.out HAT6.out
    ·have hjn:j = t.kids.length:=by omega
     subst hjn
     have k3:=Qab h0 3 _ rfl
     have tbl:=Qaa h0
     have r0:=Qab h1 0 _ rfl
     have r1:=Qab h1 1 _ rfl
     have r2:=Qab h1 2 _ rfl
     have r3:=Qab h1 3 _ rfl
     have rbl:=Qaa h1
     have rrf:=Lib.frozen_of_heap h1
     have x0:wr.cell? ⟨G,0,none⟩ = some (.int .i64 t.kind):=Qab h2 0 _ rfl
     have x1:wr.cell? ⟨G,1,none⟩ = some (.string t.text):=Qab h2 1 _ rfl
     have x2:wr.cell? ⟨G,2,none⟩ = some (.slice (some ⟨lb,0,none⟩) t.leads.length t.leads.length):=Qab h2 2 _ rfl
     have x3:wr.cell? ⟨G,3,none⟩ = some (.slice ka t.kids.length kc):=Qab h2 3 _ rfl
     have xl:G < wr.heap.size:=Qaa h2
     clear h0 h1 h2
     go_wp2
     refine bodyPost_ret (v:=.agg #[.int .i64 t.kind,.string t.text,.slice (some ⟨lb,0,none⟩) t.leads.length t.leads.length,.slice ka t.kids.length kc]) (by simp [results,Tryz.results47,go_sem, *]) rfl ?_
     refine ⟨⟨t.kind,t.text,some ⟨lb,0,none⟩,t.leads.length,t.leads.length,ka,t.kids.length,kc⟩,rfl,?_,?_⟩
     ·have hsz:(Qga wr (w.heap.size + 1) ⟨t.kind,t.text,some ⟨lb,0,none⟩,t.leads.length,t.leads.length,ka,t.kids.length,kc⟩).heap.size = wr.heap.size:=Qdq _ _ _
      show TrAt _ (Qga wr (w.heap.size + 1) ⟨t.kind,t.text,some ⟨lb,0,none⟩,t.leads.length,t.leads.length,ka,t.kids.length,kc⟩) (bareL t) _
      obtain ⟨g1,g2,g3,g4,g5⟩:=HGG.out
      obtain ⟨p1,p2,p3,p4⟩:=bareL_parts t
      have hrow:=HOW.out.lt
      have hbw:=HBW.out
      refine TrAt.make p1.symm p2.symm (by rw [p3,List.length_map]) (by rw [p4,List.length_map]) (fun _=>⟨lb,0,rfl,⟨by omega,xE (show lb < wr.heap.size by omega) (Nat.le_of_eq hsz.symm)⟩,fun i x hx=>?_⟩) (fun hne=>?_) ⟨xA _,?_⟩
      ·rw [p3,List.getElem?_map] at hx
       obtain ⟨y,hy,rfl⟩:=Option.map_eq_some_iff.1 hx
       have hi:=(List.getElem?_eq_some_iff.1 hy).1
       rw [Nat.zero_add]
       have hl:(Qga wr (w.heap.size + 1) ⟨t.kind,t.text,some ⟨lb,0,none⟩,t.leads.length,t.leads.length,ka,t.kids.length,kc⟩).heap[lb]? = some (.cells LE 9 (0,0)):=(Qbq _ (by show lb ≠ _;omega)).trans HL.out
       exact Qab hl i _ (by rw [HLE.out];exact made_str _ _ hi)
      ·rw [p4] at hne ⊢
       have hn:0 < t.kids.length:=List.length_pos_iff.2 (fun e=>hne (by rw [e];rfl))
       obtain ⟨g,cap,hv,hg1,hg2⟩:=World.ownsRow.form HOW.out hn
       injection hv with hv1 hv2 hv3
       subst hv1 hv3
       have hcs:=HOW.out.cells (g:=g) rfl
       have hadd:∀ j,((⟨g,0,none⟩:Addr).add j) = ⟨g,j,none⟩:=fun j=>by unfold Addr.add;split <;> simp_all
       have hgc:∀ (j:Nat) (x:Value),(Qag vs)[j]? = some x → (Qga wr (w.heap.size + 1) ⟨t.kind,t.text,some ⟨lb,0,none⟩,t.leads.length,t.leads.length,some ⟨g,0,none⟩,t.kids.length,kc⟩).cell? ⟨g,j,none⟩ = some x:=fun j x hx=>by
        have h:=hcs j x hx
        rw [hadd] at h
        exact (xJ (a:=⟨g,j,none⟩) (Qbq _ (by show g ≠ _;omega))).trans h
       refine ⟨g,0,rfl,⟨by omega,xE hg2 (Nat.le_of_eq hsz.symm)⟩,TrsAt.of (t.kids.map bareL) 0 (fun i k' hk'=>?_)⟩
       obtain ⟨k,hk,rfl⟩:∃ k,t.kids[i]? = some k ∧ bareL k = k':=by rw [List.getElem?_map] at hk';exact Option.map_eq_some_iff.1 hk'
       have hi:=(List.getElem?_eq_some_iff.1 hk).1
       obtain ⟨u,hu⟩:∃ u,vs[i]? = some u:=⟨_,xF (by rw [HVL.out];exact hi)⟩
       obtain ⟨q0,q1,q2,q3⟩:=Qf4 vs i u hu
       refine ⟨u,?_,?_,?_,?_,TrAt.move (fun b hb=>⟨by omega,xE hb.2.1 (Nat.le_of_eq hsz.symm)⟩) (fun b hb _=>Qbq _ (by omega)) _ _ (HTS.out i k u hk hu)⟩
       ·rw [Nat.zero_add];exact hgc _ _ q0
       ·rw [Nat.zero_add];exact hgc _ _ q1
       ·rw [Nat.zero_add];exact hgc _ _ q2
       ·rw [Nat.zero_add];exact hgc _ _ q3
      ·show t.kids.length ≤ kc
       rcases HOW.out.2 with ⟨e,h0⟩ | ⟨g,cap,cur,e,_,_,hnc,_⟩
       ·injection e with _ _ e
        omega
       ·injection e with _ _ e
        omega
     ·exact HBR.out.trans ((Qcd wr (w.heap.size + 1) ⟨t.kind,t.text,some ⟨lb,0,none⟩,t.leads.length,t.leads.length,ka,t.kids.length,kc⟩).mono (Nat.le_succ _))
end Go.Proofs.YtnnfdbmanamfdaaGreat
