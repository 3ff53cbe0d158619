/- Part 8 -/
import Derived.Test.YtfjpemdejoejbaaGreatTt6
set_option maxRecDepth 100000
set_option maxHeartbeats 4000000
namespace Go.Proofs.YtfjpemdejoejbaaGreat
open Go.RowKit
section
variable (s:ByteArray) (a n:Nat)
theorem Qej (b m:Nat) (h:b<s.size) (hm:0<m):0<(s.extract b (b+m)).size:=by
 rw [ByteArray.size_extract];omega
theorem q_up2 (h:¬ (24<n∨24<Qac (suf s (a+n+1)))) (hr:Qah ((suf s (a+n+1)).take (Qac (suf s (a+n+1))))=false) (hn:a+n+1<s.size) (hp:0<Qac (suf s (a+n+1)))
  (hu:Qbf ((s.extract (a+n+1) (a+n+1+Qac (suf s (a+n+1))))[0]'(Qej s _ _ hn hp)).toNat=true):Qcn (suf s a) n=⟨4,n+1+Qac (suf s (a+n+1)),0⟩ :=
 q_up s a n h hr (by rwa [Qoy _ _ _ (Qej s _ _ hn hp)] at hu)
theorem Zeo (h:¬ (24<n∨24<Qac (suf s (a+n+1)))) (hr:Qah ((suf s (a+n+1)).take (Qac (suf s (a+n+1))))=false) (hn:a+n+1<s.size) (hp:0<Qac (suf s (a+n+1)))
  (hu:Qbf ((s.extract (a+n+1) (a+n+1+Qac (suf s (a+n+1))))[0]'(Qej s _ _ hn hp)).toNat=false):Qcn (suf s a) n=⟨3,n+1+Qac (suf s (a+n+1)),0⟩ :=
 q_low s a n h hr (by rwa [Qoy _ _ _ (Qej s _ _ hn hp)] at hu)
end
theorem Qz4 (s:ByteArray) (a:Nat) (w:World) (h0:a<s.size) (hl:Qai s[a].toNat=true) (hs:s.size<maxLen) (hu:Qbf s[a].toNat=true) (hr:Qah ((suf s a).take (Qac (suf s a)))=false) (hn:a+Qac (suf s a)+1<s.size) (h46:s[a+Qac (suf s a)].toNat=46) (hz:Qai s[a+Qac (suf s a)+1].toNat=true) (h24:24<Qac (suf s a)) :
  Calls Tryz.prog 165 #[.string s,.int .i64 a] w (Qcz s a w):=by
 have HS:=hQ (Nat.le_of_lt hs);have hm:=Qbu s a;have HL:=hQ hl;have H0:=hQ (Qbr s a h0);have HD:=hQ (Qdx s a h0);clear hl;unfold maxLen at hs;have hn':(a:Int)+(Qac (suf s a):Nat)+1<(s.size:Int):=by omega
 have g46:((s[a+Qac (suf s a)].toNat:Int)==46)=true:=Qco h46;have hp:=Qet hn hz;have hm2:=Qbu s (a+Qac (suf s a)+1);have HZ:=hQ hz
 have HT:=hQ (show Qcv (suf s a)=Qcn (suf s a) (Qac (suf s a)) from by
  unfold Qcv;rw [xO (by rw [HD.out,hu,hr,Qhq s a _ (by omega),h46,Qjw,Qbr s (a+Qac (suf s a)+1) hn,hz];simpa using hn)])
 clear h46 hz;have HQ:=hQ (HT.out.trans (Zbr s a _ (.inl h24)))
 go_enter Tryz.func165,Tryz.ntmps165
 go_wp2_with (first | (go_at_call 172;((with_reducible refine (Qc8 _ _ _ h0 HL.out HS.out).mono ?_);rintro e w' ⟨rfl,rfl⟩)) | (go_at_call 173;refine (Qbw _ _ _ _).mono ?_;rintro e w' ⟨rfl,rfl⟩) | (go_at_call 164;refine (Qan _ _).mono ?_;rintro e w' ⟨rfl,rfl⟩) | (go_at_call 172;((with_reducible refine (Qg8 _ _ _ _ hn HZ.out HS.out).mono ?_);rintro e w' ⟨rfl,rfl⟩)))
 all_goals
  exact bodyPost_ret (v:=.agg #[.int .i64 0,.int .i64 0,.int .i64 3,.int .i64 a]) (by simp [results,Tryz.results165,go_sem]) rfl ⟨Qdr 0 2 HQ.out rfl (by omega),(xC _ _).alloc (xA _) _⟩
theorem Qz5 (s:ByteArray) (a:Nat) (w:World) (h0:a<s.size) (hl:Qai s[a].toNat=true) (hs:s.size<maxLen) (hu:Qbf s[a].toNat=true) (hr:Qah ((suf s a).take (Qac (suf s a)))=false) (hn:a+Qac (suf s a)+1<s.size) (h46:s[a+Qac (suf s a)].toNat=46) (hz:Qai s[a+Qac (suf s a)+1].toNat=true) (h24:24<Qac (suf s (a+Qac (suf s a)+1))) :
  Calls Tryz.prog 165 #[.string s,.int .i64 a] w (Qcz s a w):=by
 have HS:=hQ (Nat.le_of_lt hs);have hm:=Qbu s a;have HL:=hQ hl;have H0:=hQ (Qbr s a h0);have HD:=hQ (Qdx s a h0);clear hl;unfold maxLen at hs;have hn':(a:Int)+(Qac (suf s a):Nat)+1<(s.size:Int):=by omega
 have g46:((s[a+Qac (suf s a)].toNat:Int)==46)=true:=Qco h46;have hp:=Qet hn hz;have hm2:=Qbu s (a+Qac (suf s a)+1);have HZ:=hQ hz
 have HT:=hQ (show Qcv (suf s a)=Qcn (suf s a) (Qac (suf s a)) from by
  unfold Qcv;rw [xO (by rw [HD.out,hu,hr,Qhq s a _ (by omega),h46,Qjw,Qbr s (a+Qac (suf s a)+1) hn,hz];simpa using hn)])
 clear h46 hz;have HQ:=hQ (HT.out.trans (Zbr s a _ (.inr h24)))
 go_enter Tryz.func165,Tryz.ntmps165
 go_wp2_with (first | (go_at_call 172;((with_reducible refine (Qc8 _ _ _ h0 HL.out HS.out).mono ?_);rintro e w' ⟨rfl,rfl⟩)) | (go_at_call 173;refine (Qbw _ _ _ _).mono ?_;rintro e w' ⟨rfl,rfl⟩) | (go_at_call 164;refine (Qan _ _).mono ?_;rintro e w' ⟨rfl,rfl⟩) | (go_at_call 172;((with_reducible refine (Qg8 _ _ _ _ hn HZ.out HS.out).mono ?_);rintro e w' ⟨rfl,rfl⟩)))
 all_goals
  exact bodyPost_ret (v:=.agg #[.int .i64 0,.int .i64 0,.int .i64 3,.int .i64 a]) (by simp [results,Tryz.results165,go_sem]) rfl ⟨Qdr 0 2 HQ.out rfl (by omega),(xC _ _).alloc (xA _) _⟩
theorem Qz6 (s:ByteArray) (a:Nat) (w:World) (h0:a<s.size) (hl:Qai s[a].toNat=true) (hs:s.size<maxLen) (hu:Qbf s[a].toNat=true) (hr:Qah ((suf s a).take (Qac (suf s a)))=false) (hn:a+Qac (suf s a)+1<s.size) (h46:s[a+Qac (suf s a)].toNat=46) (hz:Qai s[a+Qac (suf s a)+1].toNat=true) (h24:¬ (24<Qac (suf s a)∨24<Qac (suf s (a+Qac (suf s a)+1)))) (hr2:Qah ((suf s (a+Qac (suf s a)+1)).take (Qac (suf s (a+Qac (suf s a)+1))))=true) :
  Calls Tryz.prog 165 #[.string s,.int .i64 a] w (Qcz s a w):=by
 have HS:=hQ (Nat.le_of_lt hs);have hm:=Qbu s a;have HL:=hQ hl;have H0:=hQ (Qbr s a h0);have HD:=hQ (Qdx s a h0);clear hl;unfold maxLen at hs;have hn':(a:Int)+(Qac (suf s a):Nat)+1<(s.size:Int):=by omega
 have g46:((s[a+Qac (suf s a)].toNat:Int)==46)=true:=Qco h46;have hp:=Qet hn hz;have hm2:=Qbu s (a+Qac (suf s a)+1);have HZ:=hQ hz
 have HT:=hQ (show Qcv (suf s a)=Qcn (suf s a) (Qac (suf s a)) from by
  unfold Qcv;rw [xO (by rw [HD.out,hu,hr,Qhq s a _ (by omega),h46,Qjw,Qbr s (a+Qac (suf s a)+1) hn,hz];simpa using hn)])
 clear h46 hz;have h24a:Qac (suf s a)≤24:=by omega
 have h24b:Qac (suf s (a+Qac (suf s a)+1))≤24:=by omega
 have H24:=hQ h24;clear h24;have HQ:=hQ (HT.out.trans (q_res s a _ H24.out hr2))
 go_enter Tryz.func165,Tryz.ntmps165
 go_wp2_with (first | (go_at_call 172;((with_reducible refine (Qc8 _ _ _ h0 HL.out HS.out).mono ?_);rintro e w' ⟨rfl,rfl⟩)) | (go_at_call 173;refine (Qbw _ _ _ _).mono ?_;rintro e w' ⟨rfl,rfl⟩) | (go_at_call 164;refine (Qan _ _).mono ?_;rintro e w' ⟨rfl,rfl⟩) | (go_at_call 172;((with_reducible refine (Qg8 _ _ _ _ hn HZ.out HS.out).mono ?_);rintro e w' ⟨rfl,rfl⟩)))
 all_goals
  exact bodyPost_ret (v:=.agg #[.int .i64 0,.int .i64 0,.int .i64 2,.int .i64 a]) (by simp [results,Tryz.results165,go_sem]) rfl ⟨Qdr 0 1 HQ.out rfl (by omega),(xC _ _).alloc (xA _) _⟩
theorem Qz7 (s:ByteArray) (a:Nat) (w:World) (h0:a<s.size) (hl:Qai s[a].toNat=true) (hs:s.size<maxLen) (hu:Qbf s[a].toNat=true) (hr:Qah ((suf s a).take (Qac (suf s a)))=false) (hn:a+Qac (suf s a)+1<s.size) (h46:s[a+Qac (suf s a)].toNat=46) (hz:Qai s[a+Qac (suf s a)+1].toNat=true) (h24:¬ (24<Qac (suf s a)∨24<Qac (suf s (a+Qac (suf s a)+1)))) (hr2:Qah ((suf s (a+Qac (suf s a)+1)).take (Qac (suf s (a+Qac (suf s a)+1))))=false) (hp0:0<Qac (suf s (a+Qac (suf s a)+1))) (hup:Qbf ((s.extract (a+Qac (suf s a)+1) (a+Qac (suf s a)+1+Qac (suf s (a+Qac (suf s a)+1))))[0]'(Qej s _ _ hn hp0)).toNat=true) :
  Calls Tryz.prog 165 #[.string s,.int .i64 a] w (Qcz s a w):=by
 have HS:=hQ (Nat.le_of_lt hs);have hm:=Qbu s a;have HL:=hQ hl;have H0:=hQ (Qbr s a h0);have HD:=hQ (Qdx s a h0);clear hl;unfold maxLen at hs;have hn':(a:Int)+(Qac (suf s a):Nat)+1<(s.size:Int):=by omega
 have g46:((s[a+Qac (suf s a)].toNat:Int)==46)=true:=Qco h46;have hp:=Qet hn hz;have hm2:=Qbu s (a+Qac (suf s a)+1);have HZ:=hQ hz
 have HT:=hQ (show Qcv (suf s a)=Qcn (suf s a) (Qac (suf s a)) from by
  unfold Qcv;rw [xO (by rw [HD.out,hu,hr,Qhq s a _ (by omega),h46,Qjw,Qbr s (a+Qac (suf s a)+1) hn,hz];simpa using hn)])
 clear h46 hz;have h24a:Qac (suf s a)≤24:=by omega
 have h24b:Qac (suf s (a+Qac (suf s a)+1))≤24:=by omega
 have H24:=hQ h24;clear h24
 go_enter Tryz.func165,Tryz.ntmps165
 go_wp2_with (first | (go_at_call 172;((with_reducible refine (Qc8 _ _ _ h0 HL.out HS.out).mono ?_);rintro e w' ⟨rfl,rfl⟩)) | (go_at_call 173;refine (Qbw _ _ _ _).mono ?_;rintro e w' ⟨rfl,rfl⟩) | (go_at_call 164;refine (Qan _ _).mono ?_;rintro e w' ⟨rfl,rfl⟩) | (go_at_call 172;((with_reducible refine (Qg8 _ _ _ _ hn HZ.out HS.out).mono ?_);rintro e w' ⟨rfl,rfl⟩)))
 all_goals
  exact bodyPost_ret (v:=.agg #[.int .i64 (((Qac (suf s a):Nat):Int)+1+(Qac (suf s (a+Qac (suf s a)+1)):Nat)),.int .i64 4,.int .i64 0,.int .i64 0]) (by simp [results,Tryz.results165,go_sem]) rfl ⟨Qdw 4 _ (HT.out.trans (q_up2 s a _ H24.out hr2 hn hp hup)) (by omega) rfl,(xC _ _).alloc (xA _) _⟩
theorem Qz8 (s:ByteArray) (a:Nat) (w:World) (h0:a<s.size) (hl:Qai s[a].toNat=true) (hs:s.size<maxLen) (hu:Qbf s[a].toNat=true) (hr:Qah ((suf s a).take (Qac (suf s a)))=false) (hn:a+Qac (suf s a)+1<s.size) (h46:s[a+Qac (suf s a)].toNat=46) (hz:Qai s[a+Qac (suf s a)+1].toNat=true) (h24:¬ (24<Qac (suf s a)∨24<Qac (suf s (a+Qac (suf s a)+1)))) (hr2:Qah ((suf s (a+Qac (suf s a)+1)).take (Qac (suf s (a+Qac (suf s a)+1))))=false) (hp0:0<Qac (suf s (a+Qac (suf s a)+1))) (hup:Qbf ((s.extract (a+Qac (suf s a)+1) (a+Qac (suf s a)+1+Qac (suf s (a+Qac (suf s a)+1))))[0]'(Qej s _ _ hn hp0)).toNat=false) :
  Calls Tryz.prog 165 #[.string s,.int .i64 a] w (Qcz s a w):=by
 have HS:=hQ (Nat.le_of_lt hs);have hm:=Qbu s a;have HL:=hQ hl;have H0:=hQ (Qbr s a h0);have HD:=hQ (Qdx s a h0);clear hl;unfold maxLen at hs;have hn':(a:Int)+(Qac (suf s a):Nat)+1<(s.size:Int):=by omega
 have g46:((s[a+Qac (suf s a)].toNat:Int)==46)=true:=Qco h46;have hp:=Qet hn hz;have hm2:=Qbu s (a+Qac (suf s a)+1);have HZ:=hQ hz
 have HT:=hQ (show Qcv (suf s a)=Qcn (suf s a) (Qac (suf s a)) from by
  unfold Qcv;rw [xO (by rw [HD.out,hu,hr,Qhq s a _ (by omega),h46,Qjw,Qbr s (a+Qac (suf s a)+1) hn,hz];simpa using hn)])
 clear h46 hz;have h24a:Qac (suf s a)≤24:=by omega
 have h24b:Qac (suf s (a+Qac (suf s a)+1))≤24:=by omega
 have H24:=hQ h24;clear h24
 go_enter Tryz.func165,Tryz.ntmps165
 go_wp2_with (first | (go_at_call 172;((with_reducible refine (Qc8 _ _ _ h0 HL.out HS.out).mono ?_);rintro e w' ⟨rfl,rfl⟩)) | (go_at_call 173;refine (Qbw _ _ _ _).mono ?_;rintro e w' ⟨rfl,rfl⟩) | (go_at_call 164;refine (Qan _ _).mono ?_;rintro e w' ⟨rfl,rfl⟩) | (go_at_call 172;((with_reducible refine (Qg8 _ _ _ _ hn HZ.out HS.out).mono ?_);rintro e w' ⟨rfl,rfl⟩)))
 all_goals
  exact bodyPost_ret (v:=.agg #[.int .i64 (((Qac (suf s a):Nat):Int)+1+(Qac (suf s (a+Qac (suf s a)+1)):Nat)),.int .i64 3,.int .i64 0,.int .i64 0]) (by simp [results,Tryz.results165,go_sem]) rfl ⟨Qdw 3 _ (HT.out.trans (Zeo s a _ H24.out hr2 hn hp hup)) (by omega) rfl,(xC _ _).alloc (xA _) _⟩
end Go.Proofs.YtfjpemdejoejbaaGreat
