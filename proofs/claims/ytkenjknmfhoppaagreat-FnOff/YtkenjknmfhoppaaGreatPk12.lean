import Derived.Test.YtkenjknmfhoppaaGreatPk11
namespace Go.Proofs.YtkenjknmfhoppaaGreat
open Go.RowKit
set_option linter.unusedVariables false
set_option maxHeartbeats 6400000
set_option maxRecDepth 20000
theorem zR (pt lv va asd:Int) (w:World) (hl:lv=0∨lv=1∨lv=2) (hv0:0<=va) (hv1:va<=18446744073709551615) (h0:0<=pt) (h1:pt<=18446744073709551615):
 Calls Tryz.prog 237 #[VU pt,VI lv,VU va,VU asd] w fun e w'=>e=.returned (.agg #[VI lv,VU (eg va lv),VU asd,.bool (bU pt 32)])∧Bw w w':=by
 obtain ⟨tm,htm⟩:∃tm,eg va lv=tm:=⟨_,rfl⟩;obtain ⟨g5,hg5⟩:∃g5,bU pt 32=g5:=⟨_,rfl⟩;have HT:Hid (∀w,Calls Tryz.prog 168 #[VU va,VI lv] w fun e w'=>e=.returned (VU tm)∧∃n,w'=w.drewN n):=fun w=>by
  have:=wD va lv w hv0 hv1 hl;rw [htm] at this;exact this
 have HB:Hid (∀w,Calls Tryz.prog 164 #[VU pt,VU 32] w fun e w'=>e=.returned (.bool g5)∧w'=w):=fun w=>by
  have:=dL pt 32 w;rw [dS 5 pt 32 rfl (by omega) h0 h1,hg5] at this;exact this
 rw [htm,hg5];clear htm hg5;obtain ⟨v1,Ev1,n1,H1,_⟩:=al1 w #[VI 0,VU 0,VU 0,.bool false] 244;go_enter Tryz.func237,Tryz.ntmps237;go_wp2_with fail;rw [Ev1.out];clear Ev1;refine (HT.out v1).mono ?_;rintro e v2 ⟨rfl,q,rfl⟩;have n2:Bw w (v1.drewN q):=below_drewN n1 q;have H2:Hid ((v1.drewN q).heap[w.heap.size]?=some (.cells #[VI 0,VU 0,VU 0,.bool false] 244 (0,0))):=H1;generalize v1.drewN q=v2 at n2 H2 |-;obtain ⟨⟨d0,d1,d2,d3⟩,e0,e1,e2,e3⟩:=aP H2.out;go_wp2_with (go_at_call 164;refine (HB.out _).mono ?_;rintro e w' ⟨rfl,rfl⟩);exact bodyPost_ret (v:=.agg #[VI lv,VU tm,VU asd,.bool g5]) (by simp [results,Tryz.results237,go_sem,d0,d1,d2,d3]) rfl ⟨rfl,Ff n2 nle _ _ _ _⟩
end Go.Proofs.YtkenjknmfhoppaaGreat
