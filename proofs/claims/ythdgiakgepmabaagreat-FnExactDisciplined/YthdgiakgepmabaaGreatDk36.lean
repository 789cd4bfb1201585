import Derived.Test.YthdgiakgepmabaaGreatDk29
namespace Go.Proofs.YthdgiakgepmabaaGreat
open Go.RowKit
set_option linter.unusedVariables false
set_option maxHeartbeats 6400000
set_option maxRecDepth 20000
section
attribute [local go_sem ↓] Go.wp_at_zero Go.wp_at_succ
def ghC (g:ay):List Value:=[VU g.1,VU g.2.1,.bool g.2.2.1,VI g.2.2.2.1,VU g.2.2.2.2.1,VU g.2.2.2.2.2]
abbrev ghA (g:ay):Array Value:=#[VU g.1,VU g.2.1,.bool g.2.2.1,VI g.2.2.2.1,VU g.2.2.2.2.1,VU g.2.2.2.2.2]
def iq:List ay->List Value
 | []=>[]
 | g::r=>ghC g++iq r
theorem sX:∀a b:List ay,iq (a++b)=iq a++iq b
 | [],b=>rfl
 | e::r,b=>by simp [iq,sX r b]
theorem sY:∀a:List ay,(iq a).length=a.length*6
 | []=>rfl
 | e::r=>by simp [iq,ghC,sY r];omega
theorem vQ (g:ay):∀u∈ghC g,u.oneCell'=true:=by
 intro u hu;simp [ghC] at hu;rcases hu with rfl | rfl | rfl | rfl | rfl | rfl <;> rfl
theorem yi:∀gs:List ay,∀u∈iq gs,u.oneCell'=true
 | [],u,h=>by simp [iq] at h
 | g::r,u,h=>by
  simp only [iq,List.mem_append] at h;exact h.elim (vQ g u) (yi r u)
theorem AB:∀(gs:List ay) (i j:Nat) (g:ay),gs[i]?=some g->j<6->(iq gs)[i*6+j]?=(ghC g)[j]?
 | e::r,0,j,g,hi,hj=>by
  simp only [List.getElem?_cons_zero,Option.some.injEq] at hi;subst hi;simp only [iq,Nat.zero_mul,Nat.zero_add];rw [List.getElem?_append_left (by simp [ghC];exact hj)]
 | e::r,i+1,j,g,hi,hj=>by
  simp only [List.getElem?_cons_succ] at hi;simp only [iq];rw [List.getElem?_append_right (by simp [ghC];omega)];have:(i+1)*6+j-(ghC e).length=i*6+j:=by simp [ghC];omega
  rw [this];exact AB r i j g hi hj
theorem mJ {w:World} {b off n:Nat} {gs:List ay} (h:RowC w (some (AD b off)) n 6 (iq gs)) {k:Nat} {g:ay} (hk:gs[k]?=some g) (j:Nat) {v:Value} (hv:(ghC g)[j]?=some v):w.cell? (AD b (off+k*6+j))=some v:=by
 have hj:j<6:=(List.getElem?_eq_some_iff.1 hv).1;rcases h.2 with h0 | ⟨b',off',e,_,hc⟩
 ·have:=h.1;have:=(List.getElem?_eq_some_iff.1 hk).1;rw [sY] at *;omega
 ·simp at e;obtain ⟨rfl,rfl⟩:=e;rw [Nat.add_assoc];exact hc _ _ (by rw [AB gs k j g hk hj];exact hv)
theorem GQ (r s:ay) (w:World):(binOp .eql 120 (.agg (ghA r)) (.agg (ghA s))).run Tryz.prog w=.ok (.bool (decide (r=s))) w:=by
 obtain ⟨a1,a2,a3,a4,a5,a6⟩:=r;obtain ⟨b1,b2,b3,b4,b5,b6⟩:=s;by_cases h1:a1=b1
 case neg=>(have q1:(a1 == b1)=false:=by simpa using h1);(go_simp;try simp [q1,h1])
 subst h1;by_cases h2:a2=b2
 case neg=>(have q1:(a2 == b2)=false:=by simpa using h2);(go_simp;try simp [q1,h2])
 subst h2;by_cases h3:a3=b3
 case neg=>cases a3 <;> cases b3 <;> (first | exact absurd rfl h3 | (go_simp;try simp))
 subst h3;by_cases h4:a4=b4
 case neg=>(have q1:(a4 == b4)=false:=by simpa using h4);(go_simp;try simp [q1,h4])
 subst h4;by_cases h5:a5=b5
 case neg=>(have q1:(a5 == b5)=false:=by simpa using h5);(go_simp;try simp [q1,h5])
 subst h5;by_cases h6:a6=b6
 case neg=>(have q1:(a6 == b6)=false:=by simpa using h6);(go_simp;try simp [q1,h6])
 subst h6;go_simp;try simp
theorem Tryz.infoGh:(Tryz.prog.info? 120).map (fun i=>(i.zero,i.size,i.bytes))=some (some (.agg #[VU 0,VU 0,.bool false,VI 0,VU 0,VU 0]),6,48):=by kernel_rfl
theorem Tryz.undGh:Tryz.prog.underlying 49=some (.slice 120):=by kernel_rfl
theorem ghI:(Tryz.prog.info? 120).map (·.size)=some 6:=by kernel_rfl
end
section
attribute [local go_sem ↓] Go.wp_at_zero Go.wp_at_succ
theorem uP {w:World} {b off n:Nat} {gs:List ay} (h:RowC w (some (AD b off)) n 6 (iq gs)) {k:Nat} {g:ay} (hk:gs[k]?=some g):b<w.heap.size∧w.cell? (AD b (off+k*6))=some (VU g.1)∧w.cell? (AD b (off+k*6+1))=some (VU g.2.1)∧w.cell? (AD b (off+k*6+2))=some (.bool g.2.2.1)∧w.cell? (AD b (off+k*6+3))=some (VI g.2.2.2.1)∧w.cell? (AD b (off+k*6+4))=some (VU g.2.2.2.2.1)∧w.cell? (AD b (off+k*6+5))=some (VU g.2.2.2.2.2):=by
 refine ⟨?_,mJ h hk 0 rfl,mJ h hk 1 rfl,mJ h hk 2 rfl,mJ h hk 3 rfl,mJ h hk 4 rfl,mJ h hk 5 rfl⟩;rcases h.2 with h0 | ⟨b',off',e,hb,hc⟩
 ·have:=h.1;have:=(List.getElem?_eq_some_iff.1 hk).1;rw [sY] at *;omega
 ·simp at e;obtain ⟨rfl,rfl⟩:=e;exact hb
theorem CH (v:World) (x1 x2:Int) (x3:Bool) (x4 x5 x6:Int):∃u,Hid (v.alloc (.cells #[VU x1,VU x2,.bool x3,VI x4,VU x5,VU x6] 120)=u)∧Bw v u∧Hid (RowC u (some (AD v.heap.size 0)) 1 6 (ghC (x1,x2,x3,x4,x5,x6))):=by
 have o:=OwnC.new 120 6 v (ghC (x1,x2,x3,x4,x5,x6)) 1 rfl (by decide);exact ⟨_,rfl,(Below.refl _ _).alloc nle _,o.row⟩
theorem CK {gs:List ay} {f:FenceM} {k:Nat} {g:ay} (hk:gs[k]?=some g):dt (gs.take (k+1)) f=dt (gs.take k) f++if eD f g.2.2.2.1 g.1 g.2.1 g.2.2.1=true then [] else [g]:=by
 unfold dt;rw [List.take_add_one,hk,List.filter_append];congr 1;cases h:eD f g.2.2.2.1 g.1 g.2.1 g.2.2.1 <;> simp [h]
theorem Ah (gs:List ay) (f:FenceM):(dt gs f).length<=gs.length:=List.length_filter_le ..
theorem wM (b c:Nat) (gs:List ay) (f:FenceM) (w:World) (hr:RowC w (some (AD b 0)) gs.length 6 (iq gs)) (hl:∀g∈gs,0<=g.2.2.2.1∧g.2.2.2.1<=2) (h0:0<=f.va) (h1:f.va<=18446744073709551615) (hn:gs.length<=1048576):
 Calls Tryz.prog 16 #[SL b gs.length c,vy f] w fun e w'=>(∃g cap,e=.returned (SL g (dt gs f).length cap)∧OwnC 120 6 w' w.heap.size g (dt gs f).length cap (iq (dt gs f)))∧Bw w w':=by
 obtain ⟨v1,E1,n1,HF,l1⟩:=al1 w #[.bool f.hasVa,VU f.va,.bool f.hasAsid,VU f.asid] 52;obtain ⟨v2,E2,n2,_,l2⟩:=al1 v1 #[] 120;have O2:Hid (OwnC 120 6 v2 v1.heap.size v1.heap.size 0 0 []):=by
  rw [<-E2.out];exact OwnC.new 120 6 v1 [] 0 rfl (by decide)
 have HR:=hid hr;have HLv:=hid hl;clear hr hl;unfold vy;go_enter Tryz.func16,Tryz.ntmps16;go_upto_region 1 with fail;rw [E1.out];go_upto_region 2 with fail;rw [E2.out];clear E1 E2;go_wp2;go_loopw [5,6] (fun ov ii wr=>∃(k g cap:Nat),k<=gs.length∧ii=VI k∧ov=SL g (dt (gs.take k) f).length cap∧OwnC 120 6 wr v1.heap.size g (dt (gs.take k) f).length cap (iq (dt (gs.take k) f))∧Bw v1 wr) (fun _ ii _=>gs.length-(intOf ii).toNat)
 case atStart=>exact ⟨0,_,_,Nat.zero_le _,rfl,rfl,O2.out,n2⟩
 case round=>
 obtain ⟨k,g,cap,hk,rfl,rfl,ho,hb⟩:=hrel;have HO:=hid ho;clear ho O2 n2 l2;have HFw:=ah HF hb;have lf:w.heap.size<wr.heap.size:=hpl HFw.out;by_cases hlt:k<gs.length
 ·obtain ⟨x,hx⟩:∃x,gs[k]?=some x:=⟨_,List.getElem?_eq_getElem hlt⟩;have hxl:=HLv.out x (List.mem_of_getElem? hx);have HFe:=hid (CK (f:=f) hx);have hml:=Ah (gs.take k) f;have hmk:(gs.take k).length=k:=by simp;omega
  obtain ⟨lb,c0,c1,c2,c3,c4,c5⟩:=uP (HR.out.keep (bst n1 hb)) hx;have HC:Hid (∀u:World,Calls Tryz.prog 42 #[.agg #[.bool f.hasVa,VU f.va,.bool f.hasAsid,VU f.asid],VI x.2.2.2.1,VU x.1,VU x.2.1,.bool x.2.2.1] u fun e w'=>e=.returned (.bool (eD f x.2.2.2.1 x.1 x.2.1 x.2.2.1))∧Bw u w'):=fun u=>vH f x.2.2.2.1 x.1 x.2.1 x.2.2.1 u h0 h1 hxl.1 hxl.2;obtain ⟨x1,x2,x3,x4,x5,x6⟩:=x;simp only [Nat.zero_add] at c0 c1 c2 c3 c4 c5;simp only at HC HFe hxl;obtain ⟨cv,hcv⟩:∃cv,eD f x4 x1 x2 x3=cv:=⟨_,rfl⟩;rw [hcv] at HC HFe;have hlt':decide ((k:Int)<(gs.length:Int))=true:=by simp;omega
  go_upto_region 5 with fail;go_cut [5,37] from 5 to 5 (fun s5 s37 wx=>s5=SL g (dt (gs.take k) f).length cap∧s37=.bool (!cv)∧Bw wr wx)
  case first=>
   have ne:=eF wr;have q0:=aM c0 lb;have q1:=aM c1 lb;have q2:=aM c2 lb;have q3:=aM c3 lb;have e0:=aM (ab HFw.out 0 (v:=.bool f.hasVa) rfl) lf;have e1:=aM (ab HFw.out 1 (v:=VU f.va) rfl) lf;have e2:=aM (ab HFw.out 2 (v:=.bool f.hasAsid) rfl) lf;have e3:=aM (ab HFw.out 3 (v:=VU f.asid) rfl) lf;clear c0 c1 c2 c3 c4 c5 hcv;refine cN (by kernel_rfl) (by kernel_rfl) ?_;repeat (go_big_quiet_step ((go_at_call 42;exact fX _ (HC.out _))))
   refine wpQuiet_nil ?_;rintro _ ⟨u,rfl⟩;go_wp2;go_meet;exact ⟨rfl,rfl,u.h⟩
  obtain ⟨rfl,rfl,nb⟩:=hcut;have HOc:=hid (HO.out.keep nb HO.out.facts.2.2.1);have hbc:=bst hb nb;clear HO nb HFw hxl HC;cases cv
  ·have HRc:=hid (HR.out.keep (bst n1 hbc));obtain ⟨_,d0,d1,d2,d3,d4,d5⟩:=uP HRc.out hx;simp only [Nat.zero_add] at d0 d1 d2 d3 d4 d5;obtain ⟨v3,E3,n3,R3⟩:=CH wc x1 x2 x3 x4 x5 x6;have O3:=hid (HOc.out.keep n3 HOc.out.facts.2.2.1);have n13:=bst hbc n3;have hFs:=HFe.out;clear c0 c1 c2 c3 c4 c5 HRc;go_wp2_with (at_builtin;rw [E3.out];refine iC _ rfl (.tmp 38) (.tmp 43) 49 rfl 120 Tryz.undGh (.agg #[VU 0,VU 0,.bool false,VI 0,VU 0,VU 0]) 6 48 Tryz.infoGh rfl (by decide) v1.heap.size _ _ _ _ rfl O3.out (some (AD wc.heap.size 0)) 1 1 (ghC (x1,x2,x3,x4,x5,x6)) rfl (fun h=>by cases h) (fun q h=>by cases h;rfl) R3.out (vQ _) (by omega) (by omega) v1.heap.size v1 n13 nle ?_;intro g' c' w3 oN bN);go_roundw
   case rel=>
    refine ⟨k+1,g',c',by omega,by go_num,?_,?_,bN⟩
    ·rw [hFs];simp
    ·rw [hFs,sX];simpa [iq] using oN
   case measure=>simp [intOf];omega
  ·have hFs:=HFe.out;go_wp2;go_roundw
   case rel=>
    refine ⟨k+1,g,cap,by omega,by go_num,?_,?_,hbc⟩
    ·rw [hFs];simp
    ·rw [hFs];simpa using HOc.out
   case measure=>simp [intOf];omega
 ·have hkn:k=gs.length:=by omega
  subst hkn;have hlt':decide ((gs.length:Int)<(gs.length:Int))=false:=by simp
  rw [List.take_length] at HO;rw [List.take_length];go_wp2;go_ret;exact ⟨⟨g,cap,rfl,HO.out.low (by omega)⟩,bst n1 hb⟩
end
end Go.Proofs.YthdgiakgepmabaaGreat
