import Derived.Test.YtaoaifmkhbgaiaaGreatPk49
import Derived.Test.YtaoaifmkhbgaiaaGreatPk06
import Derived.Test.YtaoaifmkhbgaiaaGreatPk11
import Derived.Test.YtaoaifmkhbgaiaaGreatPk24
import Derived.Test.YtaoaifmkhbgaiaaGreatPk41
import Derived.Test.YtaoaifmkhbgaiaaGreatPk07
import Derived.Test.YtaoaifmkhbgaiaaGreatPk09
import Derived.Test.YtaoaifmkhbgaiaaGreatPk42
namespace Go.Proofs.YtaoaifmkhbgaiaaGreat
open Go.RowKit
set_option linter.unusedVariables false
theorem gu {w w':World} {v:Value} {t:TlbM} (h:Hid (TlbAt w v t)) (hb:Below w.heap.size w w'):Hid (TlbAt w' v t):=TlbAt.keep h.out hb
theorem yc:(Tryz.prog.info? 38).map (·.size)=some 4:=by kernel_rfl
theorem yS (a:Bool) (x:Int) (b:Bool) (y:Int):(#[.bool a,.int .u64 x,.bool b,.int .u64 y]:Array Value).all (·.oneCell')=true:=by simp [Value.oneCell']
theorem kQ {P:Program} {a:Act} {d:Option Tmp} {T ty:TypeId} {parts:Array (Nat × Operand)} {pos:String} {af:Array Edge} {g:Option (Nat × Bool)} {w:World} {vs:Array (Nat × Value)} {V:Value} (hp:(parts.map fun x=>(x.1,a.eval x.2))=vs) (hb:(Instr.build T vs).run P w=.ok V w):
 (execOp a.eval { dst:=d,op:=.build T parts,type:=ty,pos:=pos,after:=af,guard:=g }).run P w=.ok (.value V) w:=by
 subst hp;unfold execOp;have e:(parts.map fun (x:Nat × Operand)=>match x with | (i,x)=>(i,a.eval x))=parts.map fun x=>(x.1,a.eval x.2):=rfl;simp only [Sem.run_bind,hb,Result.andThen_ok,Sem.run_pure]
theorem kR (s1 w1 s2 w2 s3 w3:Int) (a1 a2 a3:Option Addr) (n1 c1 n2 c2 n3 c3:Nat) (w:World):
 (Instr.build 30 #[(0,.agg #[.int .i64 s1,.int .i64 w1,.slice a1 n1 c1]),(1,.agg #[.int .i64 s2,.int .i64 w2,.slice a2 n2 c2]),(2,.agg #[.int .i64 s3,.int .i64 w3,.slice a3 n3 c3])]).run Tryz.prog w=.ok (.agg #[.int .i64 s1,.int .i64 w1,.slice a1 n1 c1,.int .i64 s2,.int .i64 w2,.slice a2 n2 c2,.int .i64 s3,.int .i64 w3,.slice a3 n3 c3]) w:=by
 go_simp
theorem At {x y:Int} (h0:0≤x) (h1:x≤18446744073709551615) (g0:0≤y) (g1:y≤63):bits .xor .u64 x y/64=x/64:=by
 obtain ⟨a,rfl⟩:∃a:Nat,x=a:=⟨x.toNat,by omega⟩;obtain ⟨b,rfl⟩:∃b:Nat,y=b:=⟨y.toNat,by omega⟩;have hx:(a ^^^ b)/2^6=a/2^6:=by
  rw [Nat.xor_div_two_pow,show b/2^6=0 from Nat.div_eq_of_lt (by omega),Nat.xor_zero]
 rw [u64_xor_nat a b (by omega) (by omega)];omega
theorem Au {x y:Int} (h0:0≤x) (h1:x≤18446744073709551615) (g0:0≤y) (g1:y≤63):bW (bits .xor .u64 x y)=bW x∧∀l,dt (bits .xor .u64 x y) l=dt x l:=by
 have h:=At h0 h1 g0 g1;generalize bits .xor .u64 x y=z at h;have e1:z/16384=x/16384:=by omega
 refine ⟨by unfold bW;rw [e1],fun l=>?_⟩;unfold dt;split
 ·omega
 ·split
  ·omega
  ·omega
def h9 (t:TlbM) (va:Int):Bool:=t.es.any fun x=>x.valid && x.glob && x.tag == dt va x.level
theorem yT {t:TlbM} {va:Int} (h:h9 t va=false):∀x∈t.es,x.valid=true→x.glob=true→x.tag≠dt va x.level:=fun x hx h1 h2 h3=>by
 have:=(List.any_eq_false.1 h) x hx;simp [h1,h2,h3] at this
theorem vZ (zs:List Int) (mode:Int) (sum mxr:Bool) (satp:Int) (k:KM) (kind va pick:Int) (f:FenceM) (hk:aV k=true) (h1:0≤kind∧kind≤2) (h2:0≤mode∧mode≤2) (h3:0≤pick∧pick≤255)
 (hv:f.hasVa=true→bW f.va=true∧∀l,dt f.va l=dt va l) (ha:f.hasAsid=true→f.asid=ay satp∧h9 k.i va=false∧h9 k.d va=false∧h9 k.p va=false):
 (ak zs mode sum mxr satp ⟨ct k.i f,ct k.d f,ct k.p f⟩ kind va pick).1=eu zs mode sum mxr satp kind va:=by
 have hk':=hk;simp only [aV,Bool.and_eq_true] at hk';obtain ⟨⟨gi,gd⟩,gp⟩:=hk';have hg:aV ⟨ct k.i f,ct k.d f,ct k.p f⟩=true:=by
  simp only [aV,Bool.and_eq_true];exact ⟨⟨gL _ f _ gi,gL _ f _ gd⟩,gL _ f _ gp⟩
 have fn:∀(t:TlbM) (b:Bool),aG t b=true→(f.hasAsid=true→h9 t va=false)→(aO (ct t f) va (ay satp)).1=false:=fun t b ht hgl=>by
  rw [vR (ct t f) va (ay satp) (r6 t f va (ay satp) (dO ht) (fun h=>⟨(hv h).1,fun l _ _=>(hv h).2 l⟩) (fun h=>⟨(ha h).1,yT (hgl h)⟩))]
 refine qz zs mode sum mxr satp _ kind va pick hg h1 h2 h3 fun _ _=>⟨?_,fn k.p true gp fun h=>(ha h).2.2.2⟩;unfold cM;split
 ·exact fn k.i false gi fun h=>(ha h).2.1
 ·exact fn k.d false gd fun h=>(ha h).2.2.1
theorem zK (va level:Int) (w:World) (h0:0≤va) (h1:va≤18446744073709551615) (hl:0≤level∧level≤2):
 Calls Tryz.prog 51 #[.int .u64 va,.int .i64 level] w fun e w'=>e=.returned (.int .u64 (dt va level))∧w'=w:=by
 have H:bits .and .u64 va 32767=va%32768:=ew 15 va 32767 rfl (by omega) h0 h1;rcases (show level=0∨level=1∨level=2 by omega) with rfl | rfl | rfl
 ·have E:Hid (va%32768/64=dt va 0):=by
   show _=_;simp only [dt,if_true];omega
  go_enter Tryz.func51,Tryz.ntmps51;go_wp2_with fail;go_ret;exact ⟨dB E.out,rfl⟩
 ·have E:Hid (va%32768/512=dt va 1):=by
   show _=_;unfold dt;rw [if_neg (by decide),if_pos rfl];omega
  go_enter Tryz.func51,Tryz.ntmps51;go_wp2_with fail;go_ret;exact ⟨dB E.out,rfl⟩
 ·have E:Hid (va%32768/4096=dt va 2):=by
   show _=_;unfold dt;rw [if_neg (by decide),if_neg (by decide)];omega
  go_enter Tryz.func51,Tryz.ntmps51;go_wp2_with fail;go_ret;exact ⟨dB E.out,rfl⟩
set_option maxRecDepth 20000 in
set_option maxHeartbeats 1600000 in
theorem kV (a:Option Addr) (c:Nat) (t:TlbM) (va:Int) (w:World) (h:TlbAt w (.agg #[.int .i64 t.sets,.int .i64 t.ways,.slice a t.es.length c]) t) (he:cY t=true) (h0:0≤va) (h1:va≤18446744073709551615):
 Calls Tryz.prog 11 #[.agg #[.int .i64 t.sets,.int .i64 t.ways,.slice a t.es.length c],.int .u64 va] w fun e w'=>e=.returned (.bool (h9 t va))∧Below w.heap.size w w':=by
 obtain ⟨G,hG⟩:∃G,h9 t va=G:=⟨_,rfl⟩;have HT1:Hid (∀(i:Nat) (x:EntM),t.es[i]?=some x→(x.valid && x.glob && x.tag == dt va x.level)=true→true=G):=fun i x hx hh=>by
  rw [←hG];exact (List.any_eq_true.2 ⟨x,List.mem_of_getElem? hx,hh⟩).symm
 have HT0:Hid ((∀(i:Nat) (x:EntM),t.es[i]?=some x→(x.valid && x.glob && x.tag == dt va x.level)=false)→false=G):=fun hh=>by
  rw [←hG];refine (List.any_eq_false.2 fun x hx=>?_).symm;obtain ⟨i,hi,rfl⟩:=List.getElem_of_mem hx;rw [hh i _ (List.getElem?_eq_getElem hi)];simp
 have HLv:Hid (∀(i:Nat) (x:EntM),t.es[i]?=some x→x.valid=true→0≤x.level∧x.level≤2):=fun i x hx hv=>dX he i x hx hv;have row:RowC w a t.es.length 6 (aL t.es):=by
  obtain ⟨a',c',he,hr,_⟩:=h;simp only [Value.agg.injEq,Array.mk.injEq,List.cons.injEq,Value.slice.injEq,and_true,true_and] at he;obtain ⟨rfl,_⟩:=he;exact hr
 have hl:t.es.length≤1048576:=h.ok.2.2.2;rw [hG];clear hG h he;obtain ⟨sets,ways,es⟩:=t;simp only at row hl HT1 HT0 HLv ⊢;obtain ⟨n,hn⟩:∃n,es.length=n:=⟨_,rfl⟩;have HN:Hid _:=hn;rw [hn] at row hl ⊢;clear hn;have HR:Hid _:=row;clear row;go_enter Tryz.func11,Tryz.ntmps11;go_upto_region 1 with fail;have F:=di w #[.int .i64 sets,.int .i64 ways,.slice a n c] 28;generalize w.alloc (Obj.cells #[.int .i64 sets,.int .i64 ways,.slice a n c] 28)=v1 at F ⊢;obtain ⟨h2,l1,n1⟩:=F;have H2:Hid _:=h2;generalize hb2:w.heap.size=b2 at H2 ⊢;have l2:b2<v1.heap.size:=by omega
 have hb2':Hid (w.heap.size=b2):=hb2;clear h2 hb2 l1;go_wp2_with fail;go_loopw [5] (fun ii wr=>∃i:Nat,i≤n∧ii=.int .i64 i∧Below v1.heap.size v1 wr∧∀(j:Nat) (x:EntM),j<i→es[j]?=some x→(x.valid && x.glob && x.tag == dt va x.level)=false) (fun ii _=>n-(intOf ii).toNat)
 case atStart=>exact ⟨0,Nat.zero_le _,rfl,Below.refl _ _,fun j x hj=>absurd hj (Nat.not_lt_zero _)⟩
 case round=>
 obtain ⟨i,hi,rfl,nr,hall⟩:=hrel;have HA:Hid _:=hall;clear hall;have c2:=ag (ab H2.out nr l2) 2 (v:=.slice a n c) rfl;have nW:=Below.step n1 nr (Nat.le_refl _);by_cases hlt:i<n
 ·have hlt':decide ((i:Int)<(n:Int))=true:=by simp;omega
  obtain ⟨b,off,rfl,hbw⟩:∃b off,a=some ⟨b,off,none⟩∧b<w.heap.size:=by
   rcases HR.out.2 with h | ⟨b,off,h,h2,_⟩
   ·omega
   ·exact ⟨b,off,h,h2⟩
  obtain ⟨x,hx⟩:∃x,es[i]?=some x:=⟨_,List.getElem?_eq_getElem (by rw [HN.out];omega)⟩;obtain ⟨g0,g1,g2,g3,g4,g5⟩:=xf (RowC.keep HR.out nW) HN.out hx;have lb:b<wr.heap.size:=Nat.lt_of_lt_of_le hbw nW.size;obtain ⟨v6,hs6,P6,l6,n6⟩:=dI wr #[.bool false,.int .i64 0,.int .u64 0,.int .u64 0,.bool false,.int .u64 0] (gM x) 62 mV rfl (ke _ _ _ _ _ _);have HS6:Hid _:=hs6;have l6':wr.heap.size<v6.heap.size:=by omega
  have e0:=aN (ag P6 0 (v:=.bool x.valid) rfl) l6';have e1:=aN (ag P6 1 (v:=.int .i64 x.level) rfl) l6';have e2:=aN (ag P6 2 (v:=.int .u64 x.tag) rfl) l6';have e4:=aN (ag P6 4 (v:=.bool x.glob) rfl) l6';have nr6:=Below.step nr n6 (Nat.le_refl _);have nW6:=Below.step nW n6 (Nat.le_refl _);have HX:Hid _:=hx;have HNX:Hid ((x.valid && x.glob && x.tag == dt va x.level)=false→∀(j:Nat) (y:EntM),j<i+1→es[j]?=some y→(y.valid && y.glob && y.tag == dt va y.level)=false):=fun h0 j y hj hy=>by
   by_cases hji:j=i
   ·subst hji;rw [HX.out] at hy;cases hy;exact h0
   ·exact HA.out j y (by omega) hy
  have HYX:Hid _:=HT1.out i x hx;have HLX:Hid _:=HLv.out i x hx;clear hs6 P6 l6 n6 hx nr nW;go_upto_region 5 with (first | ((with_reducible refine au ?_ ?_ HS6.out ?_);(exact rfl);(exact rfl)));try simp only [Act.put]
  clear HS6 g0 g1 g2 g3 g4 g5;have ne:=ej v6;obtain ⟨xv,xl,xt,xa,xg,xp⟩:=x;simp only at e0 e1 e2 e4 HNX HYX HLX;cases xv
  ·refine bL (by kernel_rfl) (by kernel_rfl) ?_;repeat (go_big_quiet_step (fail))
   refine wpQuiet_nil ?_;rintro _ ⟨u,rfl⟩;go_wp2_with fail;go_roundw
   case rel=>exact ⟨i+1,by omega,by go_num,Below.step nr6 u.h (Nat.le_refl _),HNX.out rfl⟩
   case measure=>simp [intOf];omega
  cases xg
  ·refine bL (by kernel_rfl) (by kernel_rfl) ?_;repeat (go_big_quiet_step (fail))
   refine wpQuiet_nil ?_;rintro _ ⟨u,rfl⟩;go_wp2_with fail;go_roundw
   case rel=>exact ⟨i+1,by omega,by go_num,Below.step nr6 u.h (Nat.le_refl _),HNX.out rfl⟩
   case measure=>simp [intOf];omega
  have CT:Hid (∀u:Lies v6,Calls Tryz.prog 51 #[.int .u64 va,.int .i64 xl] u.w fun e w'=>e=.returned (.int .u64 (dt va xl))∧w'=u.w):=fun u=>zK va xl u.w h0 h1 (HLX.out rfl);have HNX2:Hid ((xt == dt va xl)=false→∀(j:Nat) (y:EntM),j<i+1→es[j]?=some y→(y.valid && y.glob && y.tag == dt va y.level)=false):=fun h0=>HNX.out (by simpa using h0);have HYX2:Hid ((xt == dt va xl)=true→true=G):=fun h0=>HYX.out (by simpa using h0);generalize dt va xl=tg at *;by_cases hq:xt=tg
  ·have hq':(xt == tg)=true:=by simpa using hq
   have hG:=HYX2.out hq';subst hG;clear hq;refine bL (by kernel_rfl) (by kernel_rfl) ?_;repeat (go_big_quiet_step ((go_at_call 51;exact jI _ (CT.out _))))
   refine wpQuiet_nil ?_;rintro _ ⟨u,rfl⟩;go_wp2_with fail;go_ret;exact ⟨rfl,Below.step nW6 u.h (Nat.le_refl _)⟩
  ·have hq':(xt == tg)=false:=by simpa using hq
   clear hq;refine bL (by kernel_rfl) (by kernel_rfl) ?_;repeat (go_big_quiet_step ((go_at_call 51;exact jI _ (CT.out _))))
   refine wpQuiet_nil ?_;rintro _ ⟨u,rfl⟩;go_wp2_with fail;go_roundw
   case rel=>exact ⟨i+1,by omega,by go_num,Below.step nr6 u.h (Nat.le_refl _),HNX2.out hq'⟩
   case measure=>simp [intOf];omega
 ·have hin:i=n:=by omega
  subst hin;have hlt':decide ((i:Int)<(i:Int))=false:=by simp
  have hG:=HT0.out fun j x hx=>HA.out j x (by have:=(List.getElem?_eq_some_iff.1 hx).1;rw [HN.out] at this;exact this) hx;subst hG;go_wp2_with fail;go_ret;exact ⟨rfl,nW⟩
end Go.Proofs.YtaoaifmkhbgaiaaGreat

namespace Go.Proofs.YtaoaifmkhbgaiaaGreat
open Go.RowKit
set_option linter.unusedVariables false
def zn (f:FenceM) (lv tg asd:Int) (gl:Bool):Bool:=(!f.hasVa || tg == dt f.va lv) && (!f.hasAsid || (!gl && asd == f.asid))
theorem uP (f:FenceM) (lv tg asd:Int) (gl:Bool) (h:f.hasVa=false∨bW f.va=true):zn f lv tg asd gl=go f lv tg asd gl:=by
 unfold zn go;rcases h with h | h
 ·rw [h];simp
 ·rw [h];cases f.hasVa <;> simp [bne]
theorem wK (f:FenceM) (lv tg asd:Int) (gl:Bool) (h1:f.hasVa=true) (h2:bW f.va=false):go f lv tg asd gl=false:=by
 unfold go;rw [h1,h2];simp
theorem wL (lv tg asd:Int) (gl:Bool) (w:World):
 Calls Tryz.prog 92 #[.agg #[.int .i64 lv,.int .u64 tg,.int .u64 asd,.bool gl]] w fun e w'=>e=.returned (.bool false)∧Below w.heap.size w w':=by
 have n1:=(Below.refl w.heap.size w).alloc (Nat.le_refl _) (Obj.cells #[.int .i64 lv,.int .u64 tg,.int .u64 asd,.bool gl] 155);go_enter Tryz.func92,Tryz.ntmps92;go_wp2_with fail;go_ret;exact ⟨rfl,by first | exact n1 | exact Below.refl _ _⟩
set_option maxHeartbeats 1600000 in
theorem wM (hv:Bool) (fva:Int) (ha:Bool) (fa:Int) (lv tg asd:Int) (gl:Bool) (pf pv:Nat) (w:World) (hl:lv=0∨lv=1∨lv=2) (hv0:0≤fva) (hv1:fva≤18446744073709551615)
 (hF:w.heap[pf]?=some (.cells #[.bool hv,.int .u64 fva,.bool ha,.int .u64 fa] 38 (0,0))) (hV:w.heap[pv]?=some (.cells #[.int .u64 fva] 121 (0,0))):
 Calls Tryz.prog 93 #[.agg #[.int .i64 lv,.int .u64 tg,.int .u64 asd,.bool gl],.pointer (some ⟨pf,0,none⟩),.pointer (some ⟨pv,0,none⟩)] w fun e w'=>e=.returned (.bool (zn ⟨hv,fva,ha,fa⟩ lv tg asd gl))∧Below w.heap.size w w':=by
 have n1:=(Below.refl w.heap.size w).alloc (Nat.le_refl _) (Obj.cells #[.int .i64 lv,.int .u64 tg,.int .u64 asd,.bool gl] 155);have H1:Hid ((w.alloc (Obj.cells #[.int .i64 lv,.int .u64 tg,.int .u64 asd,.bool gl] 155)).heap[w.heap.size]?=some (.cells #[.int .i64 lv,.int .u64 tg,.int .u64 asd,.bool gl] 155 (0,0))):=heap_alloc_new w _;have lf:pf<w.heap.size:=(Array.getElem?_eq_some_iff.1 hF).1;have lv':pv<w.heap.size:=(Array.getElem?_eq_some_iff.1 hV).1;have F1:Hid ((w.alloc (Obj.cells #[.int .i64 lv,.int .u64 tg,.int .u64 asd,.bool gl] 155)).heap[pf]?=some (.cells #[.bool hv,.int .u64 fva,.bool ha,.int .u64 fa] 38 (0,0))):=ab hF n1 lf;have V1:Hid ((w.alloc (Obj.cells #[.int .i64 lv,.int .u64 tg,.int .u64 asd,.bool gl] 155)).heap[pv]?=some (.cells #[.int .u64 fva] 121 (0,0))):=ab hV n1 lv';obtain ⟨sb,hsb⟩:∃sb,(tg == dt fva lv)=sb:=⟨_,rfl⟩;have HSp:Hid (∀w,Calls Tryz.prog 94 #[.agg #[.int .i64 lv,.int .u64 tg,.int .u64 asd,.bool gl],.int .u64 fva] w fun e w'=>e=.returned (.bool sb)∧Below w.heap.size w w'):=fun w=>by
  have:=tR lv tg asd fva gl w hl hv0 hv1;rw [hsb] at this;exact this
 have hcov:zn ⟨hv,fva,ha,fa⟩ lv tg asd gl=((!hv || sb) && (!ha || (!gl && asd == fa))):=by unfold zn;rw [hsb]
 rw [hcov];obtain ⟨⟨f0,f1,f2,f3⟩,_,_,_,_⟩:=aw hF;have vc:w.cell? ⟨pv,0,none⟩=some (.int .u64 fva):=by simp [World.cell?,hV]
 clear hsb hcov hF hV;cases hv
 ·cases ha
  ·go_enter Tryz.func93,Tryz.ntmps93;go_wp2_with fail;go_ret;exact ⟨aF (by simp),n1⟩
  ·cases gl;all_goals
    go_enter Tryz.func93,Tryz.ntmps93;go_wp2_with fail;go_ret;exact ⟨aF (by simp),n1⟩
 ·cases ha
  ·cases sb;all_goals
    go_enter Tryz.func93,Tryz.ntmps93;go_wp2_with fail;generalize w.alloc (Obj.cells #[.int .i64 lv,.int .u64 tg,.int .u64 asd,.bool gl] 155)=v1 at n1 H1 F1 V1 ⊢;refine (HSp.out v1).mono ?_;rintro e v2 ⟨rfl,n2⟩;have A2:=Below.step n1 n2 (Nat.le_refl _);have F2:=ae F1 n2;have R2:=ae H1 n2;clear f0 f1 f2 f3 vc;obtain ⟨⟨f0,f1,f2,f3⟩,_,_,_,_⟩:=aw F2.out;obtain ⟨⟨r0,r1,r2,r3⟩,_,_,_,_⟩:=aw R2.out;go_wp2_with fail;go_ret;exact ⟨aF (by simp),A2⟩
  ·cases sb <;> cases gl;all_goals
    go_enter Tryz.func93,Tryz.ntmps93;go_wp2_with fail;generalize hv1:w.alloc _=v1 at n1 H1 F1 V1 ⊢;refine (HSp.out v1).mono ?_;rintro e v2 ⟨rfl,n2⟩;have A2:=Below.step n1 n2 (Nat.le_refl _);have F2:=ae F1 n2;have R2:=ae H1 n2;clear f0 f1 f2 f3 vc;obtain ⟨⟨f0,f1,f2,f3⟩,_,_,_,_⟩:=aw F2.out;obtain ⟨⟨r0,r1,r2,r3⟩,_,_,_,_⟩:=aw R2.out;go_wp2_with fail;go_ret;exact ⟨aF (by simp),A2⟩
def CovAns (base:Nat) (w:World) (e:Ending) (f:FenceM):Prop:=
 (f.hasVa=true∧bW f.va=false∧e=.returned (.func (.func 92) #[] #[]))∨
 ((f.hasVa=false∨bW f.va=true)∧∃pf pv,e=.returned (.func (.func 93) #[] #[.pointer (some ⟨pf,0,none⟩),.pointer (some ⟨pv,0,none⟩)])∧base≤pf∧base≤pv∧
  w.heap[pf]?=some (.cells #[.bool f.hasVa,.int .u64 f.va,.bool f.hasAsid,.int .u64 f.asid] 38 (0,0))∧w.heap[pv]?=some (.cells #[.int .u64 f.va] 121 (0,0)))
theorem rl (hv:Bool) (fva:Int) (ha:Bool) (fa:Int) (w:World) (hv0:0≤fva) (hv1:fva≤18446744073709551615):
 Calls Tryz.prog 52 #[.agg #[.bool hv,.int .u64 fva,.bool ha,.int .u64 fa]] w fun e w'=>CovAns w.heap.size w' e ⟨hv,fva,ha,fa⟩∧Below w.heap.size w w':=by
 have n1:=((Below.refl w.heap.size w).alloc (Nat.le_refl _) (Obj.cells #[.bool hv,.int .u64 fva,.bool ha,.int .u64 fa] 38)).alloc (by simp) (Obj.cells #[.int .u64 fva] 121);have H1:Hid (((w.alloc (Obj.cells #[.bool hv,.int .u64 fva,.bool ha,.int .u64 fa] 38)).alloc (Obj.cells #[.int .u64 fva] 121)).heap[w.heap.size]?=some (.cells #[.bool hv,.int .u64 fva,.bool ha,.int .u64 fa] 38 (0,0))):=by
  show _=_;rw [heap_alloc_old _ _ (by simp)];exact heap_alloc_new w _
 have H2:Hid (((w.alloc (Obj.cells #[.bool hv,.int .u64 fva,.bool ha,.int .u64 fa] 38)).alloc (Obj.cells #[.int .u64 fva] 121)).heap[w.heap.size+1]?=some (.cells #[.int .u64 fva] 121 (0,0))):=by
  have:=heap_alloc_new (w.alloc (Obj.cells #[.bool hv,.int .u64 fva,.bool ha,.int .u64 fa] 38)) (Obj.cells #[.int .u64 fva] 121);simp only [World.size_alloc] at this;exact this
 obtain ⟨cb,hcb⟩:∃cb,bW fva=cb:=⟨_,rfl⟩;have HCan:Hid (∀u:World,Calls Tryz.prog 91 #[.int .u64 fva] u fun e w'=>e=.returned (.bool cb)∧w'=u):=fun u=>by
  have:=iK fva u hv0 hv1;rw [hcb] at this;exact this
 have HCb:Hid (bW fva=cb):=hcb;clear hcb;cases hv
 ·go_enter Tryz.func52,Tryz.ntmps52;go_wp2_with fail;go_ret;exact ⟨.inr ⟨.inl rfl,_,_,rfl,Nat.le_refl _,by omega,H1.out,H2.out⟩,n1⟩
 ·cases cb
  ·go_enter Tryz.func52,Tryz.ntmps52;go_wp2_with (go_at_call 91;refine (HCan.out _).mono ?_;rintro e w' ⟨rfl,rfl⟩);go_ret;exact ⟨.inl ⟨rfl,HCb.out,rfl⟩,n1⟩
  ·go_enter Tryz.func52,Tryz.ntmps52;go_wp2_with (go_at_call 91;refine (HCan.out _).mono ?_;rintro e w' ⟨rfl,rfl⟩);go_ret;exact ⟨.inr ⟨.inr HCb.out,_,_,rfl,Nat.le_refl _,by omega,H1.out,H2.out⟩,n1⟩
end Go.Proofs.YtaoaifmkhbgaiaaGreat

namespace Go.Proofs.YtaoaifmkhbgaiaaGreat
open Go.RowKit
set_option linter.unusedVariables false
attribute [local go_sem ↓] Go.wp_at_zero Go.wp_at_succ
def ou (z0:Nat) (z1:Nat):Prop:=∀(hv:Bool) (fva:Int) (ha:Bool) (fa:Int) (pf pv b o g n base:Nat) (es:List EntM) (sets ways:Int) (w:World) (hn:es.length=n) (hn1:n≤1048576) (hbl:b<w.heap.size) (hbg:b≠g) (hv0:0≤fva) (hv1:fva≤18446744073709551615) (hcan:hv=false∨bW fva=true) (hpf:pf≠g) (hpv:pv≠g) (hF:w.heap[pf]?=some (.cells #[.bool hv,.int .u64 fva,.bool ha,.int .u64 fa] 38 (0,0))) (hV:w.heap[pv]?=some (.cells #[.int .u64 fva] 121 (0,0)))
 (c2:w.cell? ⟨b,o+2,none⟩=some (.slice (some ⟨g,0,none⟩) n n)) (ho:w.ownsRow base z1 6 (.slice (some ⟨g,0,none⟩) n n) n (aH es)) (hlv:∀(j:Nat) (x:EntM),es[j]?=some x→x.valid=true→0≤x.level∧x.level≤2),Calls Tryz.prog z0 #[.pointer (some ⟨b,o,none⟩),.func (.func 93) #[] #[.pointer (some ⟨pf,0,none⟩),.pointer (some ⟨pv,0,none⟩)]] w fun x w'=>x=.returned (.tuple #[])∧w'.ownsRow base z1 6 (.slice (some ⟨g,0,none⟩) n n) n (aH (es.map (cU ⟨hv,fva,ha,fa⟩)))∧w.grownBy w' (some g)
set_option maxRecDepth 20000 in
set_option maxHeartbeats 3200000 in
theorem qk:ou 96 173∧ou 99 183:=by
 refine ⟨?_,?_⟩;have mL:Hid True:=trivial
 rotate_left
 have mP:Hid True:=trivial
 rotate_left
 all_goals
  intro hv fva ha fa pf pv b o g n base es sets ways w hn hn1 hbl hbg hv0 hv1 hcan hpf hpv hF hV c2 ho hlv;first
   | (replace mL:=mL;have HO:Hid (w.ownsRow base 173 6 (.slice (some ⟨g,0,none⟩) n n) n (aH es)):=ho)
   | (replace mP:=mP;have HO:Hid (w.ownsRow base 183 6 (.slice (some ⟨g,0,none⟩) n n) n (aH es)):=ho)
  have HN:Hid (es.length=n):=hn;have HLv:Hid (∀(j:Nat) (x:EntM),es[j]?=some x→x.valid=true→0≤x.level∧x.level≤2):=hlv;have hg:=(bI ho).2.2;simp only at hg;clear ho hn hlv;first
   | (replace mL:=mL;go_enter Tryz.func96,Tryz.ntmps96)
   | (replace mP:=mP;go_enter Tryz.func99,Tryz.ntmps99)
  go_wp2_with fail;first
   | (replace mL:=mL;go_loopw [11] (fun i wr=>∃k:Nat,k≤n∧i=.int .i64 k∧w.grownBy wr (some g)∧wr.ownsRow base 173 6 (.slice (some ⟨g,0,none⟩) n n) n (aH (bJ ⟨hv,fva,ha,fa⟩ k es))) (fun i _=>n-(intOf i).toNat))
   | (replace mP:=mP;go_loopw [11] (fun i wr=>∃k:Nat,k≤n∧i=.int .i64 k∧w.grownBy wr (some g)∧wr.ownsRow base 183 6 (.slice (some ⟨g,0,none⟩) n n) n (aH (bJ ⟨hv,fva,ha,fa⟩ k es))) (fun i _=>n-(intOf i).toNat))
  case atStart=>exact ⟨0,Nat.zero_le _,rfl,aE _ _,by rw [show bJ ⟨hv,fva,ha,fa⟩ 0 es=es by simp [bJ]];exact HO.out⟩
  case round=>
   obtain ⟨k,hk,rfl,hgb,hO⟩:=hrel;first
    | (replace mL:=mL;have PO:Hid (wr.ownsRow base 173 6 (.slice (some ⟨g,0,none⟩) n n) n (aH (bJ ⟨hv,fva,ha,fa⟩ k es))):=hO)
    | (replace mP:=mP;have PO:Hid (wr.ownsRow base 183 6 (.slice (some ⟨g,0,none⟩) n n) n (aH (bJ ⟨hv,fva,ha,fa⟩ k es))):=hO)
   have lr:w.heap.size≤wr.heap.size:=hgb.size;have hfl:(aH (bJ ⟨hv,fva,ha,fa⟩ k es)).length=n*6:=hO.1;clear hO;have r2:wr.cell? ⟨b,o+2,none⟩=some (.slice (some ⟨g,0,none⟩) n n):=oV hgb c2 hbl hbg;by_cases hlt:k<n
   ·obtain ⟨⟨vv,lv,tg,asd,gl,pt⟩,hx⟩:∃x,es[k]?=some x:=⟨_,List.getElem?_eq_getElem (by rw [HN.out];exact hlt)⟩;have hx':(bJ ⟨hv,fva,ha,fa⟩ k es)[k]?=some ⟨vv,lv,tg,asd,gl,pt⟩:=by
     first
      | exact hx
      | (unfold bJ
         have hkl:k≤es.length:=by rw [HN.out];omega
         rw [List.getElem?_append_right (by simp;omega),List.length_map,List.length_take,Nat.min_eq_left hkl,Nat.sub_self,List.getElem?_drop,Nat.add_zero,hx])
    have HXk:Hid (es[k]?=some ⟨vv,lv,tg,asd,gl,pt⟩):=hx;have CE:∀j u,j<6→(fj ⟨vv,lv,tg,asd,gl,pt⟩)[j]?=some u→wr.cell? ⟨g,k*6+j,none⟩=some u:=fun j u hj hu=>pR PO.out (by have:=hfl;rw [eR] at this;omega) k _ hx' j u hj hu;have g0:wr.cell? ⟨g,k*6,none⟩=some (.int .i64 lv):=CE 0 _ (by omega) rfl;have g1:wr.cell? ⟨g,k*6+1,none⟩=some (.int .u64 tg):=CE 1 _ (by omega) rfl;have g2:wr.cell? ⟨g,k*6+2,none⟩=some (.int .u64 asd):=CE 2 _ (by omega) rfl;have g3:wr.cell? ⟨g,k*6+3,none⟩=some (.bool gl):=CE 3 _ (by omega) rfl;have g4:wr.cell? ⟨g,k*6+4,none⟩=some (.bool vv):=CE 4 _ (by omega) rfl;have g5:wr.cell? ⟨g,k*6+5,none⟩=some (.int .u64 pt):=CE 5 _ (by omega) rfl;have HNx:Hid _:=oL ⟨hv,fva,ha,fa⟩ k es _ hx;have HSm:Hid ((bJ ⟨hv,fva,ha,fa⟩ k es).set k ⟨vv,lv,tg,asd,gl,pt⟩=bJ ⟨hv,fva,ha,fa⟩ k es):=by
     show _=_;apply List.ext_getElem?;intro j;rw [List.getElem?_set];by_cases hj:k=j
     ·subst hj;have hkl:=(List.getElem?_eq_some_iff.1 hx').1;rw [if_pos rfl,if_pos hkl,hx']
     ·rw [if_neg hj]
    have HLx:Hid (vv=true→0≤lv∧lv≤2):=fun h=>HLv.out k _ hx h;clear CE hx hx';first
     | (replace mL:=mL;have n5:=(Below.refl wr.heap.size wr).alloc (Nat.le_refl _) (Obj.cells #[.int .i64 lv,.int .u64 tg,.int .u64 asd,.bool gl,.bool vv,.int .u64 pt] 173))
     | (replace mP:=mP;have n5:=(Below.refl wr.heap.size wr).alloc (Nat.le_refl _) (Obj.cells #[.int .i64 lv,.int .u64 tg,.int .u64 asd,.bool gl,.bool vv,.int .u64 pt] 183))
    have hgb5:=fY hgb n5;cases vv
    ·have hst:cU ⟨hv,fva,ha,fa⟩ ⟨false,lv,tg,asd,gl,pt⟩=⟨false,lv,tg,asd,gl,pt⟩:=by simp [cU]
     go_wp2_with fail;go_roundw
     case rel=>exact ⟨k+1,by omega,by go_num,hgb5,by rw [HNx.out,hst,HSm.out];exact aj PO.out n5⟩
     case measure=>simp [intOf];omega
    ·obtain ⟨hl0,hl2⟩:=HLx.out rfl;obtain ⟨cb,hcb⟩:∃cb,go ⟨hv,fva,ha,fa⟩ lv tg asd gl=cb:=⟨_,rfl⟩;have hst:cU ⟨hv,fva,ha,fa⟩ ⟨true,lv,tg,asd,gl,pt⟩=if cb=true then cL else ⟨true,lv,tg,asd,gl,pt⟩:=by simp [cU,hcb]
     have HSt:Hid _:=hst;have HCv:Hid (∀u:World,u.heap[pf]?=some (.cells #[.bool hv,.int .u64 fva,.bool ha,.int .u64 fa] 38 (0,0))→u.heap[pv]?=some (.cells #[.int .u64 fva] 121 (0,0))→Calls Tryz.prog 93 #[.agg #[.int .i64 lv,.int .u64 tg,.int .u64 asd,.bool gl],.pointer (some ⟨pf,0,none⟩),.pointer (some ⟨pv,0,none⟩)] u fun e w'=>e=.returned (.bool cb)∧Below u.heap.size u w'):=fun u h1 h2=>by
      have:=wM hv fva ha fa lv tg asd gl pf pv u (by omega) hv0 hv1 h1 h2;rw [uP _ _ _ _ _ hcan,hcb] at this;exact this
     have F5:=av hF hgb5 hpf;have V5:=av hV hgb5 hpv;clear hcb hst;go_wp2_with fail;first
      | (replace mL:=mL;generalize wr.alloc (Obj.cells #[.int .i64 lv,.int .u64 tg,.int .u64 asd,.bool gl,.bool true,.int .u64 pt] 173)=v5 at n5 hgb5 F5 V5 ⊢)
      | (replace mP:=mP;generalize wr.alloc (Obj.cells #[.int .i64 lv,.int .u64 tg,.int .u64 asd,.bool gl,.bool true,.int .u64 pt] 183)=v5 at n5 hgb5 F5 V5 ⊢)
     refine (HCv.out v5 F5 V5).mono ?_;rintro e v6 ⟨rfl,n6⟩;have n56:=Below.step n5 n6 (Nat.le_refl _);have hgb6:=fY hgb n56;first
      | (replace mL:=mL;have SO:Hid (v6.ownsRow base 173 6 (.slice (some ⟨g,0,none⟩) n n) n (aH (bJ ⟨hv,fva,ha,fa⟩ k es))):=aj PO.out n56)
      | (replace mP:=mP;have SO:Hid (v6.ownsRow base 183 6 (.slice (some ⟨g,0,none⟩) n n) n (aH (bJ ⟨hv,fva,ha,fa⟩ k es))):=aj PO.out n56)
     clear g0 g1 g2 g3 g4 g5 r2 F5 V5 n5 n6 hgb5 hgb;have r2:v6.cell? ⟨b,o+2,none⟩=some (.slice (some ⟨g,0,none⟩) n n):=oV hgb6 c2 hbl hbg;cases cb
     ·go_wp2_with fail;go_roundw
      case rel=>exact ⟨k+1,by omega,by go_num,hgb6,by rw [HNx.out,HSt.out];simp only [Bool.false_eq_true,if_false];rw [HSm.out];exact SO.out⟩
      case measure=>simp [intOf];omega
     ·
      have q0:=aI SO.out (k*6) _ (List.getElem?_eq_getElem (by omega));have q1:=aI SO.out (k*6+1) _ (List.getElem?_eq_getElem (by omega));have q2:=aI SO.out (k*6+2) _ (List.getElem?_eq_getElem (by omega));have q3:=aI SO.out (k*6+3) _ (List.getElem?_eq_getElem (by omega));have q4:=aI SO.out (k*6+4) _ (List.getElem?_eq_getElem (by omega));have q5:=aI SO.out (k*6+5) _ (List.getElem?_eq_getElem (by omega));generalize (aH (bJ ⟨hv,fva,ha,fa⟩ k es))[k*6]'_=y0 at q0;generalize (aH (bJ ⟨hv,fva,ha,fa⟩ k es))[k*6+1]'_=y1 at q1;generalize (aH (bJ ⟨hv,fva,ha,fa⟩ k es))[k*6+2]'_=y2 at q2;generalize (aH (bJ ⟨hv,fva,ha,fa⟩ k es))[k*6+3]'_=y3 at q3;generalize (aH (bJ ⟨hv,fva,ha,fa⟩ k es))[k*6+4]'_=y4 at q4;generalize (aH (bJ ⟨hv,fva,ha,fa⟩ k es))[k*6+5]'_=y5 at q5;have s0:=aP SO.out (k*6);have s1:=aP SO.out (k*6+1);have s2:=aP SO.out (k*6+2);have s3:=aP SO.out (k*6+3);have s4:=aP SO.out (k*6+4);have s5:=aP SO.out (k*6+5);go_wp2_with fail;go_roundw
      case rel=>
       refine ⟨k+1,by omega,by go_num,ax (ax (ax (ax (ax (ax hgb6 _ _) _ _) _ _) _ _) _ _) _ _,?_⟩;rw [HNx.out,HSt.out,if_pos (by trivial),i7 _ _ _ (by rw [jt,HN.out];exact hlt)];exact aJ (aJ (aJ (aJ (aJ (aJ SO.out _ _) _ _) _ _) _ _) _ _) _ _
      case measure=>simp [intOf];omega
   ·have hkn:k=n:=by omega
    subst hkn;go_wp2_with fail;go_end0;refine ⟨rfl,?_,hgb⟩;have hO:=PO.out;have hsn:bJ ⟨hv,fva,ha,fa⟩ k es=es.map (cU ⟨hv,fva,ha,fa⟩):=by
     have hq:es.length=k:=HN.out;unfold bJ;rw [←hq,List.take_length,List.drop_length,List.append_nil]
    rw [hsn] at hO;exact hO
def ov (z0:Nat) (z1:Nat):Prop:=∀(hv:Bool) (fva:Int) (ha:Bool) (fa:Int) (pf pv b o g n base:Nat) (es:List EntM) (sets ways:Int) (w:World) (hn:es.length=n) (hn1:n≤1048576) (hbl:b<w.heap.size) (hbg:b≠g)
 (c2:w.cell? ⟨b,o+2,none⟩=some (.slice (some ⟨g,0,none⟩) n n)) (ho:w.ownsRow base z1 6 (.slice (some ⟨g,0,none⟩) n n) n (aH es)) (hlv:∀(j:Nat) (x:EntM),es[j]?=some x→x.valid=true→0≤x.level∧x.level≤2),Calls Tryz.prog z0 #[.pointer (some ⟨b,o,none⟩),.func (.func 92) #[] #[]] w fun x w'=>x=.returned (.tuple #[])∧w'.ownsRow base z1 6 (.slice (some ⟨g,0,none⟩) n n) n (aH (es))∧w.grownBy w' (some g)
set_option maxRecDepth 20000 in
set_option maxHeartbeats 3200000 in
theorem ql:ov 96 173∧ov 99 183:=by
 refine ⟨?_,?_⟩;have mL:Hid True:=trivial
 rotate_left
 have mP:Hid True:=trivial
 rotate_left
 all_goals
  intro hv fva ha fa pf pv b o g n base es sets ways w hn hn1 hbl hbg c2 ho hlv;first
   | (replace mL:=mL;have HO:Hid (w.ownsRow base 173 6 (.slice (some ⟨g,0,none⟩) n n) n (aH es)):=ho)
   | (replace mP:=mP;have HO:Hid (w.ownsRow base 183 6 (.slice (some ⟨g,0,none⟩) n n) n (aH es)):=ho)
  have HN:Hid (es.length=n):=hn;have HLv:Hid (∀(j:Nat) (x:EntM),es[j]?=some x→x.valid=true→0≤x.level∧x.level≤2):=hlv;have hg:=(bI ho).2.2;simp only at hg;clear ho hn hlv;first
   | (replace mL:=mL;go_enter Tryz.func96,Tryz.ntmps96)
   | (replace mP:=mP;go_enter Tryz.func99,Tryz.ntmps99)
  go_wp2_with fail;first
   | (replace mL:=mL;go_loopw [11] (fun i wr=>∃k:Nat,k≤n∧i=.int .i64 k∧w.grownBy wr (some g)∧wr.ownsRow base 173 6 (.slice (some ⟨g,0,none⟩) n n) n (aH (es))) (fun i _=>n-(intOf i).toNat))
   | (replace mP:=mP;go_loopw [11] (fun i wr=>∃k:Nat,k≤n∧i=.int .i64 k∧w.grownBy wr (some g)∧wr.ownsRow base 183 6 (.slice (some ⟨g,0,none⟩) n n) n (aH (es))) (fun i _=>n-(intOf i).toNat))
  case atStart=>exact ⟨0,Nat.zero_le _,rfl,aE _ _,HO.out⟩
  case round=>
   obtain ⟨k,hk,rfl,hgb,hO⟩:=hrel;first
    | (replace mL:=mL;have PO:Hid (wr.ownsRow base 173 6 (.slice (some ⟨g,0,none⟩) n n) n (aH (es))):=hO)
    | (replace mP:=mP;have PO:Hid (wr.ownsRow base 183 6 (.slice (some ⟨g,0,none⟩) n n) n (aH (es))):=hO)
   have lr:w.heap.size≤wr.heap.size:=hgb.size;have hfl:(aH (es)).length=n*6:=hO.1;clear hO;have r2:wr.cell? ⟨b,o+2,none⟩=some (.slice (some ⟨g,0,none⟩) n n):=oV hgb c2 hbl hbg;by_cases hlt:k<n
   ·obtain ⟨⟨vv,lv,tg,asd,gl,pt⟩,hx⟩:∃x,es[k]?=some x:=⟨_,List.getElem?_eq_getElem (by rw [HN.out];exact hlt)⟩;have hx':(es)[k]?=some ⟨vv,lv,tg,asd,gl,pt⟩:=by
     first
      | exact hx
      | (unfold bJ
         have hkl:k≤es.length:=by rw [HN.out];omega
         rw [List.getElem?_append_right (by simp;omega),List.length_map,List.length_take,Nat.min_eq_left hkl,Nat.sub_self,List.getElem?_drop,Nat.add_zero,hx])
    have HXk:Hid (es[k]?=some ⟨vv,lv,tg,asd,gl,pt⟩):=hx;have CE:∀j u,j<6→(fj ⟨vv,lv,tg,asd,gl,pt⟩)[j]?=some u→wr.cell? ⟨g,k*6+j,none⟩=some u:=fun j u hj hu=>pR PO.out (by have:=hfl;rw [eR] at this;omega) k _ hx' j u hj hu;have g0:wr.cell? ⟨g,k*6,none⟩=some (.int .i64 lv):=CE 0 _ (by omega) rfl;have g1:wr.cell? ⟨g,k*6+1,none⟩=some (.int .u64 tg):=CE 1 _ (by omega) rfl;have g2:wr.cell? ⟨g,k*6+2,none⟩=some (.int .u64 asd):=CE 2 _ (by omega) rfl;have g3:wr.cell? ⟨g,k*6+3,none⟩=some (.bool gl):=CE 3 _ (by omega) rfl;have g4:wr.cell? ⟨g,k*6+4,none⟩=some (.bool vv):=CE 4 _ (by omega) rfl;have g5:wr.cell? ⟨g,k*6+5,none⟩=some (.int .u64 pt):=CE 5 _ (by omega) rfl;have HSm:Hid ((es).set k ⟨vv,lv,tg,asd,gl,pt⟩=es):=by
     show _=_;apply List.ext_getElem?;intro j;rw [List.getElem?_set];by_cases hj:k=j
     ·subst hj;have hkl:=(List.getElem?_eq_some_iff.1 hx').1;rw [if_pos rfl,if_pos hkl,hx']
     ·rw [if_neg hj]
    have HLx:Hid (vv=true→0≤lv∧lv≤2):=fun h=>HLv.out k _ hx h;clear CE hx hx';first
     | (replace mL:=mL;have n5:=(Below.refl wr.heap.size wr).alloc (Nat.le_refl _) (Obj.cells #[.int .i64 lv,.int .u64 tg,.int .u64 asd,.bool gl,.bool vv,.int .u64 pt] 173))
     | (replace mP:=mP;have n5:=(Below.refl wr.heap.size wr).alloc (Nat.le_refl _) (Obj.cells #[.int .i64 lv,.int .u64 tg,.int .u64 asd,.bool gl,.bool vv,.int .u64 pt] 183))
    have hgb5:=fY hgb n5;cases vv
    ·go_wp2_with fail;go_roundw
     case rel=>exact ⟨k+1,by omega,by go_num,hgb5,aj PO.out n5⟩
     case measure=>simp [intOf];omega
    ·go_wp2_with fail;first
      | (replace mL:=mL;generalize wr.alloc (Obj.cells #[.int .i64 lv,.int .u64 tg,.int .u64 asd,.bool gl,.bool true,.int .u64 pt] 173)=v5 at n5 hgb5 ⊢)
      | (replace mP:=mP;generalize wr.alloc (Obj.cells #[.int .i64 lv,.int .u64 tg,.int .u64 asd,.bool gl,.bool true,.int .u64 pt] 183)=v5 at n5 hgb5 ⊢)
     refine (wL lv tg asd gl v5).mono ?_;rintro e v6 ⟨rfl,n6⟩;have n56:=Below.step n5 n6 (Nat.le_refl _);have hgb6:=fY hgb n56;go_wp2_with fail;go_roundw
     case rel=>exact ⟨k+1,by omega,by go_num,hgb6,aj PO.out n56⟩
     case measure=>simp [intOf];omega
   ·have hkn:k=n:=by omega
    subst hkn;go_wp2_with fail;go_end0;refine ⟨rfl,?_,hgb⟩;have hO:=PO.out;exact hO
end Go.Proofs.YtaoaifmkhbgaiaaGreat

namespace Go.Proofs.YtaoaifmkhbgaiaaGreat
open Go.RowKit
set_option linter.unusedVariables false
def CovVal (B:Nat) (w:World) (cv:Value) (f:FenceM):Prop:=
 (f.hasVa=true∧bW f.va=false∧cv=.func (.func 92) #[] #[])∨
 ((f.hasVa=false∨bW f.va=true)∧∃pf pv,cv=.func (.func 93) #[] #[.pointer (some ⟨pf,0,none⟩),.pointer (some ⟨pv,0,none⟩)]∧pf<B∧pv<B∧
  w.heap[pf]?=some (.cells #[.bool f.hasVa,.int .u64 f.va,.bool f.hasAsid,.int .u64 f.asid] 38 (0,0))∧w.heap[pv]?=some (.cells #[.int .u64 f.va] 121 (0,0)))
theorem CovVal.keep {B:Nat} {w w':World} {cv:Value} {f:FenceM} (h:CovVal B w cv f) (hb:Below w.heap.size w w'):CovVal B w' cv f:=by
 rcases h with h | ⟨h1,pf,pv,rfl,lf,lp,hF,hV⟩
 ·exact .inl h
 ·exact .inr ⟨h1,pf,pv,rfl,lf,lp,ab hF hb (Array.getElem?_eq_some_iff.1 hF).1,ab hV hb (Array.getElem?_eq_some_iff.1 hV).1⟩
theorem CovVal.up {B B':Nat} {w:World} {cv:Value} {f:FenceM} (h:CovVal B w cv f) (hb:B≤B'):CovVal B' w cv f:=by
 rcases h with h | ⟨h1,pf,pv,rfl,lf,lp,hF,hV⟩
 ·exact .inl h
 ·exact .inr ⟨h1,pf,pv,rfl,by omega,by omega,hF,hV⟩
theorem CovAns.val {base:Nat} {w:World} {e:Ending} {f:FenceM} (h:CovAns base w e f):∃cv,e=.returned cv∧CovVal w.heap.size w cv f:=by
 rcases h with ⟨h1,h2,rfl⟩ | ⟨h1,pf,pv,rfl,lf,lp,hF,hV⟩
 ·exact ⟨_,rfl,.inl ⟨h1,h2,rfl⟩⟩
 ·exact ⟨_,rfl,.inr ⟨h1,pf,pv,rfl,(Array.getElem?_eq_some_iff.1 hF).1,(Array.getElem?_eq_some_iff.1 hV).1,hF,hV⟩⟩
theorem yU {f:FenceM} (es:List EntM) (h1:f.hasVa=true) (h2:bW f.va=false):es.map (cU f)=es:=by
 have:cU f=id:=by
  funext e;simp [cU,wK f _ _ _ _ h1 h2]
 rw [this,List.map_id]
end Go.Proofs.YtaoaifmkhbgaiaaGreat
