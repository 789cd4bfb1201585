import Derived.Deep.AppendLies
import Derived.Test.YtgnnmgfgfihljaaGreatPk29
import Derived.RangeFuncNested
import Derived.RangeFuncCalls
import Derived.OrdersIn
import Derived.TacticsIn
namespace Go.Proofs.YtgnnmgfgfihljaaGreat
open Go.RowKit
set_option linter.unusedVariables false
set_option maxHeartbeats 6400000
set_option maxRecDepth 20000
theorem lR (g len cap k:Nat) (zs:List Int) (val:Int) (w:World) (h:Blk 5 w g zs) (hz:zs.length=len) (hk:k<len) (hl:len<=1048576) (hv0:0<=val) (hv1:val<=18446744073709551615):
 Calls Tryz.prog 96 #[.slice (some ⟨g,0,none⟩) len cap,.int .u64 k,.int .u64 val] w fun e w'=>e=.returned (.tuple #[])∧Blk 5 w' g (zs.set k (val%256))∧w.grownBy w' (some g):=by
 have g2:=h.cell k (by omega);have g3:=h.free k;have hb:Hid _:=h.store k (val%256);have hgb:Hid _:=ak (au w (some g)) k (.int .u8 (val%256));clear h;go_enter Tryz.func96,Tryz.ntmps96;go_wp2_with fail;go_end0;exact ⟨rfl,hb.out,hgb.out⟩
def MNext (w:World) (O X:Nat->Prop) (m:MP) (h':HartM) (ol':List (Nat × Int)) (w':World):Prop:=
 ∃O' ov',MW w' O' X m ov' h' ol'∧Kp O w w'∧(∀i,i<w.heap.size->O' i->O i)∧∀i,X i->w'.heap[i]?=w.heap[i]?
theorem MNext.refl {w:World} {O X:Nat->Prop} {m:MP} {ov:Value} {h:HartM} {ol:List (Nat × Int)} (k:MW w O X m ov h ol):MNext w O X m h ol w:=
 ⟨O,ov,k,Kp.refl O w,fun _ _ h=>h,fun _ _=>rfl⟩
theorem MNext.trans {w w1 w2:World} {O O1 X:Nat->Prop} {m:MP} {h2:HartM} {ol2:List (Nat × Int)} (hk:Kp O w w1) (ho:∀i,i<w.heap.size->O1 i->O i) (hx:∀i,X i->w1.heap[i]?=w.heap[i]?) (k:MNext w1 O1 X m h2 ol2 w2):MNext w O X m h2 ol2 w2:=by
 obtain ⟨O2,ov2,k1,k2,k3,k4⟩:=k;exact ⟨O2,ov2,k1,hk.trans' k2 ho,fun i hi h=>ho i hi (k3 i (Nat.lt_of_lt_of_le hi hk.size) h),fun i hi=>(k4 i hi).trans (hx i hi)⟩
theorem uC {P:Program} {a:Act} {o:Oper} {s x:Operand} {t ty:TypeId} {v y r:Value} {w w':World} (ho:o.op=.call { callee:=.builtin .append,args:=#[s,x],argTypes:=#[t,t] }) (hty:o.type=ty) (hs:a.eval s=v) (hx:a.eval x=y) (hr:(Builtin.append_ #[t,t] ty #[v,y]).run P w=.ok r w'):(execOp a.eval o).run P w=.ok (.value r) w':=by
 subst hty;unfold execOp;simp only [ho,resolve,invoke,builtin,Sem.run_bind,Sem.run_pure,Result.andThen_ok,List.map_toArray,List.map_cons,List.map_nil,hs,hx,hr]
theorem AL:(Tryz.prog.info? 181).map (fun i=>(i.zero,i.size,i.bytes))=some (some (.agg #[.int .u64 0,.int .u64 0]),2,16):=by kernel_rfl
theorem yp {O X:Nat->Prop} {m:MP} {ov:Value} {h:HartM} {ol:List (Nat × Int)} (addr:Nat) (val:Int) (w:World) (k:MW w O X m ov h ol) (ha:addr<h.mem.length) (hl:ol.length<16) (hv:inU val):
 Calls Tryz.prog 136 #[.pointer (some ⟨m.b,18,none⟩),.int .u64 addr,.int .u64 val] w fun e w'=>e=.returned (.tuple #[])∧MNext w O X m (dF h (h.mem.set addr (val%256))) (ol++[(addr,h.mem[addr]?.getD 0)]) w':=by
 have HK:Hid _:=k;have hb:=k.lt;have hbk:=k.blk;obtain ⟨hv0,hv1⟩:=hv;have hml:=k.len;obtain ⟨y,hy⟩:∃y,h.mem[addr]?.getD 0=y:=⟨_,rfl⟩;have HY:Hid _:=hy;have hyb:=k.byt addr;rw [hy] at hyb |-;obtain ⟨on,oc,oa,hov⟩:=k.sh;have HOv:Hid _:=hov;have HRd:Hid (∀u,Below w.heap.size w u->Calls Tryz.prog 134 #[.slice (some ⟨m.gm,0,none⟩) h.mem.length h.mem.length,.int .u64 addr] u fun e w'=>e=.returned (.int .u64 y)∧w'=u):=fun u hu=>by
  have:=kz m.gm 0 h.mem.length h.mem.length addr h.mem u (Cel.of_blk (HK.out.low hu).mem HK.out.byt) ha (by omega);rw [HY.out] at this;exact this
 clear k hy hov;obtain ⟨b,hbm⟩:∃b,m.b=b:=⟨_,rfl⟩;have HBm:Hid _:=hbm;rw [hbm] at hb hbk |-;clear hbm;have HBk:Hid _:=hbk;have C18:∀u:Has b (.cells (cy h m.gm ov m.gi m.gd m.gp m.pv) 106 (0,0)),u.w.cell? ⟨b,18,none⟩=some (.slice (some ⟨m.gm,0,none⟩) h.mem.length h.mem.length):=fun u=>aa u.h 18 rfl;have C19:∀u:Has b (.cells (cy h m.gm ov m.gi m.gd m.gp m.pv) 106 (0,0)),u.w.cell? ⟨b,19,none⟩=some ov:=fun u=>aa u.h 19 rfl;have ne:Nonempty (Has b (.cells (cy h m.gm ov m.gi m.gd m.gp m.pv) 106 (0,0))):=⟨⟨w,hbk⟩⟩;clear hbk;obtain ⟨A,hAe⟩:∃A,cy h m.gm ov m.gi m.gd m.gp m.pv=A:=⟨_,rfl⟩;have HAe:Hid _:=hAe;rw [hAe] at C18 C19 ne HBk;clear hAe;have D1:=bdr w;rw [HOv.out] at C19;generalize hln:h.mem.length=ln at *;have HLn:Hid _:=hln;clear hln;go_enter Tryz.func136,Tryz.ntmps136;go_upto_region 0 with fail;refine aO (fun w'=>∃u:Has b (.cells A 106 (0,0)),w'=u.w) 17 (by kernel_rfl) ?_;refine cW (by kernel_rfl) (fuel:=7) ⟨⟨w.drew,HBk.out⟩,rfl⟩ (cG fun _ _ _ _ e h=>⟨e ▸ h.1,h.2⟩) [0,1,2,3,4,5,6,7,8,9,10] _ _ (by kernel_rfl) ?_;simp only [fI,List.getElem?_toArray,List.getElem?_cons_zero,List.getElem?_cons_succ];repeat (go_big_quiet_step (fail))
 refine wpQuiet_nil ?_;refine ck 11 17 (by kernel_rfl) rfl (by kernel_rfl) (by kernel_rfl) (f:=134) (args:=#[.slice (some ⟨m.gm,0,none⟩) ln ln,.int .u64 addr]) (by kernel_rfl) ?_;refine Calls.mono (HRd.out w.drew D1) ?_;rintro e v1 ⟨rfl,hv1'⟩;rw [hv1'];clear hv1' v1;refine .inl ⟨_,rfl,fun _=>⟨⟨w.drew,HBk.out⟩,rfl⟩,?_⟩;simp only [aPt,sTa,sCs,sCz];refine cW (by kernel_rfl) (fuel:=5) ⟨⟨w.drew,HBk.out⟩,rfl⟩ (cG fun _ _ _ _ e h=>⟨e ▸ h.1,h.2⟩) [12] _ _ (by kernel_rfl) ?_;simp only [fI,List.getElem?_toArray,List.getElem?_cons_zero,List.getElem?_cons_succ];repeat (go_big_quiet_step (fail))
 refine wpQuiet_nil ?_;have F:=bL w.drew #[.int .u64 addr,.int .u64 y] 181;obtain ⟨f1,f2,f3⟩:=F;have n2:=bst D1 f3;have HB2:Hid ((w.drew.alloc (Obj.cells #[.int .u64 addr,.int .u64 y] 181)).heap[b]?=some (.cells A 106 (0,0))):=ab HBk n2;refine eH 13 19 (.slice (some ⟨w.drew.heap.size,0,none⟩) 1 1) (w':=w.drew.alloc (Obj.cells #[.int .u64 addr,.int .u64 y] 181)) (by kernel_rfl) rfl (by kernel_rfl) (by kernel_rfl) (by go_simp) (fun _=>⟨⟨_,HB2.out⟩,rfl⟩) ?_;simp only [aPt,sTa,sCs,sCz];have HF1:Hid _:=f1;have n2':Hid (Below w.heap.size w (w.drew.alloc (Obj.cells #[.int .u64 addr,.int .u64 y] 181))):=n2;have hsz2:w.heap.size<(w.drew.alloc (Obj.cells #[.int .u64 addr,.int .u64 y] 181)).heap.size:=by rw [f2];exact Nat.lt_succ_self _
 rw [show w.drew.heap.size=w.heap.size from rfl] at HF1 |-;clear f1 f2 f3 n2;generalize w.drew.alloc (Obj.cells #[.int .u64 addr,.int .u64 y] 181)=v2 at HF1 n2' HB2 hsz2 |-;obtain ⟨i0,hi0,hz0,hz1,hz2⟩:=info_parts AL;have K2:Hid (MW v2 O X m ov h ol):=HK.out.low n2'.out;have hoe:=K2.out.old;rw [HOv.out] at hoe;obtain ⟨g',cap',v3,hr,ho3,hg3,hat,hlt3⟩:=run_append_lies (P:=Tryz.prog) v2 92 92 0 181 i0 (.agg #[.int .u64 0,.int .u64 0]) 2 16 Tryz.underlying92 hi0 hz0 hz1 hz2 rfl (by decide) (.slice oa on oc) ol.length (kV ol) hoe ⟨w.heap.size,0,none⟩ 1 1 [.int .u64 addr,.int .u64 y] rfl (by
  intro j u hu;have:=aa HF1.out j (v:=u) (by simpa using hu);cases j with
  | zero=>simpa [Addr.add] using this
  | succ j=>simpa [Addr.add] using this) (by simp [Value.oneCell']) (by omega) (by unfold maxLen;omega) (by omega) (by omega) v2.heap.size rfl
 have hbo:∀g,(Value.slice oa on oc).ownBlock=some g->g≠b:=fun g e=>by
  have:=(HK.out.oo g (by rw [HOv.out];exact e)).2.1;rw [HBm.out] at this;exact this
 have HB3:Hid (v3.heap[b]?=some (.cells A 106 (0,0))):=(hg3.block b (hpl HB2.out) (fun e=>hbo b e.symm rfl)).trans HB2.out;have HO3:Hid _:=ho3;have HG3:Hid _:=hg3;have HAt:Hid _:=hat;clear ho3 hg3 hat hoe hbo;refine eH 14 20 (.slice (some ⟨g',0,none⟩) (ol.length+1) cap') (w':=v3) (by kernel_rfl) rfl (by kernel_rfl) (by kernel_rfl) (uC (s:=.tmp 10) (x:=.tmp 19) (t:=92) (by kernel_rfl) (by kernel_rfl) (by kernel_rfl) (by kernel_rfl) hr) (fun _=>⟨⟨_,HB3.out⟩,rfl⟩) ?_;simp only [aPt,sTa,sCs,sCz];refine cW (by kernel_rfl) (fuel:=1) ⟨⟨v3,HB3.out⟩,rfl⟩ (cG fun _ _ _ _ e h=>⟨e ▸ h.1,h.2⟩) [15,16] _ _ (by kernel_rfl) ?_;simp only [fI,List.getElem?_toArray,List.getElem?_cons_zero,List.getElem?_cons_succ];repeat (go_big_quiet_step (fail))
 refine wpQuiet_nil ?_;have c19:=aa HB3.out 19 (v:=.slice oa on oc) (by rw [<-HAe.out,<-HOv.out];rfl);have f19:=aE HB3.out 19;refine cz 17 rfl (T:=92) (x:=.tmp 22) (y:=.tmp 20) (by kernel_rfl) (by kernel_rfl) (by kernel_rfl) (by kernel_rfl) (b:=b) (off:=19) (V:=.slice (some ⟨g',0,none⟩) (ol.length+1) cap') (w':=v3.setCell ⟨b,19,none⟩ (.slice (some ⟨g',0,none⟩) (ol.length+1) cap')) (by kernel_rfl) (by kernel_rfl) (by go_simp) (.inl (by kernel_rfl)) ?_;refine cf (by kernel_rfl) ?_ _;have hpv:Hid (∀V,A.setIfInBounds 19 V=cy h m.gm V m.gi m.gd m.gp m.pv):=fun V=>by
  rw [<-HAe.out];rfl
 have g4:=ak (au v3 (some b)) 19 (.slice (some ⟨g',0,none⟩) (ol.length+1) cap');have HB4:Hid ((v3.setCell ⟨b,19,none⟩ (.slice (some ⟨g',0,none⟩) (ol.length+1) cap')).heap[b]?=some (.cells (cy h m.gm (.slice (some ⟨g',0,none⟩) (ol.length+1) cap') m.gi m.gd m.gp m.pv) 106 (0,0))):=by
  show _=_;rw [<-hpv.out];exact bq HB3.out
 have HG4:Hid _:=g4;clear hr c19 f19 C18 C19 ne g4 hpv;generalize v3.setCell ⟨b,19,none⟩ (.slice (some ⟨g',0,none⟩) (ol.length+1) cap')=v4 at HG4 HB4 |-;have hbg:∀g,(Value.slice oa on oc).ownBlock=some g->g≠m.gm∧¬X g∧O g∧g<w.heap.size∧g≠m.b:=fun g e=>by
  have:=HK.out.oo g (by rw [HOv.out];exact e);have hl:=(HK.out.old.lt g (by rw [HOv.out];exact e)).2;exact ⟨this.2.2.1,this.2.2.2,this.1,hl,this.2.1⟩
 have k23:Kp (fun i=>(Value.slice oa on oc).ownBlock=some i) v2 v3:=⟨HG3.out.os,HG3.out.tape,HG3.out.output,HG3.out.size,fun i hi hn=>HG3.out.block i hi fun e=>hn e.symm⟩;have k34:Kp (fun i=>i=m.b) v3 v4:=by rw [HBm.out];exact Kp.of_gb HG4.out rfl
 have M4:Hid (Blk 5 v4 m.gm h.mem):=k34.blk (k23.blk K2.out.mem fun e=>(hbg _ e).1 rfl) (Ne.symm HK.out.bm);have hgb':g'≠m.b:=fun e=>by
  rcases HAt.out with h1 | h1
  ·exact (hbg _ h1).2.2.2.2 e
  ·have:=K2.out.lt;omega
 have O4:Hid (v4.ownsRow 0 181 2 (.slice (some ⟨g',0,none⟩) (ol.length+1) cap') (ol.length+1) (kV ol++[.int .u64 addr,.int .u64 y])):=k34.own HO3.out fun g e=>by
  have:g'=g:=by simpa [Value.ownBlock] using e
  rw [<-this];exact hgb'
 have c18:=aa HB4.out 18 (v:=.slice (some ⟨m.gm,0,none⟩) ln ln) (by rw [<-HLn.out];rfl);go_wp2_with fail;refine (lR m.gm ln ln addr h.mem val v4 M4.out HLn.out ha (by omega) hv0 hv1).mono ?_;rintro e v5 ⟨rfl,hm5,hg5⟩;have HM5:Hid _:=hm5;have HG5:Hid _:=hg5;clear hm5 hg5 c18;go_wp2_with fail;go_end0;refine ⟨rfl,fun i=>O i∨i=g',.slice (some ⟨g',0,none⟩) (ol.length+1) cap',?_,?_,?_,?_⟩
 ·have hgm:g'≠m.gm:=fun e=>by
   rcases HAt.out with h1 | h1
   ·exact (hbg _ h1).1 e
   ·have:=K2.out.mem.lt;omega
  have hgx:¬X g':=fun e=>by
   rcases HAt.out with h1 | h1
   ·exact (hbg _ h1).2.1 e
   ·have:=(K2.out.xo _ e).2;omega
  have k45:Kp (fun i=>i=m.gm) v4 v5:=Kp.of_gb HG5.out rfl;have hs2:=n2'.out.size;have hs3:=k23.size;have hs4:=k34.size;have hs5:=k45.size;refine ⟨?_,HM5.out,?_,.inl HK.out.ob,.inl HK.out.om,?_,HK.out.bm,HK.out.xb,HK.out.xm,?_,HK.out.byt.set _ _ (by omega) (by omega),by simpa [dF] using HK.out.len,HK.out.regs,by simp;omega,⟨_,_,_,rfl⟩,?_,?_⟩
  ·have e:cy (dF h (h.mem.set addr (val%256))) m.gm (.slice (some ⟨g',0,none⟩) (ol.length+1) cap') m.gi m.gd m.gp m.pv=cy h m.gm (.slice (some ⟨g',0,none⟩) (ol.length+1) cap') m.gi m.gd m.gp m.pv:=by
    simp only [cy,dF,List.length_set]
   rw [e];refine k45.heap ?_ HK.out.bm;rw [HBm.out];exact HB4.out
  ·have:=k45.own O4.out fun g e=>by
    have:g'=g:=by simpa [Value.ownBlock] using e
    rw [<-this];exact hgm
   rw [oE,List.length_append];exact this
  ·intro g e;have e':g'=g:=by simpa [Value.ownBlock] using e
   subst e';exact ⟨.inr rfl,hgb',hgm,hgx⟩
  ·intro i hi;have:=HK.out.xo i hi;exact ⟨.inl this.1,by omega⟩
  ·rintro i (hi | hi)
   ·have:=HK.out.obd i hi;omega
   ·omega
  ·intro o ho;show o.1<(h.mem.set addr (val%256)).length∧_;rw [List.length_set];rcases List.mem_append.1 ho with ho | ho
   ·exact HK.out.oln o ho
   ·rw [List.mem_singleton] at ho;subst ho;exact ⟨by rw [HLn.out];exact ha,hyb.1,hyb.2⟩
 ·refine (((Kp.of_below O n2'.out).trans (k23.mono fun i e=>(hbg i e).2.2.1)).trans (k34.mono fun i e=>?_)).trans ((Kp.of_gb (O:=fun i=>i=m.gm) HG5.out rfl).mono fun i e=>?_)
  ·rw [e];exact HK.out.ob
  ·rw [e];exact HK.out.om
 ·rintro i hi (h1 | h1)
  ·exact h1
  ·rcases HAt.out with h2 | h2
   ·rw [h1];exact (hbg _ h2).2.2.1
   ·have:=n2'.out.size;omega
 ·intro i hi;have hl:=(HK.out.xo i hi).2;have hs2:=n2'.out.size;have hs3:=k23.size;have hs4:=k34.size;rw [(Kp.of_gb (O:=fun i=>i=m.gm) HG5.out rfl).block i (by omega) (fun e=>HK.out.xm (e ▸ hi)),k34.block i (by omega) (fun e=>HK.out.xb (e ▸ hi)),k23.block i (by omega) (fun e=>(hbg _ e).2.1 hi),n2'.out.block i hl]
def BO (w:World) (O X:Nat->Prop) (m:MP) (h:HartM) (ol:List (Nat × Int)) (ps:List bI) (kind val:Int) (e:Ending) (w':World):Prop:=
 ∃mem' ol',MNext w O X m (dF h mem') ol' w'∧fx ol' mem'=fx ol h.mem∧
  ((fm h.mem ps=none∧e=.returned (.tuple #[])∧mem'=gn h.mem ps (cS val (bN ps)))∨(∃v,fm h.mem ps=some v∧e=.panicked [jz (bE kind) v]))
theorem Cr (x:Int) (n:Nat):x/256^n/256=x/256^(n+1):=by
 rw [Int.ediv_ediv_of_nonneg (Int.le_of_lt (Int.pow_pos (by omega))),Int.pow_succ]
theorem zD {x:Int} (h:inU x) (n:Nat):inU (x/256^n):=by
 have hp:(0:Int)<256^n:=Int.pow_pos (by omega);exact ⟨Int.ediv_nonneg h.1 (by omega),Int.le_trans (Int.ediv_le_self _ h.1) h.2⟩
theorem yq (mem:List Int) (a:List bI) (p:bI) (x:Int):gn mem (a++[p]) (cS x (bN (a++[p])))=put (gn mem a (cS x (bN a))) p.2.2.toNat (cS (x/256^bN a) p.2.1.toNat):=by
 have e:bN (a++[p])=bN a+p.2.1.toNat:=by rw [dO];rfl
 rw [e,oM mem a mem [p] x p.2.1.toNat];simp only [gn];rw [List.take_of_length_le (by rw [fL];exact nle)]
theorem xC {O X:Nat->Prop} {m:MP} {ov:Value} {h:HartM} {ol:List (Nat × Int)} (kind val:Int) (ps:List bI) (g n:Nat) (w:World) (k:MW w O X m ov h ol) (hn:ps.length=n) (hg:w.heap[g]?=some (.cells (jO kind ps).toArray 236 (0,0))) (hgo:¬O g) (hok:dD ps) (hsz:bN ps<=8) (hn2:n<=2) (hol:ol.length+bN ps<=16) (hv:inU val):
 Calls Tryz.prog 102 #[.pointer (some ⟨m.b,0,none⟩),.slice (some ⟨g,0,none⟩) n n,.int .u64 val] w fun e w'=>BO w O X m h ol ps kind val e w':=by
 have HK:Hid _:=k;have HG:Hid _:=hg;have HN:Hid _:=hn;have HOk:Hid _:=hok;have HV:Hid _:=hv;have HOl:Hid _:=hol;have HSz:Hid _:=hsz;have hbl:=k.lt;have hgl:=(hpl hg);have HGo:Hid _:=hgo;clear k hg hn hok hv hsz hgo hol;go_enter Tryz.func102,Tryz.ntmps102;go_wp2_with fail;go_loopw [2,11] (fun vv iv wr=>∃(j:Nat) (O1:Nat->Prop) (ov1:Value) (mem1:List Int) (ol1:List (Nat × Int)),j<=n∧vv=.int .u64 (val/256^bN (ps.take j))∧iv=.int .i64 j∧qS h.mem (ps.take j)∧MW wr O1 X m ov1 (dF h mem1) ol1∧Kp O w wr∧(∀i,i<w.heap.size->O1 i->O i)∧(∀i,X i->wr.heap[i]?=w.heap[i]?)∧
  mem1=gn h.mem (ps.take j) (cS val (bN (ps.take j)))∧mem1.length=h.mem.length∧fx ol1 mem1=fx ol h.mem∧ol1.length=ol.length+bN (ps.take j)) (fun _ iv _=>n-(intOf iv).toNat)
 case atStart=>exact ⟨0,O,ov,h.mem,ol,Nat.zero_le _,by simp [bN],rfl,fun p hp=>by simp at hp,HK.out,Kp.refl O w,fun _ _ h=>h,fun _ _=>rfl,rfl,rfl,rfl,by simp [bN]⟩
 case round=>
  rename World=>wa;obtain ⟨j,O1,ov1,mem1,ol1,hj,rfl,rfl,hi,hk1,hkp,ho1,hx1,hm1,hml,hu1,hl1⟩:=hrel;have HI:Hid _:=hi;have HK1:Hid _:=hk1;have HKp:Hid _:=hkp;have HO1:Hid _:=ho1;have HX1:Hid _:=hx1;have HM1:Hid _:=hm1;have HMl:Hid _:=hml;have HU1:Hid _:=hu1;have HL1:Hid _:=hl1;clear hi hk1 hkp ho1 hx1 hm1 hml hu1 hl1;by_cases hjn:j<n
  ·obtain ⟨p,hp⟩:∃p,ps[j]?=some p:=⟨ps[j]'(by rw [HN.out];exact hjn),List.getElem?_eq_getElem _⟩;have HPj:Hid _:=hp;obtain ⟨c0,c1,c2,c3⟩:=qD kind ps j p hp;have HGr:Hid (wa.heap[g]?=some (.cells (jO kind ps).toArray 236 (0,0))):=HKp.out.heap HG.out HGo.out;have d0:=aa HGr.out (j*4) (v:=.int .i64 kind) (by simpa using c0);have d1:=aa HGr.out (j*4+1) (v:=.int .u64 p.1) (by simpa using c1);have d2:=aa HGr.out (j*4+2) (v:=.int .u64 p.2.2) (by simpa using c2);have d3:=aa HGr.out (j*4+3) (v:=.int .u64 p.2.1) (by simpa using c3);have hpk:=HOk.out p (List.mem_of_getElem? hp);have HSj:Hid (bN (ps.take j)+p.2.1.toNat<=8):=by
    have:=qE (ps:=ps) (j+1);rw [ii hp,dO] at this;simp only [bN] at this;have:=HSz.out;show _<=_;omega
   clear c0 c1 c2 c3 hp;obtain ⟨va,size,pa⟩:=p;obtain ⟨hva,⟨hs1,hs2⟩,hpa0,hpa1⟩:=hpk;simp only at d0 d1 d2 d3 hs1 hs2 hpa0 hpa1 hva HSj;have F:=bL wa #[.int .i64 kind,.int .u64 va,.int .u64 pa,.int .u64 size] 236;go_wp2_with fail;generalize wa.alloc (Obj.cells #[.int .i64 kind,.int .u64 va,.int .u64 pa,.int .u64 size] 236)=v1 at F |-;obtain ⟨f1,f2,n1⟩:=F;have HF1:Hid _:=f1;clear f1 d0 d1 d2 d3;refine (qC kind va pa size v1 (HK1.out.low n1) ⟨hpa0,hpa1⟩ ⟨by omega,by omega⟩).mono ?_;rintro e v2 ⟨he,n2⟩;have HN12:Hid (Below wa.heap.size wa v2):=bst n1 n2;have HF2:=ab HF1 n2;have K2:Hid (MW v2 O1 X m ov1 (dF h mem1) ol1):=HK1.out.low HN12.out;have hlm:(dF h mem1).mem.length=h.mem.length:=HMl.out;rw [hlm] at he;cases hins:fw h.mem.length pa size
   ·rw [hins] at he;simp only [Bool.false_eq_true,if_false] at he;subst he;have HIn:Hid _:=hins;clear hins;go_wp2_with fail;refine ⟨rfl,mem1,ol1,MNext.trans HKp.out HO1.out HX1.out ⟨O1,ov1,K2.out,Kp.of_below O1 HN12.out,fun _ _ h=>h,fun i hi=>HN12.out.block i (HK1.out.xo i hi).2⟩,HU1.out,.inr ⟨va,?_,rfl⟩⟩;have e:ps=ps.take j++(va,size,pa)::ps.drop (j+1):=by
     obtain ⟨hjl,hjp⟩:=List.getElem?_eq_some_iff.1 HPj.out;rw [<-hjp,<-List.drop_eq_getElem_cons hjl,List.take_append_drop]
    rw [e,pD HI.out HIn.out]
   ·rw [hins] at he;simp only [if_true] at he;subst he;have HIn:Hid _:=hins;clear hins;obtain ⟨sn,hsn⟩:∃sn:Nat,size=sn:=⟨size.toNat,by omega⟩;obtain ⟨pn,hpn⟩:∃pn:Nat,pa=pn:=⟨pa.toNat,by omega⟩;subst hsn hpn;have hin2:=HIn.out;simp only [fw,decide_eq_true_eq] at hin2;have hm4:=HK.out.len;rw [Int.toNat_natCast] at HSj;obtain ⟨S,hS⟩:∃S,bN (ps.take j)=S:=⟨_,rfl⟩;have HS:Hid _:=hS;rw [hS] at HSj HL1 HM1 |-;clear hS;obtain ⟨x,hx⟩:∃x,val/256^S=x:=⟨_,rfl⟩;have HX:Hid _:=hx;have hxb:inU x:=by rw [<-hx];exact zD HV.out S
    rw [hx];clear hx;have b3:=aa HF2.out 3 (v:=.int .u64 sn) rfl;have hSj:=HSj.out;have hl1:=HL1.out;have hol:=HOl.out;have hss:=qE (ps:=ps) (j+1);rw [ii HPj.out,dO,HS.out] at hss;simp only [bN,Int.toNat_natCast] at hss;have HSt:Hid (S+sn<=bN ps):=by show _<=_;omega
    have hbx:¬O1 wa.heap.size:=fun hh=>by have:=HK1.out.obd _ hh;omega
    clear hlm hss;go_wp2_with fail;go_loopw [2,20] (fun vv iv wr=>∃(i:Nat) (O2:Nat->Prop) (ov2:Value) (mem2:List Int) (ol2:List (Nat × Int)),i<=sn∧vv=.int .u64 (x/256^i)∧iv=.int .u64 i∧MW wr O2 X m ov2 (dF h mem2) ol2∧Kp O1 v2 wr∧(∀i,i<v2.heap.size->O2 i->O1 i)∧(∀i,X i->wr.heap[i]?=v2.heap[i]?)∧
     mem2=put mem1 pn (cS x i)∧mem2.length=h.mem.length∧fx ol2 mem2=fx ol h.mem∧ol2.length=ol1.length+i) (fun _ iv _=>sn-(intOf iv).toNat)
    case atStart=>exact ⟨0,O1,ov1,mem1,ol1,Nat.zero_le _,by simp,rfl,K2.out,Kp.refl O1 v2,fun _ _ h=>h,fun _ _=>rfl,by simp [cS,put],HMl.out,HU1.out,rfl⟩
    case round=>
     obtain ⟨i,O2,ov2,mem2,ol2,hi,rfl,rfl,hk2,hkp2,ho2,hx2,hm2,hml2,hu2,hl2⟩:=hrel;have HK2:Hid _:=hk2;have HKp2:Hid _:=hkp2;have HO2:Hid _:=ho2;have HX2:Hid _:=hx2;have HM2:Hid _:=hm2;have HMl2:Hid _:=hml2;have HU2:Hid _:=hu2;have HL2:Hid _:=hl2;clear hk2 hkp2 ho2 hx2 hm2 hml2 hu2 hl2;by_cases hil:i<sn
     ·have HF3:Hid _:=Kp.hid HF2 HKp2.out hbx;have cp:=aa HF3.out 2 (v:=.int .u64 pn) rfl;have hxi:=zD hxb i;obtain ⟨xi,hxe⟩:∃xi,x/256^i=xi:=⟨_,rfl⟩;have HXi:Hid _:=hxe;rw [hxe] at hxi |-;clear hxe;have hwr:IntKind.u64.wrap ((pn:Int)+(i:Int))=((pn+i:Nat):Int):=by rw [IntKind.wrap_u64];omega
      obtain ⟨hxi0,hxi1⟩:=hxi;go_upto_region 7 with fail;refine cY 8 (by kernel_rfl) (by kernel_rfl) ?_;simp only [List.take_succ_cons,List.take_zero,List.drop_succ_cons,List.drop_zero];repeat still_step
      refine wpStill_nil ?_;have Dd:=bdr wr;have hml2:=HMl2.out;have hl2:=HL2.out;have hst:=HSt.out;go_wp2_with fail;refine (yp (pn+i) xi wr.drew (HK2.out.low Dd) (by show pn+i<mem2.length;omega) (by omega) ⟨hxi0,hxi1⟩).mono ?_;rintro e v3 ⟨rfl,O3,ov3,k3,kp3,o3,x3⟩;have HK3:Hid (MW v3 O3 X m ov3 (dF h (mem2.set (pn+i) (xi%256))) (ol2++[(pn+i,mem2[pn+i]?.getD 0)])):=k3;have HKp3:Hid (Kp O1 v2 v3):=(HKp2.out.trans (Kp.of_below O1 Dd)).trans' kp3 (fun q hq hh=>HO2.out q hq hh);have HO3:Hid (∀q,q<v2.heap.size->O3 q->O1 q):=fun q hq hh=>HO2.out q hq (o3 q (Nat.lt_of_lt_of_le hq HKp2.out.size) hh);have HX3:Hid (∀q,X q->v3.heap[q]?=v2.heap[q]?):=fun q hq=>(x3 q hq).trans (HX2.out q hq);have HMs:Hid (mem2.set (pn+i) (xi%256)=put mem1 pn (cS x (i+1))):=by
       show _=_;rw [HM2.out,<-HXi.out];exact zY mem1 pn i x (by rw [HMl.out];omega)
      have HSh:Hid (xi/256=x/256^(i+1)):=by
       show _=_;rw [<-HXi.out,Cr]
      clear k3 kp3 o3 x3 cp;go_wp2_with fail;go_roundw
      case rel=>
       refine ⟨i+1,O3,ov3,_,_,by omega,?_,by go_num,HK3.out,HKp3.out,HO3.out,HX3.out,HMs.out,by rw [List.length_set];exact HMl2.out,?_,by simp;omega⟩
       ·rw [HSh.out]
       ·rw [wV];exact HU2.out
      case measure=>simp [intOf];omega
     ·have hie:i=sn:=by omega
      subst hie;have hl2:=HL2.out;go_wp2_with fail;go_roundw
      case rel=>
       have e1:=ii HPj.out;have hs2:=HN12.out.size;have hsw:=HKp.out.size;refine ⟨j+1,O2,ov2,mem2,ol2,by omega,?_,by go_num,?_,HK2.out,(HKp.out.trans (Kp.of_below O HN12.out)).trans' HKp2.out (fun q hq hh=>HO1.out q hq hh),fun q hq hh=>HO1.out q hq (HO2.out q (by omega) hh),fun q hq=>((HX2.out q hq).trans (HN12.out.block q (HK1.out.xo q hq).2)).trans (HX1.out q hq),?_,HMl2.out,HU2.out,?_⟩
       ·rw [e1,dO,HS.out,<-HX.out];simp only [bN,Int.toNat_natCast,Nat.add_zero];rw [Int.pow_add,<-Int.ediv_ediv_of_nonneg (Int.le_of_lt (Int.pow_pos (by omega)))]
       ·rw [e1];intro q hq;rcases List.mem_append.1 hq with hq | hq
        ·exact HI.out q hq
        ·rw [List.mem_singleton] at hq;subst hq;exact HIn.out
       ·rw [e1,yq,HS.out,HX.out,<-HM1.out,HM2.out];simp only [Int.toNat_natCast]
       ·rw [e1,dO,HS.out];simp only [bN,Int.toNat_natCast];omega
      case measure=>simp [intOf];omega
  ·have hje:j=n:=by omega
   subst hje;go_wp2_with fail;go_end0;have e:ps.take j=ps:=List.take_of_length_le (by rw [HN.out];exact nle);have hI:=HI.out;have hM:=HM1.out;rw [e] at hI hM;exact ⟨mem1,ol1,⟨O1,ov1,HK1.out,HKp.out,HO1.out,HX1.out⟩,HU1.out,.inl ⟨mI hI,rfl,hM⟩⟩
section
variable {P:Program} {ops:Array Oper} {md:Region.Mode} {C:World->Prop} {l m:Nat}
def mW (ops:Array Oper):Bool:=ops.all fun o=>match o.op with | .defer _=>false | _=>true
theorem mX (h:mW ops=true) {i:Nat} {o:Oper} (ho:ops[i]?=some o):∀c,o.op≠.defer c:=by
 intro c hc;have hm:o∈ops:=Array.mem_of_getElem? ho;have:=Array.all_eq_true_iff_forall_mem.1 h o hm;rw [hc] at this;cases this
theorem vX {i:Nat} {a:Act} {K:Act->Prop} {K':Act->World->Prop} {Q:Exit->Act->World->Prop} {w:World} (nd:mW ops=true) (hC:C w) (h:∀a w',C w'->K a->K' a w') (hh:qOp P ops C i K a):wpOpIn (Fence.wide.inRound l) m P ops Q i K' a w:=by
 unfold qOp at hh;unfold wpOpIn;cases ho:ops[i]? with
 | none=>rw [ho] at hh;exact h _ _ hC hh
 | some o=>
  rw [ho] at hh;simp only at hh |-;by_cases hw:Region.wanted o (yielded ops a.tmps)=true
  ·rw [if_pos hw] at hh |-;obtain ⟨v,h1,h2⟩:=hh;have h3:=h1 w hC;refine ⟨fun _ _=>trivial,?_⟩;rw [Fence.inRound_round,Oper.semAt_some l _ o (mX nd ho)];unfold Oper.quietAt at h3;generalize (execOp a.eval o).run P w=r at h3 |-;cases r with
   | halt x w'=>exact h3.elim
   | ok nx w'=>
    cases nx <;> simp only [Oper.quietUpon] at h3
    case value u=>
     obtain ⟨e1,e2⟩:=h3;subst e1 e2;exact h _ _ hC h2
    case skip=>
     obtain ⟨e1,e2⟩:=h3;subst e1 e2;exact h _ _ hC h2
    case enter f args=>
     obtain ⟨e1,hc⟩:=h3;subst e1;refine ⟨fun hd=>by simp [Fence.wide] at hd,?_⟩;refine (CallsIn.inRound l (callsIn_wide.2 hc)).mono ?_;rintro e w'' ⟨rfl,hw''⟩;exact h _ _ hw'' h2
  ·rw [if_neg hw] at hh |-;exact ⟨fun _ _=>trivial,h _ _ hC hh⟩
theorem HeadQ.anyIn {n g:Nat} {L:Array Bool->Act->Prop} {Q:Exit->Act->World->Prop} (nd:mW ops=true) (hL:∀s a w,C w->L s a->wpAnyIn (Fence.wide.inRound l) m P md ops Q g s a w):
 ∀(f:Nat) (s:Array Bool) (a:Act) (w:World),C w->HeadQ P md ops C n L f s a->wpAnyIn (Fence.wide.inRound l) m P md ops Q (f+g) s a w
 | 0,s,a,w,hw,h=>by
  rw [Nat.zero_add];exact hL s a w hw h
 | f+1,s,a,w,hw,h=>by
  have e:f+1+g=(f+g)+1:=by omega
  rw [e];exact ⟨fun h0=>(h.1 h0).elim,fun i hi=>vX nd hw (fun a' w' hw' h'=>HeadQ.anyIn nd hL f _ a' w' hw' h') (h.2 i hi).2⟩
theorem oy {id:Nat} {Q:Exit->Act->World->Prop} {a:Act} {w:World} {lo:List Oper} (n:Nat) (hm:P.follows .mixedOrders=true) (hB:Region.lexTailB .any lo.toArray n=true) (hz:lo.length=n+1) (nd:mW lo.toArray=true) (hC:C w.drew)
 (h:wpQuiet P lo.toArray C (fun a'=>∀w',C w'->wpOpIn (Fence.wide.inRound l) m P lo.toArray Q n (fun a'' w''=>Q .normal a'' w'') a' w') (lo.take n) a):(Code.region id lo.toArray true).wpIn (Fence.wide.inRound l) m P Q a w:=by
 simp only [Region.lexTailB,Bool.and_eq_true,decide_eq_true_eq] at hB;obtain ⟨⟨⟨⟨ns,hn⟩,hs⟩,hc⟩,hx⟩:=hB;have e1:(lo.take n).length=n:=by simp;omega
 have e2:lo.toArray.size-n=1:=by simp;omega
 have i0:HeadInv .any lo.toArray n (Array.replicate lo.toArray.size false):=
  ⟨by simp,fun j oj _ hl=>(by rw [getD_replicate_false] at hl;cases hl),fun t _ ht=>getD_in (by simpa using ht) (getD_replicate_false _ _)⟩
 have hl:=HeadQ.lex (P:=P) (C:=C) (g:=lo.toArray.size-n) ns hs hc hn (lo.take n) 0 (Array.replicate lo.toArray.size false) a (fun j hj=>by
  rw [e1] at hj;simp [hj]) (by rw [e1];omega) i0 (by rw [e1];exact hx) h
 rw [e1,e2] at hl;refine wpIn_region_any hm ?_;have:=HeadQ.anyIn (l:=l) (m:=m) (Q:=Q) (g:=1) (C:=C) nd (fun s a' w' hw' hL=>by
  obtain ⟨h1,h2⟩:=hL;simp only [Region.seqB,Bool.and_eq_true,decide_eq_true_eq,List.isEmpty_iff] at h1;refine ⟨fun h0=>(by rw [h1.1] at h0;cases h0),fun i hi=>?_⟩;rw [h1.1] at hi;have hi':i=n:=by simpa using hi
  subst hi';exact wpOpIn_mono (fun a'' w'' hq=>⟨h1.2,hq⟩) (h2 w' hw')) n _ a w.drew hC hl
 rw [show n+1=lo.toArray.size by simp;omega] at this;exact this
theorem yW {Q:Exit->Act->World->Prop} {K:Act->World->Prop} {a:Act} {w:World} (i:Nat) {o:Oper} (hi:ops[i]?=some o) (hg:o.guard=none) (nd:mW ops=true) {f:FuncId} {args:Array Value} (he:(execOp a.eval o).run P w=.ok (.enter f args) w)
 (h:Calls P f args w fun e w'=>∃x,e=.returned x∧K (a.put o.dst x) w'):wpOpIn (Fence.wide.inRound l) m P ops Q i K a w:=by
 unfold wpOpIn;simp only [hi];rw [if_pos (by simp [Region.wanted,hg])];refine ⟨fun _ _=>trivial,?_⟩;rw [Fence.inRound_round,Oper.semAt_some l _ o (mX nd hi),he];refine ⟨fun hd=>by simp [Fence.wide] at hd,?_⟩;refine (CallsIn.inRound l (callsIn_wide.2 h)).mono ?_;rintro e w' ⟨x,rfl,hx⟩;exact hx
end
end Go.Proofs.YtgnnmgfgfihljaaGreat
