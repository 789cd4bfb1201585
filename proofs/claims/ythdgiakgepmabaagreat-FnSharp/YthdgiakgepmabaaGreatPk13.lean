import Derived.Test.YthdgiakgepmabaaGreatPk12
import Derived.Deep.AppendLies
namespace Go.Proofs.YthdgiakgepmabaaGreat
open Go.RowKit
set_option linter.unusedVariables false
set_option maxHeartbeats 6400000
set_option maxRecDepth 20000
theorem Cel.of_blk {e:TypeId} {w:World} {g:Nat} {zs:List Int} (h:Blk e w g zs) (hz:BytM zs):Cel w g 0 zs.length zs:=Cel.of_byt (Blk.byt h hz)
theorem zk (xs:List Int) (y:Int) (T:Nat) (hx:∀z∈xs,0<=z∧z<=255) (hl:xs.length=T) (hT:T<=7) (hy0:0<=y) (hy1:y<=255):
 bits .or .u64 (num xs) (IntKind.u64.wrap (y*2^(8*T)))=num (xs++[y]):=by
 have hb:=kS xs T hx (by omega);rw [yq,hl];have e:((2:Int)^(8*T))=256^T:=by
  rw [Int.pow_mul];rfl
 rw [IntKind.wrap_u64,e];have hP:(256:Int)^T<=72057594037927936∧1<=(256:Int)^T:=by
  rcases (show T=0∨T=1∨T=2∨T=3∨T=4∨T=5∨T=6∨T=7 by omega) with rfl | rfl | rfl | rfl | rfl | rfl | rfl | rfl <;> decide
 have hm:0<=y*256^T∧y*256^T<=255*72057594037927936:=⟨Int.mul_nonneg hy0 (by omega),Int.mul_le_mul hy1 hP.1 (by omega) (by omega)⟩;rw [Int.emod_eq_of_lt hm.1 (by omega)];exact dm (8*T) (256^T) (num xs) y (by rw [Int.pow_mul];rfl) hb.1 hb.2 hy0 (by omega) (by omega)
def jD (mem:List Int) (ps:List be) (kind:Int):Ending:=
 match eZ mem ps with
 | none=>.returned (.int .u64 (mf mem ps))
 | some v=>.panicked [iE (bq kind) v]
theorem tS {O X:Nat->Prop} {m:MP} {ov:Value} {h:HartM} {ol:List (Nat × Int)} (kind:Int) (ps:List be) (g n:Nat) (w:World) (k:MW w O X m ov h ol) (hn:ps.length=n) (hg:w.heap[g]?=some (.cells (kt kind ps).toArray 227 (0,0))) (hok:eg ps) (hsz:aQ ps<=8) (hn2:n<=2):
 Calls Tryz.prog 83 #[PT m.b 0,SL g n n] w fun e w'=>e=jD h.mem ps kind∧Bw w w':=by
 have HK:Hid _:=k;have HG:Hid _:=hg;have HN:Hid _:=hn;have HOk:Hid _:=hok;have HSz:Hid _:=hsz;clear k hg hn hok hsz;go_enter Tryz.func83,Tryz.ntmps83;go_wp2;go_loopw [5,6,12] (fun vv sv iv wr=>∃j:Nat,j<=n∧vv=VU (num (bH h.mem (ps.take j)))∧sv=VI (8*(aQ (ps.take j):Int))∧iv=VI j∧oD h.mem (ps.take j)∧Bw w wr) (fun _ _ iv _=>n-(intOf iv).toNat)
 case atStart=>exact ⟨0,Nat.zero_le _,rfl,rfl,rfl,fun p hp=>by simp at hp,brf⟩
 case round=>
  rename World=>wa;obtain ⟨j,hj,rfl,rfl,rfl,hi,hb⟩:=hrel;have HI:Hid _:=hi;have HB:Hid _:=hb;clear hi hb;by_cases hjn:j<n
  ·obtain ⟨p,hp⟩:∃p,ps[j]?=some p:=⟨ps[j]'(by rw [HN.out];exact hjn),geg _⟩;have HPj:Hid _:=hp;obtain ⟨c0,c1,c2,c3⟩:=nS kind ps j p hp;have HGr:=hid (ag HG.out HB.out (hpl HG.out));have d0:=aa HGr.out (j*4) (v:=VI kind) (by simpa using c0);have d1:=aa HGr.out (j*4+1) (v:=VU p.1) (by simpa using c1);have d2:=aa HGr.out (j*4+2) (v:=VU p.2.2) (by simpa using c2);have d3:=aa HGr.out (j*4+3) (v:=VU p.2.1) (by simpa using c3);have hpk:=HOk.out p (List.mem_of_getElem? hp);have HSj:Hid (aQ (ps.take j)+p.2.1.toNat<=8):=by
    have:=nT (ps:=ps) (j+1);rw [fV hp,cK] at this;simp only [aQ] at this;have:=HSz.out;show _<=_;omega
   have HKr:=hid (HK.out.low HB.out);clear c0 c1 c2 c3 hp;obtain ⟨va,size,pa⟩:=p;obtain ⟨hva,⟨hs1,hs2⟩,hpa0,hpa1⟩:=hpk;simp only at d0 d1 d2 d3 hs1 hs2 hpa0 hpa1 hva HSj;obtain ⟨v1,Ev1,F⟩:=ax1 wa #[VI kind,VU va,VU pa,VU size] 227;go_wp2_with fail;rw [Ev1.out];clear Ev1;obtain ⟨f1,f2,n1⟩:=F;have HF1:Hid _:=f1;clear f1 d0 d1 d2 d3;refine (nN kind va pa size v1 (HKr.out.low n1) ⟨hpa0,hpa1⟩ ⟨by omega,by omega⟩).mono ?_;rintro e v2 ⟨he,n2⟩;have B2:=hid (bst (bst HB.out n1) n2);have HF2:=ae HF1 n2;have K2:Hid (MW v2 O X m ov h ol):=(HKr.out.low n1).low n2;cases hins:fG h.mem.length pa size
   ·rw [hins] at he;simp only [Bool.false_eq_true,if_false] at he;subst he;have HIn:Hid _:=hins;clear hins;go_wp2_with fail;refine ⟨rfl,?_,B2.out⟩;have e:ps=ps.take j++(va,size,pa)::ps.drop (j+1):=by
     obtain ⟨hjl,hjp⟩:=List.getElem?_eq_some_iff.1 HPj.out;rw [<-hjp,<-List.drop_eq_getElem_cons hjl,List.take_append_drop]
    unfold jD;rw [e,ms HI.out HIn.out]
   ·rw [hins] at he;simp only [if_true] at he;subst he;have HIn:Hid _:=hins;clear hins;obtain ⟨sn,hsn⟩:∃sn:Nat,size=sn:=⟨size.toNat,by omega⟩;obtain ⟨pn,hpn⟩:∃pn:Nat,pa=pn:=⟨pa.toNat,by omega⟩;subst hsn hpn;have hin2:=HIn.out;simp only [fG,decide_eq_true_eq] at hin2;have hml:=HK.out.len;rw [Int.toNat_natCast] at HSj;obtain ⟨S,hS⟩:∃S,aQ (ps.take j)=S:=⟨_,rfl⟩;have HS:Hid _:=hS;rw [hS] at HSj |-;clear hS;obtain ⟨bs,hbs⟩:∃bs,bH h.mem (ps.take j)=bs:=⟨_,rfl⟩;have Hbs:Hid _:=hbs;have HbL:Hid (bs.length=S):=by
     show _=_;rw [<-hbs,jI HI.out (fun q hq=>HOk.out q (List.mem_of_mem_take hq)),HS.out]
    rw [hbs];clear hbs;have b3:=aa HF2.out 3 (v:=VU sn) rfl;have hSj:=HSj.out;go_wp2;go_loopw [5,6,21] (fun vv sv iv wr=>∃i:Nat,i<=sn∧vv=VU (num (bs++oX h.mem pn i))∧sv=VI (8*((S+i:Nat):Int))∧iv=VU i∧Bw v2 wr) (fun _ _ iv _=>sn-(intOf iv).toNat)
    case atStart=>exact ⟨0,Nat.zero_le _,by simp [oX],by simp,rfl,brf⟩
    case round=>
     obtain ⟨i,hi,rfl,rfl,rfl,hb⟩:=hrel;have HBi:Hid _:=hb;by_cases hil:i<sn
     ·have K3:Hid (MW wr O X m ov h ol):=K2.out.low HBi.out;have HF3:=ae HF2 HBi.out;obtain ⟨b,hbm⟩:∃b,m.b=b:=⟨_,rfl⟩;have hbl:=K3.out.lt;have c18:wr.cell? (AD m.b 18)=some (SL m.gm h.mem.length h.mem.length):=aa K3.out.blk 18 rfl;have hfl:=(hpl HF3.out);obtain ⟨y,hy⟩:∃y,h.mem[pn+i]?.getD 0=y:=⟨_,rfl⟩;have hyb:=HK.out.byt (pn+i);rw [hy] at hyb;have HY:Hid _:=hy;have hlt:pn+i<h.mem.length:=by omega
      have HPs:Hid _:=wC h.mem pn i hlt;have HRd:Hid (∀u:Lies wr,Calls Tryz.prog 108 #[SL m.gm h.mem.length h.mem.length,VU ((pn+i:Nat):Int)] u.w fun e w'=>e=.returned (VU y)∧w'=u.w):=fun u=>by
       have:=jj m.gm 0 h.mem.length h.mem.length (pn+i) h.mem u.w (Cel.of_blk (K3.out.low u.h).mem HK.out.byt) hlt (by omega);rw [HY.out] at this;exact this
      have C18:=aS c18 hbl;have CP:=aS (aa HF3.out 2 (v:=VU pn) rfl) hfl;have hsh:=zB y (8*((S+i:Nat):Int)) (by omega) (by omega);have hxs:∀z∈bs++oX h.mem pn i,0<=z∧z<=255:=by
       intro z hz;rcases List.mem_append.1 hz with hz | hz
       ·rw [<-Hbs.out] at hz;exact ia HK.out.byt _ z hz
       ·exact gL HK.out.byt z (List.mem_of_mem_drop (List.mem_of_mem_take hz))
      have HOr:Hid _:=zk (bs++oX h.mem pn i) y (S+i) hxs (by rw [List.length_append,HbL.out,yo _ _ _ (by omega)]) (by omega) hyb.1 hyb.2;have hwr:IntKind.u64.wrap ((pn:Int)+(i:Int))=((pn+i:Nat):Int):=by rw [IntKind.wrap_u64];omega
      have ne:=dS wr;clear hxs c18 hbm hy hyb;generalize h.mem.length=ln at *;go_upto_region 9 with fail;refine dk (by kernel_rfl) (by kernel_rfl) ?_;repeat (go_big_quiet_step ((go_at_call 108;exact jd _ (HRd.out _))))
      rw [HOr.out];refine wpQuiet_nil ?_;rintro _ ⟨u,rfl⟩;have n3:=u.h;generalize u.w=v3 at n3 |-;have B3:Hid _:=bst HBi.out n3;clear C18 CP HRd ne hsh HOr;go_wp2;go_roundw
      case rel=>
       refine ⟨i+1,by omega,?_,?_,by go_num,B3.out⟩
       ·rw [HPs.out,HY.out,List.append_assoc]
       ·congr 1
      case measure=>simp [intOf];omega
     ·have hie:i=sn:=by omega
      subst hie;have B3:Hid _:=bst B2.out HBi.out;go_wp2;go_roundw
      case rel=>
       have e1:=fV HPj.out;refine ⟨j+1,by omega,?_,?_,by go_num,?_,B3.out⟩
       ·rw [e1,hH,Hbs.out];simp [bH,oX]
       ·rw [e1,cK,HS.out];simp [aQ]
       ·rw [e1];intro q hq;rcases List.mem_append.1 hq with hq | hq
        ·exact HI.out q hq
        ·rw [List.mem_singleton] at hq;subst hq;exact HIn.out
      case measure=>simp [intOf];omega
  ·have hje:j=n:=by omega
   subst hje;go_wp2;go_ret;refine ⟨?_,HB.out⟩;have e:=List.take_of_length_le (by rw [HN.out];exact nle);have hI:=HI.out;rw [e] at hI |-;unfold jD;rw [kD hI];rfl
theorem jO (g len cap k:Nat) (zs:List Int) (val:Int) (w:World) (h:Blk 5 w g zs) (hz:zs.length=len) (hk:k<len) (hl:len<=1048576) (hv0:0<=val) (hv1:val<=18446744073709551615):
 Calls Tryz.prog 76 #[SL g len cap,VU k,VU val] w fun e w'=>e=.returned (.tuple #[])∧Blk 5 w' g (zs.set k (val%256))∧w.grownBy w' (some g):=by
 have g2:=h.cell k (by omega);have g3:=h.free k;have hb:Hid _:=h.store k (val%256);have hgb:Hid _:=aj (ap w (some g)) k (.int .u8 (val%256));clear h;go_enter Tryz.func76,Tryz.ntmps76;go_wp2;go_end0;exact ⟨rfl,hb.out,hgb.out⟩
def MNext (w:World) (O X:Nat->Prop) (m:MP) (h':HartM) (ol':List (Nat × Int)) (w':World):Prop:=
 ∃O' ov',MW w' O' X m ov' h' ol'∧Kp O w w'∧(∀i,i<w.heap.size->O' i->O i)∧∀i,X i->w'.heap[i]?=w.heap[i]?
theorem MNext.refl {w:World} {O X:Nat->Prop} {m:MP} {ov:Value} {h:HartM} {ol:List (Nat × Int)} (k:MW w O X m ov h ol):MNext w O X m h ol w:=
 ⟨O,ov,k,Kp.refl O w,fun _ _ h=>h,fun _ _=>rfl⟩
theorem MNext.trans {w w1 w2:World} {O O1 X:Nat->Prop} {m:MP} {h2:HartM} {ol2:List (Nat × Int)} (hk:Kp O w w1) (ho:∀i,i<w.heap.size->O1 i->O i) (hx:∀i,X i->w1.heap[i]?=w.heap[i]?) (k:MNext w1 O1 X m h2 ol2 w2):MNext w O X m h2 ol2 w2:=by
 obtain ⟨O2,ov2,k1,k2,k3,k4⟩:=k;exact ⟨O2,ov2,k1,hk.trans' k2 ho,fun i hi h=>ho i hi (k3 i (ltl hi hk.size) h),fun i hi=>(k4 i hi).trans (hx i hi)⟩
theorem sf {P:Program} {a:Act} {o:Oper} {s x:Operand} {t ty:TypeId} {v y r:Value} {w w':World} (ho:o.op=.call { callee:=.builtin .append,args:=#[s,x],argTypes:=#[t,t] }) (hty:o.type=ty) (hs:a.eval s=v) (hx:a.eval x=y) (hr:(Builtin.append_ #[t,t] ty #[v,y]).run P w=.ok r w'):(execOp a.eval o).run P w=.ok (.value r) w':=by
 subst hty;unfold execOp;simp only [ho,resolve,invoke,builtin,Sem.run_bind,Sem.run_pure,Result.andThen_ok,List.map_toArray,List.map_cons,List.map_nil,hs,hx,hr]
theorem zm:(Tryz.prog.info? 188).map (fun i=>(i.zero,i.size,i.bytes))=some (some (.agg #[VU 0,VU 0]),2,16):=by kernel_rfl
theorem vR {O X:Nat->Prop} {m:MP} {ov:Value} {h:HartM} {ol:List (Nat × Int)} (addr:Nat) (val:Int) (w:World) (k:MW w O X m ov h ol) (ha:addr<h.mem.length) (hl:ol.length<16) (hv:inU val):
 Calls Tryz.prog 110 #[PT m.b 18,VU addr,VU val] w fun e w'=>e=.returned (.tuple #[])∧MNext w O X m (cL h (h.mem.set addr (val%256))) (ol++[(addr,h.mem[addr]?.getD 0)]) w':=by
 have HK:Hid _:=k;have hb:=k.lt;have hbk:=k.blk;obtain ⟨hv0,hv1⟩:=hv;have hml:=k.len;obtain ⟨y,hy⟩:∃y,h.mem[addr]?.getD 0=y:=⟨_,rfl⟩;have HY:Hid _:=hy;have hyb:=k.byt addr;rw [hy] at hyb |-;obtain ⟨on,oc,oa,hov⟩:=k.sh;have HOv:Hid _:=hov;have HRd:Hid (∀u,Bw w u->Calls Tryz.prog 108 #[SL m.gm h.mem.length h.mem.length,VU addr] u fun e w'=>e=.returned (VU y)∧w'=u):=fun u hu=>by
  have:=jj m.gm 0 h.mem.length h.mem.length addr h.mem u (Cel.of_blk (HK.out.low hu).mem HK.out.byt) ha (by omega);rw [HY.out] at this;exact this
 clear k hy hov;obtain ⟨b,hbm⟩:∃b,m.b=b:=⟨_,rfl⟩;have HBm:Hid _:=hbm;rw [hbm] at hb hbk |-;clear hbm;have HBk:Hid _:=hbk;have C18:∀u:Has b (.cells (bl h m.gm ov m.gi m.gd m.gp m.pv) 90 (0,0)),u.w.cell? (AD b 18)=some (SL m.gm h.mem.length h.mem.length):=fun u=>aa u.h 18 rfl;have C19:∀u:Has b (.cells (bl h m.gm ov m.gi m.gd m.gp m.pv) 90 (0,0)),u.w.cell? (AD b 19)=some ov:=fun u=>aa u.h 19 rfl;have ne:Nonempty (Has b (.cells (bl h m.gm ov m.gi m.gd m.gp m.pv) 90 (0,0))):=⟨⟨w,hbk⟩⟩;clear hbk;obtain ⟨A,hAe⟩:∃A,bl h m.gm ov m.gi m.gd m.gp m.pv=A:=⟨_,rfl⟩;have HAe:Hid _:=hAe;rw [hAe] at C18 C19 ne HBk;clear hAe;have D1:=bdr w;rw [HOv.out] at C19;generalize hln:h.mem.length=ln at *;have HLn:Hid _:=hln;clear hln;go_enter Tryz.func110,Tryz.ntmps110;go_upto_region 0 with fail;refine ax (fun w'=>∃u:Has b (.cells A 90 (0,0)),w'=u.w) 17 ?_;refine dc (fuel:=7) ⟨⟨w.drew,HBk.out⟩,rfl⟩ [0,1,2,3,4,5,6,7,8,9,10] ?_;simp only [ek,List.getElem?_toArray,List.getElem?_cons_zero,List.getElem?_cons_succ];repeat (go_big_quiet_step (fail))
 refine wpQuiet_nil ?_;refine cJ 11 17 rfl (Calls.mono (HRd.out w.drew D1) ?_);rintro e v1 ⟨rfl,hv1'⟩;rw [hv1'];clear hv1' v1;refine .inl ⟨_,rfl,fun _=>⟨⟨w.drew,HBk.out⟩,rfl⟩,?_⟩
 go_frame
 refine dc (fuel:=5) ⟨⟨w.drew,HBk.out⟩,rfl⟩ [12] ?_;simp only [ek,List.getElem?_toArray,List.getElem?_cons_zero,List.getElem?_cons_succ];repeat (go_big_quiet_step (fail))
 refine wpQuiet_nil ?_;have F:=bN w.drew #[VU addr,VU y] 188;obtain ⟨f1,f2,f3⟩:=F;have n2:=bst D1 f3;have HB2:=hid (ae HBk n2);refine gF 13 19 (SL w.drew.heap.size 1 1) (w':=w.drew.alloc (Obj.cells #[VU addr,VU y] 188)) rfl (fun _=>⟨⟨_,HB2.out⟩,rfl⟩) ?_ (he:=by go_simp)
 go_frame
 have HF1:Hid _:=f1;have n2':=hid n2;have hsz2:w.heap.size<(w.drew.alloc (Obj.cells #[VU addr,VU y] 188)).heap.size:=by rw [f2];exact Nat.lt_succ_self _
 rw [show w.drew.heap.size=w.heap.size from rfl] at HF1 |-;clear f1 f2 f3 n2;generalize w.drew.alloc (Obj.cells #[VU addr,VU y] 188)=v2 at HF1 n2' HB2 hsz2 |-;obtain ⟨i0,hi0,hz0,hz1,hz2⟩:=info_parts zm;have K2:=hid (HK.out.low n2'.out);have hoe:=K2.out.old;rw [HOv.out] at hoe;obtain ⟨g',cap',v3,hr,ho3,hg3,hat,hlt3⟩:=run_append_lies (P:=Tryz.prog) v2 76 76 0 188 i0 (.agg #[VU 0,VU 0]) 2 16 Tryz.underlying76 hi0 hz0 hz1 hz2 rfl (by decide) (.slice oa on oc) ol.length (jx ol) hoe (AD w.heap.size 0) 1 1 [VU addr,VU y] rfl (by
  intro j u hu;have:=aa HF1.out j (v:=u) (by simpa using hu);cases j with
  | zero=>simpa [Addr.add] using this
  | succ j=>simpa [Addr.add] using this) (by simp [Value.oneCell']) (by omega) (by unfold maxLen;omega) (by omega) (by omega) v2.heap.size rfl
 have hbo:∀g,(Value.slice oa on oc).ownBlock=some g->g≠b:=fun g e=>by
  have:=(HK.out.oo g (by rw [HOv.out];exact e)).2.1;rw [HBm.out] at this;exact this
 have HB3:Hid (v3.heap[b]?=some (.cells A 90 (0,0))):=(hg3.block b (hpl HB2.out) (fun e=>hbo b e.symm rfl)).trans HB2.out;have HO3:Hid _:=ho3;have HG3:Hid _:=hg3;have HAt:Hid _:=hat;clear ho3 hg3 hat hoe hbo;refine gF 14 20 (SL g' (ol.length+1) cap') (w':=v3) rfl (fun _=>⟨⟨_,HB3.out⟩,rfl⟩) ?_ (he:=sf (s:=.tmp 10) (x:=.tmp 19) (t:=76) (by kernel_rfl) (by kernel_rfl) (by kernel_rfl) (by kernel_rfl) hr)
 go_frame
 refine dc (fuel:=1) ⟨⟨v3,HB3.out⟩,rfl⟩ [15,16] ?_;simp only [ek,List.getElem?_toArray,List.getElem?_cons_zero,List.getElem?_cons_succ];repeat (go_big_quiet_step (fail))
 refine wpQuiet_nil ?_;have c19:=aa HB3.out 19 (v:=.slice oa on oc) (by rw [<-HAe.out,<-HOv.out];rfl);have f19:=ay HB3.out 19;refine dM 17 22 20 (T:=76) (b:=b) (off:=19) (V:=SL g' (ol.length+1) cap') (w':=v3.setCell (AD b 19) (SL g' (ol.length+1) cap')) rfl (by go_simp) ?_;refine de ?_;have hpv:Hid (∀V,A.setIfInBounds 19 V=bl h m.gm V m.gi m.gd m.gp m.pv):=fun V=>by
  rw [<-HAe.out];rfl
 have g4:=aj (ap v3 (some b)) 19 (SL g' (ol.length+1) cap');have HB4:Hid ((v3.setCell (AD b 19) (SL g' (ol.length+1) cap')).heap[b]?=some (.cells (bl h m.gm (SL g' (ol.length+1) cap') m.gi m.gd m.gp m.pv) 90 (0,0))):=by
  show _=_;rw [<-hpv.out];exact aG HB3.out
 have HG4:Hid _:=g4;clear hr c19 f19 C18 C19 ne g4 hpv;generalize v3.setCell (AD b 19) (SL g' (ol.length+1) cap')=v4 at HG4 HB4 |-;have hbg:∀g,(Value.slice oa on oc).ownBlock=some g->g≠m.gm∧¬X g∧O g∧g<w.heap.size∧g≠m.b:=fun g e=>by
  have:=HK.out.oo g (by rw [HOv.out];exact e);have hl:=(HK.out.old.lt g (by rw [HOv.out];exact e)).2;exact ⟨this.2.2.1,this.2.2.2,this.1,hl,this.2.1⟩
 have k23:Kp (fun i=>(Value.slice oa on oc).ownBlock=some i) v2 v3:=⟨HG3.out.os,HG3.out.tape,HG3.out.output,HG3.out.size,fun i hi hn=>HG3.out.block i hi fun e=>hn e.symm⟩;have k34:Kp (fun i=>i=m.b) v3 v4:=by rw [HBm.out];exact Kp.of_gb HG4.out rfl
 have M4:Hid (Blk 5 v4 m.gm h.mem):=k34.blk (k23.blk K2.out.mem fun e=>(hbg _ e).1 rfl) (Ne.symm HK.out.bm);have hgb':g'≠m.b:=fun e=>by
  rcases HAt.out with h1 | h1
  ·exact (hbg _ h1).2.2.2.2 e
  ·have:=K2.out.lt;omega
 have O4:Hid (v4.ownsRow 0 188 2 (SL g' (ol.length+1) cap') (ol.length+1) (jx ol++[VU addr,VU y])):=k34.own HO3.out fun g e=>by
  have:g'=g:=by simpa [Value.ownBlock] using e
  rw [<-this];exact hgb'
 have c18:=aa HB4.out 18 (v:=SL m.gm ln ln) (by rw [<-HLn.out];rfl);go_wp2_with fail;refine (jO m.gm ln ln addr h.mem val v4 M4.out HLn.out ha (by omega) hv0 hv1).mono ?_;rintro e v5 ⟨rfl,hm5,hg5⟩;have HM5:Hid _:=hm5;have HG5:Hid _:=hg5;clear hm5 hg5 c18;go_wp2;go_end0;refine ⟨rfl,fun i=>O i∨i=g',SL g' (ol.length+1) cap',?_,?_,?_,?_⟩
 ·have hgm:g'≠m.gm:=fun e=>by
   rcases HAt.out with h1 | h1
   ·exact (hbg _ h1).1 e
   ·have:=K2.out.mem.lt;omega
  have hgx:¬X g':=fun e=>by
   rcases HAt.out with h1 | h1
   ·exact (hbg _ h1).2.1 e
   ·have:=(K2.out.xo _ e).2;omega
  have k45:Kp (fun i=>i=m.gm) v4 v5:=Kp.of_gb HG5.out rfl;have hs2:=n2'.out.size;have hs3:=k23.size;have hs4:=k34.size;have hs5:=k45.size;refine ⟨?_,HM5.out,?_,.inl HK.out.ob,.inl HK.out.om,?_,HK.out.bm,HK.out.xb,HK.out.xm,?_,HK.out.byt.set _ _ (by omega) (by omega),by simpa [cL] using HK.out.len,HK.out.regs,by simp;omega,⟨_,_,_,rfl⟩,?_,?_⟩
  ·have e:bl (cL h (h.mem.set addr (val%256))) m.gm (SL g' (ol.length+1) cap') m.gi m.gd m.gp m.pv=bl h m.gm (SL g' (ol.length+1) cap') m.gi m.gd m.gp m.pv:=by
    simp only [bl,cL,List.length_set]
   rw [e];refine k45.heap ?_ HK.out.bm;rw [HBm.out];exact HB4.out
  ·have:=k45.own O4.out fun g e=>by
    have:g'=g:=by simpa [Value.ownBlock] using e
    rw [<-this];exact hgm
   rw [lK,List.length_append];exact this
  ·intro g e;have e':g'=g:=by simpa [Value.ownBlock] using e
   subst e';exact ⟨.inr rfl,hgb',hgm,hgx⟩
  ·intro i hi;have:=HK.out.xo i hi;exact ⟨.inl this.1,by omega⟩
  ·rintro i (hi | hi)
   ·have:=HK.out.obd i hi;omega
   ·omega
  ·intro o ho;show o.1<(h.mem.set addr (val%256)).length∧_;rw [List.length_set];rcases List.mem_append.1 ho with ho | ho
   ·exact HK.out.oln o ho
   ·rw [List.mem_singleton] at ho;subst ho;exact ⟨by rw [HLn.out];exact ha,hyb.1,hyb.2⟩
 ·refine (((Kp.of_below O n2'.out).trans (k23.mono fun i e=>(hbg i e).2.2.1)).trans (k34.mono fun i e=>?_)).trans ((Kp.of_gb (O:=fun i=>i=m.gm) HG5.out rfl).mono fun i e=>?_)
  ·rw [e];exact HK.out.ob
  ·rw [e];exact HK.out.om
 ·rintro i hi (h1 | h1)
  ·exact h1
  ·rcases HAt.out with h2 | h2
   ·rw [h1];exact (hbg _ h2).2.2.1
   ·have:=n2'.out.size;omega
 ·intro i hi;have hl:=(HK.out.xo i hi).2;have hs2:=n2'.out.size;have hs3:=k23.size;have hs4:=k34.size;rw [(Kp.of_gb (O:=fun i=>i=m.gm) HG5.out rfl).block i (by omega) (fun e=>HK.out.xm (e ▸ hi)),k34.block i (by omega) (fun e=>HK.out.xb (e ▸ hi)),k23.block i (by omega) (fun e=>(hbg _ e).2.1 hi),n2'.out.block i hl]
def AH (w:World) (O X:Nat->Prop) (m:MP) (h:HartM) (ol:List (Nat × Int)) (ps:List be) (kind val:Int) (e:Ending) (w':World):Prop:=
 ∃mem' ol',MNext w O X m (cL h mem') ol' w'∧ex ol' mem'=ex ol h.mem∧
  ((eZ h.mem ps=none∧e=.returned (.tuple #[])∧mem'=jy h.mem ps (br val (aQ ps)))∨(∃v,eZ h.mem ps=some v∧e=.panicked [iE (bq kind) v]))
theorem Bl (x:Int) (n:Nat):x/256^n/256=x/256^(n+1):=by
 rw [Int.ediv_ediv_of_nonneg (Int.le_of_lt (Int.pow_pos (by omega))),Int.pow_succ]
theorem xM {x:Int} (h:inU x) (n:Nat):inU (x/256^n):=by
 have hp:(0:Int)<256^n:=Int.pow_pos (by omega);exact ⟨Int.ediv_nonneg h.1 (by omega),Int.le_trans (Int.ediv_le_self _ h.1) h.2⟩
theorem vU (mem:List Int) (a:List be) (p:be) (x:Int):jy mem (a++[p]) (br x (aQ (a++[p])))=put (jy mem a (br x (aQ a))) p.2.2.toNat (br (x/256^aQ a) p.2.1.toNat):=by
 have e:aQ (a++[p])=aQ a+p.2.1.toNat:=by rw [cK];rfl
 rw [e,lU mem a mem [p] x p.2.1.toNat];simp only [jy];rw [List.take_of_length_le (by rw [dY];exact nle)]
theorem uL {O X:Nat->Prop} {m:MP} {ov:Value} {h:HartM} {ol:List (Nat × Int)} (kind val:Int) (ps:List be) (g n:Nat) (w:World) (k:MW w O X m ov h ol) (hn:ps.length=n) (hg:w.heap[g]?=some (.cells (kt kind ps).toArray 227 (0,0))) (hgo:¬O g) (hok:eg ps) (hsz:aQ ps<=8) (hn2:n<=2) (hol:ol.length+aQ ps<=16) (hv:inU val):
 Calls Tryz.prog 86 #[PT m.b 0,SL g n n,VU val] w fun e w'=>AH w O X m h ol ps kind val e w':=by
 have HK:Hid _:=k;have HG:Hid _:=hg;have HN:Hid _:=hn;have HOk:Hid _:=hok;have HV:Hid _:=hv;have HOl:Hid _:=hol;have HSz:Hid _:=hsz;have hbl:=k.lt;have hgl:=(hpl hg);have HGo:Hid _:=hgo;clear k hg hn hok hv hsz hgo hol;go_enter Tryz.func86,Tryz.ntmps86;go_wp2;go_loopw [2,11] (fun vv iv wr=>∃(j:Nat) (O1:Nat->Prop) (ov1:Value) (mem1:List Int) (ol1:List (Nat × Int)),j<=n∧vv=VU (val/256^aQ (ps.take j))∧iv=VI j∧oD h.mem (ps.take j)∧MW wr O1 X m ov1 (cL h mem1) ol1∧Kp O w wr∧(∀i,i<w.heap.size->O1 i->O i)∧(∀i,X i->wr.heap[i]?=w.heap[i]?)∧
  mem1=jy h.mem (ps.take j) (br val (aQ (ps.take j)))∧mem1.length=h.mem.length∧ex ol1 mem1=ex ol h.mem∧ol1.length=ol.length+aQ (ps.take j)) (fun _ iv _=>n-(intOf iv).toNat)
 case atStart=>exact ⟨0,O,ov,h.mem,ol,Nat.zero_le _,by simp [aQ],rfl,fun p hp=>by simp at hp,HK.out,Kp.refl O w,fun _ _ h=>h,fun _ _=>rfl,rfl,rfl,rfl,by simp [aQ]⟩
 case round=>
  rename World=>wa;obtain ⟨j,O1,ov1,mem1,ol1,hj,rfl,rfl,hi,hk1,hkp,ho1,hx1,hm1,hml,hu1,hl1⟩:=hrel;have HI:Hid _:=hi;have HK1:Hid _:=hk1;have HKp:Hid _:=hkp;have HO1:Hid _:=ho1;have HX1:Hid _:=hx1;have HM1:Hid _:=hm1;have HMl:Hid _:=hml;have HU1:Hid _:=hu1;have HL1:Hid _:=hl1;clear hi hk1 hkp ho1 hx1 hm1 hml hu1 hl1;by_cases hjn:j<n
  ·obtain ⟨p,hp⟩:∃p,ps[j]?=some p:=⟨ps[j]'(by rw [HN.out];exact hjn),geg _⟩;have HPj:Hid _:=hp;obtain ⟨c0,c1,c2,c3⟩:=nS kind ps j p hp;have HGr:=hid (HKp.out.heap HG.out HGo.out);have d0:=aa HGr.out (j*4) (v:=VI kind) (by simpa using c0);have d1:=aa HGr.out (j*4+1) (v:=VU p.1) (by simpa using c1);have d2:=aa HGr.out (j*4+2) (v:=VU p.2.2) (by simpa using c2);have d3:=aa HGr.out (j*4+3) (v:=VU p.2.1) (by simpa using c3);have hpk:=HOk.out p (List.mem_of_getElem? hp);have HSj:Hid (aQ (ps.take j)+p.2.1.toNat<=8):=by
    have:=nT (ps:=ps) (j+1);rw [fV hp,cK] at this;simp only [aQ] at this;have:=HSz.out;show _<=_;omega
   clear c0 c1 c2 c3 hp;obtain ⟨va,size,pa⟩:=p;obtain ⟨hva,⟨hs1,hs2⟩,hpa0,hpa1⟩:=hpk;simp only at d0 d1 d2 d3 hs1 hs2 hpa0 hpa1 hva HSj;obtain ⟨v1,Ev1,F⟩:=ax1 wa #[VI kind,VU va,VU pa,VU size] 227;go_wp2_with fail;rw [Ev1.out];clear Ev1;obtain ⟨f1,f2,n1⟩:=F;have HF1:Hid _:=f1;clear f1 d0 d1 d2 d3;refine (nN kind va pa size v1 (HK1.out.low n1) ⟨hpa0,hpa1⟩ ⟨by omega,by omega⟩).mono ?_;rintro e v2 ⟨he,n2⟩;have HN12:=hid (bst n1 n2);have HF2:=ae HF1 n2;have K2:=hid (HK1.out.low HN12.out);have hlm:(cL h mem1).mem.length=h.mem.length:=HMl.out;rw [hlm] at he;cases hins:fG h.mem.length pa size
   ·rw [hins] at he;simp only [Bool.false_eq_true,if_false] at he;subst he;have HIn:Hid _:=hins;clear hins;go_wp2_with fail;refine ⟨rfl,mem1,ol1,MNext.trans HKp.out HO1.out HX1.out ⟨O1,ov1,K2.out,Kp.of_below O1 HN12.out,fun _ _ h=>h,fun i hi=>HN12.out.block i (HK1.out.xo i hi).2⟩,HU1.out,.inr ⟨va,?_,rfl⟩⟩;have e:ps=ps.take j++(va,size,pa)::ps.drop (j+1):=by
     obtain ⟨hjl,hjp⟩:=List.getElem?_eq_some_iff.1 HPj.out;rw [<-hjp,<-List.drop_eq_getElem_cons hjl,List.take_append_drop]
    rw [e,ms HI.out HIn.out]
   ·rw [hins] at he;simp only [if_true] at he;subst he;have HIn:Hid _:=hins;clear hins;obtain ⟨sn,hsn⟩:∃sn:Nat,size=sn:=⟨size.toNat,by omega⟩;obtain ⟨pn,hpn⟩:∃pn:Nat,pa=pn:=⟨pa.toNat,by omega⟩;subst hsn hpn;have hin2:=HIn.out;simp only [fG,decide_eq_true_eq] at hin2;have hm4:=HK.out.len;rw [Int.toNat_natCast] at HSj;obtain ⟨S,hS⟩:∃S,aQ (ps.take j)=S:=⟨_,rfl⟩;have HS:Hid _:=hS;rw [hS] at HSj HL1 HM1 |-;clear hS;obtain ⟨x,hx⟩:∃x,val/256^S=x:=⟨_,rfl⟩;have HX:Hid _:=hx;have hxb:inU x:=by rw [<-hx];exact xM HV.out S
    rw [hx];clear hx;have b3:=aa HF2.out 3 (v:=VU sn) rfl;have hSj:=HSj.out;have hl1:=HL1.out;have hol:=HOl.out;have hss:=nT (ps:=ps) (j+1);rw [fV HPj.out,cK,HS.out] at hss;simp only [aQ,Int.toNat_natCast] at hss;have HSt:Hid (S+sn<=aQ ps):=by show _<=_;omega
    have hbx:¬O1 wa.heap.size:=fun hh=>by have:=HK1.out.obd _ hh;omega
    clear hlm hss;go_wp2;go_loopw [2,20] (fun vv iv wr=>∃(i:Nat) (O2:Nat->Prop) (ov2:Value) (mem2:List Int) (ol2:List (Nat × Int)),i<=sn∧vv=VU (x/256^i)∧iv=VU i∧MW wr O2 X m ov2 (cL h mem2) ol2∧Kp O1 v2 wr∧(∀i,i<v2.heap.size->O2 i->O1 i)∧(∀i,X i->wr.heap[i]?=v2.heap[i]?)∧
     mem2=put mem1 pn (br x i)∧mem2.length=h.mem.length∧ex ol2 mem2=ex ol h.mem∧ol2.length=ol1.length+i) (fun _ iv _=>sn-(intOf iv).toNat)
    case atStart=>exact ⟨0,O1,ov1,mem1,ol1,Nat.zero_le _,by simp,rfl,K2.out,Kp.refl O1 v2,fun _ _ h=>h,fun _ _=>rfl,by simp [br,put],HMl.out,HU1.out,rfl⟩
    case round=>
     obtain ⟨i,O2,ov2,mem2,ol2,hi,rfl,rfl,hk2,hkp2,ho2,hx2,hm2,hml2,hu2,hl2⟩:=hrel;have HK2:Hid _:=hk2;have HKp2:Hid _:=hkp2;have HO2:Hid _:=ho2;have HX2:Hid _:=hx2;have HM2:Hid _:=hm2;have HMl2:Hid _:=hml2;have HU2:Hid _:=hu2;have HL2:Hid _:=hl2;clear hk2 hkp2 ho2 hx2 hm2 hml2 hu2 hl2;by_cases hil:i<sn
     ·have HF3:Hid _:=Kp.hid HF2 HKp2.out hbx;have cp:=aa HF3.out 2 (v:=VU pn) rfl;have hxi:=xM hxb i;obtain ⟨xi,hxe⟩:∃xi,x/256^i=xi:=⟨_,rfl⟩;have HXi:Hid _:=hxe;rw [hxe] at hxi |-;clear hxe;have hwr:IntKind.u64.wrap ((pn:Int)+(i:Int))=((pn+i:Nat):Int):=by rw [IntKind.wrap_u64];omega
      obtain ⟨hxi0,hxi1⟩:=hxi;go_upto_region 7 with fail;refine bM 8 (by kernel_rfl) (by kernel_rfl) ?_;simp only [List.take_succ_cons,List.take_zero,List.drop_succ_cons,List.drop_zero];repeat still_step
      refine wpStill_nil ?_;have Dd:=bdr wr;have hml2:=HMl2.out;have hl2:=HL2.out;have hst:=HSt.out;go_wp2_with fail;refine (vR (pn+i) xi wr.drew (HK2.out.low Dd) (by show pn+i<mem2.length;omega) (by omega) ⟨hxi0,hxi1⟩).mono ?_;rintro e v3 ⟨rfl,O3,ov3,k3,kp3,o3,x3⟩;have HK3:=hid k3;have HKp3:=hid ((HKp2.out.trans (Kp.of_below O1 Dd)).trans' kp3 (fun q hq hh=>HO2.out q hq hh));have HO3:=hid fun q (hq:q<v2.heap.size) (hh:O3 q)=>HO2.out q hq (o3 q (ltl hq HKp2.out.size) hh);have HX3:=hid fun q (hq:X q)=>(x3 q hq).trans (HX2.out q hq);have HMs:Hid (mem2.set (pn+i) (xi%256)=put mem1 pn (br x (i+1))):=by
       show _=_;rw [HM2.out,<-HXi.out];exact yr mem1 pn i x (by rw [HMl.out];omega)
      have HSh:Hid (xi/256=x/256^(i+1)):=by
       show _=_;rw [<-HXi.out,Bl]
      clear k3 kp3 o3 x3 cp;go_wp2;go_roundw
      case rel=>
       refine ⟨i+1,O3,ov3,_,_,by omega,?_,by go_num,HK3.out,HKp3.out,HO3.out,HX3.out,HMs.out,by rw [List.length_set];exact HMl2.out,?_,by simp;omega⟩
       ·rw [HSh.out]
       ·rw [um];exact HU2.out
      case measure=>simp [intOf];omega
     ·have hie:i=sn:=by omega
      subst hie;have hl2:=HL2.out;go_wp2;go_roundw
      case rel=>
       have e1:=fV HPj.out;have hs2:=HN12.out.size;have hsw:=HKp.out.size;refine ⟨j+1,O2,ov2,mem2,ol2,by omega,?_,by go_num,?_,HK2.out,(HKp.out.trans (Kp.of_below O HN12.out)).trans' HKp2.out (fun q hq hh=>HO1.out q hq hh),fun q hq hh=>HO1.out q hq (HO2.out q (by omega) hh),fun q hq=>((HX2.out q hq).trans (HN12.out.block q (HK1.out.xo q hq).2)).trans (HX1.out q hq),?_,HMl2.out,HU2.out,?_⟩
       ·rw [e1,cK,HS.out,<-HX.out];simp only [aQ,Int.toNat_natCast,Nat.add_zero];rw [Int.pow_add,<-Int.ediv_ediv_of_nonneg (Int.le_of_lt (Int.pow_pos (by omega)))]
       ·rw [e1];intro q hq;rcases List.mem_append.1 hq with hq | hq
        ·exact HI.out q hq
        ·rw [List.mem_singleton] at hq;subst hq;exact HIn.out
       ·rw [e1,vU,HS.out,HX.out,<-HM1.out,HM2.out];simp only [Int.toNat_natCast]
       ·rw [e1,cK,HS.out];simp only [aQ,Int.toNat_natCast];omega
      case measure=>simp [intOf];omega
  ·have hje:j=n:=by omega
   subst hje;go_wp2;go_end0;have e:=List.take_of_length_le (by rw [HN.out];exact nle);have hI:=HI.out;have hM:=HM1.out;rw [e] at hI hM;exact ⟨mem1,ol1,⟨O1,ov1,HK1.out,HKp.out,HO1.out,HX1.out⟩,HU1.out,.inl ⟨kD hI,rfl,hM⟩⟩
section
attribute [local go_sem ↓] Go.wp_at_zero Go.wp_at_succ
theorem Byt.gb0 {w w':World} {a:Option Addr} {len r:Nat} {zs:List Int} (h:Byt w a len zs) (hg:w.grownBy w' (some r)) (hne:0<len->∀q,a=some q->q.block≠r):Byt w' a len zs:=by
 rcases Nat.eq_zero_or_pos len with h0 | h0
 ·exact ⟨h.1,h.2.1,.inl h0⟩
 ·exact h.gb' hg (hne h0)
structure RdAt (w:World) (b:Nat) (a:Option Addr) (len cap:Nat) (zs:List Int) (p:Nat):Prop where
 box:w.heap[b]?=some (.cells #[.slice a len cap,VI ((min p len:Nat):Int)] 127 (0,0))
 byt:Byt w a len zs
 ne:0<len->∀q,a=some q->q.block≠b
 len:len<=1048576
theorem RdAt.lt {w:World} {b:Nat} {a:Option Addr} {len cap:Nat} {zs:List Int} {p:Nat} (h:RdAt w b a len cap zs p):b<w.heap.size:=(hpl h.box)
theorem RdAt.keep {w w':World} {b:Nat} {a:Option Addr} {len cap:Nat} {zs:List Int} {p:Nat} (h:RdAt w b a len cap zs p) (hn:Bw w w'):RdAt w' b a len cap zs p:=
 ⟨ag h.box hn h.lt,h.byt.keep hn,h.ne,h.len⟩
theorem RdAt.gb {w w':World} {b r:Nat} {a:Option Addr} {len cap:Nat} {zs:List Int} {p:Nat} (h:RdAt w b a len cap zs p) (hg:w.grownBy w' (some r)) (hb:b≠r) (ha:0<len->∀q,a=some q->q.block≠r):RdAt w' b a len cap zs p:=
 ⟨aq h.box hg hb,h.byt.gb0 hg ha,h.ne,h.len⟩
theorem RdAt.off {w:World} {b r:Nat} {a:Option Addr} {len cap:Nat} {zs:List Int} {p:Nat} (h:RdAt w b a len cap zs p) (hr:w.heap.size<=r):0<len->∀q,a=some q->q.block≠r:=by
 intro h0 q hq;rcases h.byt.2.2 with h1 | ⟨g,off,e,hlt,_⟩
 ·omega
 ·rw [e] at hq;cases hq;simp only;omega
theorem RdAt.step {w w':World} {b:Nat} {a:Option Addr} {len cap:Nat} {zs:List Int} {p p':Nat} (h:RdAt w b a len cap zs p) (hg:w.grownBy w' (some b)) (hb:w'.heap[b]?=some (.cells #[.slice a len cap,VI ((min p' len:Nat):Int)] 127 (0,0))):RdAt w' b a len cap zs p':=
 ⟨hb,h.byt.gb0 hg h.ne,h.ne,h.len⟩
theorem fu (b len cap p:Nat) (a:Option Addr) (zs:List Int) (w:World) (h:RdAt w b a len cap zs p):
 Calls Tryz.prog 44 #[PT b 0] w fun e w'=>e=.returned (.int .u8 (atM zs p))∧RdAt w' b a len cap zs (p+1)∧w.grownBy w' (some b):=by
 have HR:=hid h;have c0:=aa h.box 0 (show (#[Value.slice a len cap,VI ((min p len:Nat):Int)]:Array Value)[0]?=some (.slice a len cap) from rfl);have c1:=aa h.box 1 (show (#[Value.slice a len cap,VI ((min p len:Nat):Int)]:Array Value)[1]?=some (VI ((min p len:Nat):Int)) from rfl);have f1:=ay h.box 1;have hl:=h.len;by_cases hp:p<len
 ·have hm:min p len=p:=by omega
  rw [hm] at c1;rcases h.byt.2.2 with h3 | ⟨g,off,rfl,hgw,hc⟩
  ·omega
  have g1:=hc p hp;have g2:=h.byt.2.1 p;have hne:=h.ne (by omega) (AD g off) rfl;have HZ:Hid (atM zs p=zs[p]?.getD 0):=rfl;rw [HZ.out];generalize zs[p]?.getD 0=z at g1 g2 |-;obtain ⟨g21,g22⟩:=g2;clear hc h hm HZ;go_enter Tryz.func44,Tryz.ntmps44;go_wp2;go_quiet (fail);rename Nat=>nq';go_wp2;go_quiet (fail);go_wp2;go_ret;have hg:=aj (mt (ap w (some b)) (nq'+nq)) 1 (VI ((p:Int)+1));refine ⟨rfl,HR.out.step hg ?_,hg⟩;have:=cV (w:=w.drewN (nq'+nq)) HR.out.box 1 (VI ((p:Int)+1));rw [show min (p+1) len=p+1 by omega];exact this
 ·have hm:min p len=len:=by omega
  have HZ:Hid (atM zs p=0):=by
   show zs[p]?.getD 0=0;rw [List.getElem?_eq_none (by rw [h.byt.1];omega)];rfl
  rw [HZ.out];rw [hm] at c1;clear HZ h hm;go_enter Tryz.func44,Tryz.ntmps44;go_wp2;go_quiet (fail);go_wp2;go_ret;have hg:=mt (ap w (some b)) nq;refine ⟨rfl,HR.out.step hg ?_,hg⟩;rw [show min (p+1) len=min p len by omega];exact HR.out.box
def iR (zs:List Int) (p k:Nat):Int:=num ((List.range k).map fun j=>atM zs (p+j))
theorem zC {zs:List Int} (h:∀i:Nat,0<=zs[i]?.getD 0∧zs[i]?.getD 0<=255) (p k:Nat):0<=iR zs p k∧iR zs p k<256^k:=
 kS _ k (fun z hz=>by
  simp only [List.mem_map] at hz;obtain ⟨j,_,rfl⟩:=hz;exact h _) (by simp)
theorem lh (zs:List Int) (p k:Nat):iR zs p (k+1)=iR zs p k+256^k*atM zs (p+k):=by
 unfold iR;rw [jM,jK];simp [num]
theorem eY (b len cap p n:Nat) (a:Option Addr) (zs:List Int) (w:World) (h:RdAt w b a len cap zs p) (hn:n<=8):
 Calls Tryz.prog 46 #[PT b 0,VI n] w fun e w'=>e=.returned (VU (iR zs p n))∧RdAt w' b a len cap zs (p+n)∧w.grownBy w' (some b):=by
 have HR:=hid h;have HBd:=hid h.byt.2.1;clear h;go_enter Tryz.func46,Tryz.ntmps46;go_wp2;go_loopw [5,8] (fun vv iv wr=>∃(k:Nat),k<=n∧vv=VU (iR zs p k)∧iv=VI k∧RdAt wr b a len cap zs (p+k)∧w.grownBy wr (some b)) (fun _ iv _=>n-(intOf iv).toNat)
 case atStart=>exact ⟨0,Nat.zero_le _,rfl,rfl,HR.out,ap _ _⟩
 case round=>
  obtain ⟨k,hk,rfl,rfl,hR,hG⟩:=hrel;have HRk:Hid _:=hR;have HGk:Hid _:=hG;clear hR hG;by_cases hkn:k<n
  ·have hb1:=zC HBd.out p k;have hy:=HBd.out (p+k);have HS:Hid _:=lh zs p k;have HY:Hid (atM zs (p+k)=zs[p+k]?.getD 0):=rfl;rw [<-HY.out] at hy;obtain ⟨x,hx⟩:∃x,iR zs p k=x:=⟨_,rfl⟩;obtain ⟨y,hyy⟩:∃y,atM zs (p+k)=y:=⟨_,rfl⟩;have HYy:Hid _:=hyy;rw [hx,hyy] at HS;rw [hx] at hb1 |-;rw [hyy] at hy;obtain ⟨hb11,hb12⟩:=hb1;obtain ⟨hy1,hy2⟩:=hy;clear hx hyy;have hcs:k=0∨k=1∨k=2∨k=3∨k=4∨k=5∨k=6∨k=7:=by omega
   rcases hcs with rfl | rfl | rfl | rfl | rfl | rfl | rfl | rfl;all_goals
    go_wp2_with fail;refine (fu b len cap _ a zs wr HRk.out).mono ?_;rintro e v1 ⟨rfl,hR1,hG1⟩;have HG1:Hid _:=cP HGk.out hG1;have HR1:Hid _:=hR1;rw [HYy.out];clear hR1 hG1;go_wp2_with fail
   ·refine ⟨⟨1,by omega,?_,rfl,HR1.out,HG1.out⟩,by simp [intOf];omega⟩;have e:=dm 0 1 x y rfl hb11 (by omega) hy1 (by omega) (by omega);rw [Int.mul_one] at e;rw [e,HS.out,show ((256:Int)^0)=1 from rfl,Int.one_mul]
   ·refine ⟨⟨2,by omega,?_,rfl,HR1.out,HG1.out⟩,by simp [intOf];omega⟩;rw [dm 8 256 x y rfl hb11 (by omega) hy1 (by omega) (by omega),HS.out,show ((256:Int)^1)=256 from rfl,Int.mul_comm 256 y]
   ·refine ⟨⟨3,by omega,?_,rfl,HR1.out,HG1.out⟩,by simp [intOf];omega⟩;rw [dm 16 65536 x y rfl hb11 (by omega) hy1 (by omega) (by omega),HS.out,show ((256:Int)^2)=65536 from rfl,Int.mul_comm 65536 y]
   ·refine ⟨⟨4,by omega,?_,rfl,HR1.out,HG1.out⟩,by simp [intOf];omega⟩;rw [dm 24 16777216 x y rfl hb11 (by omega) hy1 (by omega) (by omega),HS.out,show ((256:Int)^3)=16777216 from rfl,Int.mul_comm 16777216 y]
   ·refine ⟨⟨5,by omega,?_,rfl,HR1.out,HG1.out⟩,by simp [intOf];omega⟩;rw [dm 32 4294967296 x y rfl hb11 (by omega) hy1 (by omega) (by omega),HS.out,show ((256:Int)^4)=4294967296 from rfl,Int.mul_comm 4294967296 y]
   ·refine ⟨⟨6,by omega,?_,rfl,HR1.out,HG1.out⟩,by simp [intOf];omega⟩;rw [dm 40 1099511627776 x y rfl hb11 (by omega) hy1 (by omega) (by omega),HS.out,show ((256:Int)^5)=1099511627776 from rfl,Int.mul_comm 1099511627776 y]
   ·refine ⟨⟨7,by omega,?_,rfl,HR1.out,HG1.out⟩,by simp [intOf];omega⟩;rw [dm 48 281474976710656 x y rfl hb11 (by omega) hy1 (by omega) (by omega),HS.out,show ((256:Int)^6)=281474976710656 from rfl,Int.mul_comm 281474976710656 y]
   ·refine ⟨⟨8,by omega,?_,rfl,HR1.out,HG1.out⟩,by simp [intOf];omega⟩;rw [dm 56 72057594037927936 x y rfl hb11 (by omega) hy1 (by omega) (by omega),HS.out,show ((256:Int)^7)=72057594037927936 from rfl,Int.mul_comm 72057594037927936 y]
  ·have hkn':k=n:=by omega
   subst hkn';go_wp2;go_ret;exact ⟨rfl,HRk.out,HGk.out⟩
end
theorem lD (y:Int):((ac y).sets=1∨(ac y).sets=2∨(ac y).sets=4∨(ac y).sets=8)∧(1<=(ac y).ways∧(ac y).ways<=4)∧((ac y).es.length:Int)=(ac y).sets*(ac y).ways∧(ac y).es.length<=32:=by
 have hm:y%4=0∨y%4=1∨y%4=2∨y%4=3:=by omega
 have hw:y/4%4=0∨y/4%4=1∨y/4%4=2∨y/4%4=3:=by omega
 unfold ac;rcases hm with h | h | h | h <;> rcases hw with k | k | k | k <;> rw [h,k] <;> simp only [List.length_replicate] <;> decide
theorem mx (y:Int):dX (ac y):=by
 obtain ⟨h1,h2,h3,h4⟩:=lD y;refine ⟨?_,by omega,by omega,by omega⟩;intro e he;unfold ac at he;have:=(List.mem_replicate.1 he).2;subst this;simp [ft,bC]
theorem rd (y:Int) (p:Bool):aF (ac y) p=true:=by
 obtain ⟨h1,h2,h3,h4⟩:=lD y;unfold aF;rw [Bool.and_eq_true];refine ⟨by simp only [ik,decide_eq_true_eq];exact ⟨h1,h2.1,h2.2,h3⟩,eI _ p _ 0 (fun j x hx=>?_)⟩;have hm:=List.mem_of_getElem? hx;unfold ac at hm;have:=(List.mem_replicate.1 hm).2;subst this;simp [bL,bC]
theorem tv (b:List Int) (hb:∀i:Nat,0<=b[i]?.getD 0∧b[i]?.getD 0<=255):∀(m i a:Nat) (mem:List Int),(∀z∈mem,0<=z∧z<=255)->(lq b m i a mem).length=mem.length∧∀z∈lq b m i a mem,0<=z∧z<=255
 | 0,i,a,mem,h=>⟨rfl,h⟩
 | m+1,i,a,mem,h=>by
  rw [lq];split
  ·have:=tv b hb m (i+1) (a+1) (mem.set a (atM b i)) (fun z hz=>by
    rcases List.mem_or_eq_of_mem_set hz with hz | rfl
    ·exact h z hz
    ·exact hb i)
   rw [List.length_set] at this;exact this
  ·exact tv b hb m (i+1) (a+1) mem h
theorem uv (b:List Int) (hb:∀i:Nat,0<=b[i]?.getD 0∧b[i]?.getD 0<=255):∀(n i:Nat) (mem:List Int),(∀z∈mem,0<=z∧z<=255)->(iX b n i mem).1.length=mem.length∧∀z∈(iX b n i mem).1,0<=z∧z<=255
 | 0,i,mem,h=>⟨rfl,h⟩
 | n+1,i,mem,h=>by
  have h1:=tv b hb (atM b (i+2)).toNat (i+3) (pP b i) mem h;have h2:=uv b hb n (i+3+(atM b (i+2)).toNat) _ h1.2;rw [iX];exact ⟨h2.1.trans h1.1,h2.2⟩
theorem jb {zs:List Int} (h:∀i:Nat,0<=zs[i]?.getD 0∧zs[i]?.getD 0<=255) (i:Nat):inU (dC zs i):=by
 unfold dC;have:=kS ((List.range 8).map fun k=>atM zs (i+k)) 8 (fun z hz=>by
  simp only [List.mem_map] at hz;obtain ⟨j,_,rfl⟩:=hz;exact h _) (by simp)
 unfold inU;omega
theorem qa {zs:List Int} (h:∀i:Nat,0<=zs[i]?.getD 0∧zs[i]?.getD 0<=255):HOk (aC zs):=by
 have h3:=h 3;have hm:=uv zs h (atM zs 87).toNat 88 (List.replicate (64*(1+(atM zs 3%64).toNat)) 0) (fun z hz=>by rw [(List.mem_replicate.1 hz).2];omega);rw [List.length_replicate] at hm;have hmode:0<=bf (atM zs 4)∧bf (atM zs 4)<=2:=by
  unfold bf;split <;> omega
 have hsat:cW (if cW (dC zs 23)=true then dC zs 23 else 0)=true:=by
  split
  ·assumption
  ·rfl
 refine ⟨(cj _).2 ⟨?_,?_,?_,hmode,hmode,hsat,?_,?_,?_⟩,?_,?_,jb h 7,?_,?_,?_,?_,⟨mx _,mx _,mx _⟩⟩
 ·show df (oW zs).1.length=true;unfold oW;rw [hm.1];simp only [df,decide_eq_true_eq];have:(atM zs 3%64).toNat<=63:=by omega
  omega
 ·simp [aC,oA]
 ·rfl
 ·show (dC zs 15/4*4)%4=0;omega
 ·show 0<=(0:Int)∧(0:Int)<=63;omega
 ·show bj ⟨ac (atM zs 0),ac (atM zs 1),ac (atM zs 2)⟩=true;simp only [bj,rd,Bool.and_self]
 ·show fh (oW zs).1;intro i;unfold oW;cases hx:(iX zs (atM zs 87).toNat 88 (List.replicate (64*(1+(atM zs 3%64).toNat)) 0)).1[i]? with
  | none=>exact ⟨by simp,by simp⟩
  | some x=>
   have:=hm.2 x (List.mem_of_getElem? hx);simpa using this
 ·show mI (oA zs);intro i;cases hx:(oA zs)[i]? with
  | none=>exact ⟨by simp,by simp⟩
  | some x=>
   have hmem:=List.mem_of_getElem? hx;simp only [oA,List.mem_cons,List.mem_map] at hmem;have:inU x:=by
    rcases hmem with rfl | ⟨j,_,rfl⟩
    ·simp [inU]
    ·exact jb h _
   simpa [inU] using this
 ·show inU (if cW (dC zs 23)=true then dC zs 23 else 0);split
  ·exact jb h 23
  ·simp [inU]
 ·show inU (dC zs 15/4*4);have:=jb h 15;unfold inU at this |-;omega
 ·show inU 0;simp [inU]
 ·show inU 0;simp [inU]
end Go.Proofs.YthdgiakgepmabaaGreat
