import Derived.Test.YthdgiakgepmabaaGreatPk06
namespace Go.Proofs.YthdgiakgepmabaaGreat
open Go.RowKit
set_option linter.unusedVariables false
set_option maxHeartbeats 6400000
set_option maxRecDepth 20000
def EI (r:Int × Int × Int × List aD) (k:Nat) (ps:List aD):Prop:=
 (∀p∈ps,aV p.2.2 p.1=1∧0<=p.1∧p.1<=k∧0<=p.2.2∧p.2.2<=18446744073709551615)∧
 ((r.1=1∧(∃ad,r.2.2.2=ps++[(r.2.1,ad,r.2.2.1)])∧aV r.2.2.1 r.2.1=2∧0<=r.2.1∧r.2.1<=k∧0<=r.2.2.1∧r.2.2.1<=18446744073709551615)∨((r.1=2∨r.1=3)∧r.2.2.2=ps∧r.2.2.1=0))
theorem nh (level:Int):aV 0 level≠2:=by
 unfold aV;split
 ·decide
 ·simp [aZ];split <;> omega
theorem iL (zs:List Int) (va:Int) (hz:∀i:Nat,0<=zs[i]?.getD 0∧zs[i]?.getD 0<=255):∀(k:Nat) (n:Int),∃ps,EI (aN zs va k n) k ps∧ps.length<=k
 | k,n=>by
  cases hg:dL zs.length (64*n+8*vZ va k) 8
  ·rw [pF zs va k n hg];exact ⟨[],⟨by simp,.inr ⟨.inr rfl,rfl,rfl⟩⟩,by simp⟩
  ·have hb:=nj zs (64*n+8*vZ va k) 8 (by omega) hz;rcases Do (rdV zs (64*n+8*vZ va k) 8) (k:Int) with hk | hk | hk
   ·rw [pG zs va k n hg hk];exact ⟨[],⟨by simp,.inr ⟨.inl rfl,rfl,rfl⟩⟩,by simp⟩
   ·cases k with
    | zero=>exact absurd hk (ie _)
    | succ k'=>
     rw [nI zs va k' n hg hk];obtain ⟨ps,⟨h1,h2⟩,h3⟩:=iL zs va hz k' (cx (rdV zs (64*n+8*vZ va ((k'+1:Nat):Int)) 8));refine ⟨(((k'+1:Nat):Int),64*n+8*vZ va ((k'+1:Nat):Int),rdV zs (64*n+8*vZ va ((k'+1:Nat):Int)) 8)::ps,⟨?_,?_⟩,by simp;omega⟩
     ·intro p hp;rcases List.mem_cons.1 hp with rfl | hp
      ·exact ⟨hk,by simp only;omega,by simp only;omega,hb.1,hb.2⟩
      ·obtain ⟨q1,q2,q3,q4⟩:=h1 p hp;exact ⟨q1,q2,by omega,q4⟩
     ·simp only [oT];rcases h2 with ⟨e1,⟨ad,e2⟩,e3,e4,e5,e6⟩ | ⟨e1,e2,e3⟩
      ·exact .inl ⟨e1,⟨ad,by rw [e2];rfl⟩,e3,e4,by omega,e6⟩
      ·exact .inr ⟨e1,by rw [e2];rfl,e3⟩
   ·rw [nH zs va k n hg hk];exact ⟨[],⟨by simp,.inl ⟨rfl,⟨_,rfl⟩,hk,by simp only;omega,Int.le_refl _,hb.1,hb.2⟩⟩,by simp⟩
theorem lL (zs:List Int) (root va:Int) (hz:∀i:Nat,0<=zs[i]?.getD 0∧zs[i]?.getD 0<=255):∃ps,EI (aU zs root va) 2 ps∧ps.length<=2:=by
 unfold aU;split
 ·exact ⟨[],⟨by simp,.inr ⟨.inl rfl,rfl,rfl⟩⟩,by simp⟩
 ·exact iL zs va hz 2 _
theorem GL {r:Int × Int × Int × List aD} {k k':Nat} {ps:List aD} (h:EI r k ps) (hk:k<=k'):EI r k' ps:=by
 obtain ⟨h1,h2⟩:=h;refine ⟨fun p hp=>?_,?_⟩
 ·obtain ⟨q1,q2,q3,q4⟩:=h1 p hp;exact ⟨q1,q2,by omega,q4⟩
 ·rcases h2 with ⟨e1,e2,e3,e4,e5,e6⟩ | h2
  ·exact .inl ⟨e1,e2,e3,e4,by omega,e6⟩
  ·exact .inr h2
theorem jC (zs:List Int) (satp va:Int) (t:TlbM) (asid:Int) (ht:aF t true=true) (hz:∀i:Nat,0<=zs[i]?.getD 0∧zs[i]?.getD 0<=255):∃ps,EI (aE zs satp va (aX t va asid)) 2 ps∧ps.length<=2:=by
 unfold aE;split
 ·rename_i hf;obtain ⟨q,x,h1,h2,h3,h4,h5,h6⟩:=js t va asid hf;have hl:=dv (co ht) q x h1 h6;have hle:((aX t va asid).2.2.1-1).toNat<=2:=by rw [h3];omega
  obtain ⟨ps,a1,a2⟩:=iL zs va hz ((aX t va asid).2.2.1-1).toNat (cx (aX t va asid).2.2.2);exact ⟨ps,GL a1 hle,by omega⟩
 ·exact lL zs satp va hz
theorem iM (va satp pick:Int):∀(a b:List aD) (p:TlbM),bF va satp pick (a++b) p=bF va satp pick b (bF va satp pick a p)
 | [],b,p=>rfl
 | r::a,b,p=>by
  rw [List.cons_append,bF,bF];exact iM va satp pick a b _
theorem ic (t:TlbM) (e:EntM) (pick:Int):(cU t e pick).es.length=t.es.length∧(cU t e pick).sets=t.sets∧(cU t e pick).ways=t.ways:=by
 unfold cU;split
 ·simp
 ·exact ⟨rfl,rfl,rfl⟩
theorem ni (va satp pick:Int):∀(rs:List aD) (p:TlbM),(bF va satp pick rs p).es.length=p.es.length∧(bF va satp pick rs p).sets=p.sets∧(bF va satp pick rs p).ways=p.ways
 | [],p=>⟨rfl,rfl,rfl⟩
 | r::rs,p=>by
  rw [bF];have ih:=ni va satp pick rs (if aV r.2.2 r.1=1 then cU p (fw r.1 va satp r.2.2) pick else p);split at ih
  ·rename_i hk;rw [if_pos hk];have h:=ic p (fw r.1 va satp r.2.2) pick;exact ⟨ih.1.trans h.1,ih.2.1.trans h.2.1,ih.2.2.trans h.2.2⟩
  ·rename_i hk;rw [if_neg hk];exact ih
theorem tQ {r:Int × Int × Int × List aD} {k:Nat} {ps:List aD} (va satp pick:Int) (p:TlbM) (h:EI r k ps):bF va satp pick r.2.2.2 p=bF va satp pick ps p:=by
 rcases h.2 with ⟨_,⟨ad,e⟩,hk,_⟩ | ⟨_,e,_⟩
 ·rw [e,iM];rw [bF,bF,if_neg (by simp only;omega)]
 ·rw [e]
theorem zR (t:TlbM) (va asid:Int) (he:∀e∈t.es,BE e) (h:(aX t va asid).1=true):(0<=(aX t va asid).2.2.2∧(aX t va asid).2.2.2<=18446744073709551615)∧(-9223372036854775808<=(aX t va asid).2.2.1∧(aX t va asid).2.2.1<=9223372036854775807):=by
 obtain ⟨k,x,hx,_,hl,hp,_⟩:=js t va asid h;have hk:=he x (List.mem_of_getElem? hx);rw [hl,hp];exact ⟨hk.2.2.2,hk.1⟩
theorem wn (zs:List Int) (root va:Int):(aU zs root va).2.2.2.length<=3:=by
 unfold aU;split
 ·simp
 ·exact li zs va 2 _
structure WalkLim (r:Int × Int × Int × List aD):Prop where
 len:r.2.2.2.length<=3
 pte:0<=r.2.2.1∧r.2.2.1<=18446744073709551615
 level:0<=r.2.1∧r.2.1<=2
 recs:∀x∈r.2.2.2,(0<=x.1∧x.1<=2)∧0<=x.2.2∧x.2.2<=18446744073709551615
theorem DD {r:Int × Int × Int × List aD} {ps:List aD} (h:EI r 2 ps):∀x∈r.2.2.2,(0<=x.1∧x.1<=2)∧0<=x.2.2∧x.2.2<=18446744073709551615:=by
 obtain ⟨h1,h2⟩:=h;intro x hx;rcases h2 with ⟨_,⟨ad,e⟩,_,e4,e5,e6,e7⟩ | ⟨_,e,_⟩
 ·rw [e] at hx;rcases List.mem_append.1 hx with hx | hx
  ·obtain ⟨_,q2,q3,q4,q5⟩:=h1 x hx;exact ⟨⟨q2,by omega⟩,q4,q5⟩
  ·have:x=(r.2.1,ad,r.2.2.1):=by simpa using hx
   subst this;exact ⟨⟨e4,by omega⟩,e6,e7⟩
 ·rw [e] at hx;obtain ⟨_,q2,q3,q4,q5⟩:=h1 x hx;exact ⟨⟨q2,by omega⟩,q4,q5⟩
theorem qK (zs:List Int) (satp va:Int) (t:TlbM) (asid:Int) (ht:aF t true=true) (he:∀e∈t.es,BE e) (hz:∀i:Nat,0<=zs[i]?.getD 0∧zs[i]?.getD 0<=255):
 ((aX t va asid).1=true->∃l:Nat,(aX t va asid).2.2.1=(l:Int)+1∧l<=1∧0<=(aX t va asid).2.2.2∧(aX t va asid).2.2.2<=18446744073709551615∧aE zs satp va (aX t va asid)=aN zs va l (cx (aX t va asid).2.2.2))∧
 ((aX t va asid).1=false->aE zs satp va (aX t va asid)=aU zs satp va)∧WalkLim (aE zs satp va (aX t va asid)):=by
 obtain ⟨ps,hs,_⟩:=jC zs satp va t asid ht hz;cases hf:(aX t va asid).1
 ·have e:aE zs satp va (aX t va asid)=aU zs satp va:=by rw [aE,if_neg (by rw [hf];simp)]
  have hb:=sD zs satp va hz;refine ⟨fun h=>(by cases h),fun _=>e,?_⟩;have hr:=DD hs;rw [e] at hr |-;exact ⟨wn zs satp va,⟨hb.1,hb.2.1⟩,hb.2.2,hr⟩
 ·obtain ⟨q,x,h1,h2,h3,h4,h5,h6⟩:=js t va asid hf;have hl:=dv (co ht) q x h1 h6;have hpl:=fx ht q x h1;have hlim:=(zR t va asid he hf).1;have hk1:x.level≠0:=by
   intro h0;have hg:aH x true=true:=by
    simp only [bL,Bool.or_eq_true,Bool.and_eq_true] at hpl;have h7:aH x true=true∧x.tag%t.sets=q/t.ways:=by simpa [h6] using hpl
    exact h7.1
   have:=lj hg;rw [h0] at this;exact ie _ this
  have e:aE zs satp va (aX t va asid)=aN zs va ((aX t va asid).2.2.1-1).toNat (cx (aX t va asid).2.2.2):=by rw [aE,if_pos hf]
  have hb:=EU zs va hz ((aX t va asid).2.2.1-1).toNat (cx (aX t va asid).2.2.2) (by rw [h3];omega);refine ⟨fun _=>⟨((aX t va asid).2.2.1-1).toNat,by rw [h3];omega,by rw [h3];omega,hlim.1,hlim.2,e⟩,fun h=>(by cases h),?_⟩;have hr:=DD hs;have hln:=li zs va ((aX t va asid).2.2.1-1).toNat (cx (aX t va asid).2.2.2);rw [e] at hr |-;exact ⟨by rw [h3] at hln |-;omega,⟨hb.1,hb.2.1⟩,hb.2.2,hr⟩
section
attribute [local go_sem ↓] Go.wp_at_zero Go.wp_at_succ
theorem Tryz.infoEnt:(Tryz.prog.info? 154).map (fun i=>(i.zero,i.size,i.bytes))=some (some (.agg #[.bool false,VI 0,VU 0,VU 0,.bool false,VU 0]),6,48):=by kernel_rfl
theorem DW:∀es:List EntM,∀u∈bE es,u.oneCell'=true
 | [],u,h=>by simp [bE] at h
 | e::r,u,h=>by
  simp only [bE,List.mem_append] at h;rcases h with h | h
  ·simp [ky] at h;rcases h with rfl | rfl | rfl | rfl | rfl | rfl <;> rfl
  ·exact DW r u h
def TlbOwn (base:Nat) (w:World) (v:Value) (t:TlbM):Prop:=
 ∃g cap,v=.agg #[VI t.sets,VI t.ways,SL g t.es.length cap]∧w.ownsRow base 154 6 (SL g t.es.length cap) t.es.length (bE t.es)
theorem Ce (v:Value) (t:TlbM) (w:World) (h:TlbAt w v t):
 Calls Tryz.prog 66 #[v] w fun e w'=>(∃x,e=.returned x∧TlbOwn w.heap.size w' x t)∧Bw w w':=by
 have HT:=hid h;obtain ⟨a,cap,rfl,hr,_,_,_,hl,hlc,hcm,hnil,hsp⟩:=h;obtain ⟨sets,ways,es⟩:=t;obtain ⟨n,hn⟩:∃n,es.length=n:=⟨_,rfl⟩;simp only at hr hl hlc hnil |-;rw [hn] at hr hl hlc hnil |-;obtain ⟨v1,Ev1,n1,H1,H2,l1⟩:=al2 w #[VI sets,VI ways,.slice a n cap] #[VI 0,VI 0,SN] 40 40;have HR1:=hid (hr.keep n1);have HN:=hid hnil;have HSp:=hid hsp;clear hr hnil hsp HT;go_enter Tryz.func66,Tryz.ntmps66;go_wp2_with fail;rw [Ev1.out];clear Ev1;obtain ⟨⟨c0,c1,c2⟩,_,_,_⟩:=au H1.out;obtain ⟨⟨d0,d1,d2⟩,e0,e1,e2⟩:=au H2.out;have ne1:v1.heap.size≠w.heap.size:=by omega
 have ne2:w.heap.size≠v1.heap.size:=by omega
 have ne3:v1.heap.size≠w.heap.size+1:=by omega
 have ne4:w.heap.size+1≠v1.heap.size:=by omega
 have n2:=((Below.refl v1.heap.size v1).alloc nle (Obj.cells #[] 154)).drew;go_region_held3 (fun w'=>w'.cell? (AD w.heap.size 0)=some (VI sets)∧w'.cell? (AD w.heap.size 1)=some (VI ways)∧w'.cell? (AD w.heap.size 2)=some (.slice a n cap)) (go_keep)
  (first
   | (refine Dy _ (by rfl) (.tmp 7) (.tmp 9) 38 (by rfl) 154 Tryz.underlying38 (.agg #[.bool false,VI 0,VU 0,VU 0,.bool false,VU 0]) 6 48 Tryz.infoEnt (by rfl) (by decide) v1.heap.size v1.heap.size 0 0 [] (by rfl) (OwnC.new 154 6 v1.drew [] 0 (by rfl) (by decide)) a n cap (bE es) (by rfl) HN.out HSp.out (RowC.keep HR1.out n2) (DW es) (by omega) (by omega) v1.heap.size v1 n2 nle ?_;intro g3 c3 v3 o3 n3;have k1:=au (ag H1.out n3 (by omega));have k2:=au (ag H2.out n3 l1);obtain ⟨⟨q0,q1,q2⟩,_,_,_⟩:=k1;obtain ⟨⟨j0,j1,j2⟩,i0,i1,i2⟩:=k2;have l3:=n3.size;have O3:Hid (OwnC 154 6 v3 v1.heap.size g3 (0+n) c3 ([]++bE es)):=o3;clear o3))
 go_wp2_with fail;have O4:v3.ownsRow v1.heap.size 154 6 (SL g3 n c3) n (bE es):=by
  have:=O3.out;rw [Nat.zero_add,List.nil_append] at this;exact this
 refine bodyPost_ret (v:=.agg #[VI sets,VI ways,SL g3 n c3]) (by simp [results,Tryz.results66,go_sem,j0,j1,j2]) rfl ⟨⟨_,rfl,g3,c3,by rw [hn],?_⟩,iG (bst n1 n3) (by omega) _ _ _⟩;rw [hn];exact bD (ao O4 (gb3 v3 (w.heap.size+1) _ _ _) l1) (by omega)
theorem TlbOwn.row {base:Nat} {w:World} {v:Value} {t:TlbM} (h:TlbOwn base w v t):∃g cap,v=.agg #[VI t.sets,VI t.ways,SL g t.es.length cap]∧RowC w (some (AD g 0)) t.es.length 6 (bE t.es)∧base<=g∧g<w.heap.size:=by
 obtain ⟨g,cap,rfl,ho⟩:=h;have:=bx ho;exact ⟨g,cap,rfl,cT ho,this.2.1,this.2.2⟩
theorem TlbOwn.keep {base:Nat} {w w':World} {v:Value} {t:TlbM} (h:TlbOwn base w v t) (hb:Bw w w'):TlbOwn base w' v t:=by
 obtain ⟨g,cap,rfl,ho⟩:=h;exact ⟨g,cap,rfl,cB ho hb⟩
def dX (t:TlbM):Prop:=
 (∀e∈t.es,BE e)∧(-9223372036854775808<=t.sets∧t.sets<=9223372036854775807)∧(-9223372036854775808<=t.ways∧t.ways<=9223372036854775807)∧t.es.length<=1048576
theorem TlbAt.ok {w:World} {v:Value} {t:TlbM} (h:TlbAt w v t):dX t:=by
 obtain ⟨a,cap,_,_,h1,h2,h3,h4,_⟩:=h;exact ⟨h1,h2,h3,h4⟩
theorem TlbOwn.at {base:Nat} {w:World} {v:Value} {t:TlbM} (h:TlbOwn base w v t) (hk:dX t):TlbAt w v t:=by
 obtain ⟨g,cap,rfl,ho⟩:=h;have hr:=cT ho;rcases ho.2 with ⟨h2,_⟩ | ⟨g',cap',cur,h2,hb,hg,hc1,hc2,_⟩
 ·cases h2
 ·cases h2;exact ⟨some (AD g 0),cap,rfl,hr,hk.1,hk.2.1,hk.2.2.1,hk.2.2.2,hc1,by unfold maxLen at hc2;omega,(by intro h;cases h),(by intro q hq;cases hq;rfl)⟩
end
theorem uF (level va satp pte:Int) (hl:0<=level∧level<=2) (hp:0<=pte∧pte<=18446744073709551615):BE (fw level va satp pte):=by
 have ht:=kz va level (by omega);refine ⟨⟨by simp only [fw];omega,by simp only [fw];omega⟩,⟨ht.1,?_⟩,?_,hp⟩
 ·simp only [fw];omega
 ·simp only [fw,aB];omega
theorem pA {t:TlbM} {e:EntM} (pick:Int) (ht:dX t) (he:BE e):dX (cU t e pick):=by
 obtain ⟨l1,l2,l3⟩:=ic t e pick;obtain ⟨h1,h2,h3,h4⟩:=ht;refine ⟨?_,by rw [l2];exact h2,by rw [l3];exact h3,by rw [l1];exact h4⟩;unfold cU;split
 ·intro x hx;simp only at hx;rcases List.mem_or_eq_of_mem_set hx with hx | rfl
  ·exact h1 x hx
  ·exact he
 ·exact h1
theorem uG (va satp pick:Int):∀(rs:List aD) (p:TlbM),dX p->(∀x∈rs,(0<=x.1∧x.1<=2)∧0<=x.2.2∧x.2.2<=18446744073709551615)->dX (bF va satp pick rs p)
 | [],p,h,_=>h
 | r::rs,p,h,hx=>by
  rw [bF];refine uG va satp pick rs _ ?_ fun x hx'=>hx x (List.mem_cons_of_mem _ hx');have hr:=hx r (List.mem_cons_self ..);split
  ·exact pA pick h (uF _ _ _ _ hr.1 hr.2)
  ·exact h
theorem Hq (va satp pick:Int) (rs:List aD) (p:TlbM) (j:Nat) (x:aD) (hx:rs[j]?=some x):
 bF va satp pick (rs.take (j+1)) p=if aV x.2.2 x.1=1 then cU (bF va satp pick (rs.take j) p) (fw x.1 va satp x.2.2) pick else bF va satp pick (rs.take j) p:=by
 have:rs.take (j+1)=rs.take j++[x]:=by
  rw [List.take_add_one,hx];rfl
 rw [this,iM];rfl
def fh (zs:List Int):Prop:=∀i:Nat,0<=zs[i]?.getD 0∧zs[i]?.getD 0<=255
def mI (zs:List Int):Prop:=∀i:Nat,0<=zs[i]?.getD 0∧zs[i]?.getD 0<=18446744073709551615
def inU (x:Int):Prop:=0<=x∧x<=18446744073709551615
def kOk (k:KM):Prop:=dX k.i∧dX k.d∧dX k.p
structure HOk (h:HartM):Prop where
 valid:mr h=true
 mem:fh h.mem
 regs:mI h.regs
 pc:inU h.pc
 satp:inU h.satp
 tvec:inU h.tvec
 epc:inU h.epc
 tval:inU h.tval
 ks:kOk h.k
structure ROk (r:RunM):Prop where
 h:HOk r.h
 cause:0<=r.cause∧r.cause<=63
 tval:inU r.tval
 looks:∀l∈r.looks,(0<=l.1∧l.1<=2)∧inU l.2
 fva:inU r.fence.va
 fas:inU r.fence.asid
structure VH (h:HartM):Prop where
 size:df h.mem.length=true
 regs:h.regs.length=8
 zero:h.regs[0]?.getD 0=0
 mode:0<=h.mode∧h.mode<=2
 emode:0<=h.emode∧h.emode<=2
 satp:cW h.satp=true
 tvec:h.tvec%4=0
 cause:0<=h.cause∧h.cause<=63
 ks:bj h.k=true
theorem cj (h:HartM):mr h=true↔VH h:=by
 simp only [mr,fl,Bool.and_eq_true,decide_eq_true_eq,beq_iff_eq];constructor
 ·rintro ⟨⟨a,⟨⟨⟨⟨⟨⟨b,c⟩,d⟩,e⟩,f⟩,g⟩,i⟩⟩,j⟩;exact ⟨a,b,c,d,e,f,g,i,j⟩
 ·rintro ⟨a,b,c,d,e,f,g,i,j⟩;exact ⟨⟨a,⟨⟨⟨⟨⟨⟨b,c⟩,d⟩,e⟩,f⟩,g⟩,i⟩⟩,j⟩
theorem HOk.v {h:HartM} (k:HOk h):VH h:=(cj h).1 k.valid
theorem BW {n:Nat} (h:df n=true):n%64=0∧64<=n∧n<=4096:=by simpa [df] using h
theorem xg (pte level va:Int):inU (fE pte level va):=by
 have hp:0<=cx pte∧cx pte<17592186044416:=by unfold cx;omega
 unfold fE fD inU;split
 ·omega
 ·split
  ·omega
  ·split <;> omega
theorem mJ (kind:Int):0<=dI kind∧dI kind<=63:=by unfold dI;split;omega;split <;> omega
theorem mK (kind:Int):0<=bq kind∧bq kind<=63:=by unfold bq;split;omega;split <;> omega
theorem rD (pte level mode:Int) (sum mxr:Bool) (kind va:Int):(0<=(eT pte level mode sum mxr kind va).1∧(eT pte level mode sum mxr kind va).1<=63)∧inU (eT pte level mode sum mxr kind va).2:=by
 unfold eT;split
 ·exact ⟨⟨by simp,by simp⟩,xg _ _ _⟩
 ·exact ⟨mJ kind,by simp [inU]⟩
theorem mM (r:Int × Int × Int × List aD) (mode:Int) (sum mxr:Bool) (kind va:Int):(0<=(bw r mode sum mxr kind va).1∧(bw r mode sum mxr kind va).1<=63)∧inU (bw r mode sum mxr kind va).2:=by
 unfold bw;split
 ·exact ⟨mJ kind,by simp [inU]⟩
 ·split
  ·exact ⟨mK kind,by simp [inU]⟩
  ·exact rD _ _ _ _ _ _ _
theorem Hh (zs:List Int) (mode:Int) (sum mxr:Bool) (satp kind va:Int) (hv:inU va):(0<=(fB zs mode sum mxr satp kind va).1∧(fB zs mode sum mxr satp kind va).1<=63)∧inU (fB zs mode sum mxr satp kind va).2:=by
 unfold fB;split
 ·exact ⟨⟨by simp,by simp⟩,by simp [inU]⟩
 ·split
  ·exact ⟨⟨by simp,by simp⟩,hv⟩
  ·exact mM _ _ _ _ _ _
theorem rE (zs:List Int) (mode:Int) (sum mxr:Bool) (satp:Int) (k:KM) (kind va pick:Int) (hz:fh zs) (hk:kOk k) (hv:inU va):
 kOk (oe zs mode sum mxr satp k kind va pick).2∧(0<=(oe zs mode sum mxr satp k kind va pick).1.1∧(oe zs mode sum mxr satp k kind va pick).1.1<=63)∧inU (oe zs mode sum mxr satp k kind va pick).1.2:=by
 unfold oe;by_cases hb:bj k=false∨kind<0∨2<kind∨mode<0∨2<mode∨pick<0∨255<pick
 ·rw [if_pos hb];have h0:dX cQ:=⟨fun e he=>absurd he (by simp [cQ]),by simp [cQ],by simp [cQ],by simp [cQ]⟩;exact ⟨⟨h0,h0,h0⟩,⟨by simp,by simp⟩,by simp [inU]⟩
 ·rw [if_neg hb];have hg:bj k=true:=by
   cases hh:bj k
   ·exact absurd (.inl hh) hb
   ·rfl
  split
  ·exact ⟨hk,⟨by simp,by simp⟩,hv⟩
  ·split
   ·exact ⟨hk,mJ kind,by simp [inU]⟩
   ·split
    ·have:=rD (aX (du k kind) va (aB satp)).2.2.2 (aX (du k kind) va (aB satp)).2.2.1 mode sum mxr kind va;exact ⟨hk,this.1,this.2⟩
    ·simp only;have hgp:aF k.p true=true:=by simp only [bj,Bool.and_eq_true] at hg;exact hg.2
     obtain ⟨_,_,hl⟩:=qK zs satp va k.p (aB satp) hgp hk.2.2.1 hz;have ha:=mM (aE zs satp va (aX k.p va (aB satp))) mode sum mxr kind va;have hp:=uG va satp pick _ k.p hk.2.2 hl.recs;refine ⟨?_,ha.1,ha.2⟩;have ht:dX (du k kind):=by unfold du;split;exact hk.1;exact hk.2.1
     have hi:=pA pick ht (uF (aE zs satp va (aX k.p va (aB satp))).2.1 va satp (aE zs satp va (aX k.p va (aB satp))).2.2.1 hl.level hl.pte);split
     ·unfold qP;split
      ·exact ⟨hi,hk.2.1,hp⟩
      ·exact ⟨hk.1,hi,hp⟩
     ·exact ⟨hk.1,hk.2.1,hp⟩
theorem gJ {h:HartM} (hh:HOk h) (plain:Bool) {pick kind va:Int} (hp:0<=pick∧pick<=255) (hk:0<=kind∧kind<=2) (hv:inU va):
 HOk (withK h (aM plain pick h kind va).2)∧(0<=(aM plain pick h kind va).1.1∧(aM plain pick h kind va).1.1<=63)∧inU (aM plain pick h kind va).1.2:=by
 have v:=hh.v;cases plain
 ·have e:aM false pick h kind va=oe h.mem h.mode h.sum h.mxr h.satp h.k kind va pick:=rfl;rw [e];obtain ⟨t1,t2,t3⟩:=rE h.mem h.mode h.sum h.mxr h.satp h.k kind va pick hh.mem hh.ks hv;have tg:=oy h.mem h.mode h.sum h.mxr h.satp h.k kind va pick v.ks hk v.mode hp;refine ⟨⟨(cj _).2 ⟨v.size,v.regs,v.zero,v.mode,v.emode,v.satp,v.tvec,v.cause,tg⟩,hh.mem,hh.regs,hh.pc,hh.satp,hh.tvec,hh.epc,hh.tval,t1⟩,t2,t3⟩
 ·have e:aM true pick h kind va=(fB h.mem h.mode h.sum h.mxr h.satp kind va,h.k):=rfl;rw [e];have:=Hh h.mem h.mode h.sum h.mxr h.satp kind va hv;exact ⟨hh,this.1,this.2⟩
theorem Cv {r:RunM} (hr:ROk r) (plain:Bool) {pick kind va:Int} (hp:0<=pick∧pick<=255) (hk:0<=kind∧kind<=2) (hv:inU va):ROk (ed plain pick r kind va):=by
 refine ⟨(gJ hr.h plain hp hk hv).1,hr.cause,hr.tval,?_,hr.fva,hr.fas⟩;intro l hl;rcases List.mem_append.1 hl with hl | hl
 ·exact hr.looks l hl
 ·rw [List.mem_singleton] at hl;subst hl;exact ⟨hk,hv⟩
theorem fp {r:RunM} (hr:ROk r) {c t:Int} (hc:0<=c∧c<=63) (ht:inU t):ROk (cf r c t):=⟨hr.h,hc,ht,hr.looks,hr.fva,hr.fas⟩
def eg (ps:List be):Prop:=∀p∈ps,inU p.1∧(1<=p.2.1∧p.2.1<=8)∧inU p.2.2
theorem qi (va w:Int) (hv:inU va) (hw:1<=w∧w<=8):eg (nQ va w):=by
 unfold inU at hv;unfold nQ;split
 ·intro p hp;simp only [List.mem_cons,List.not_mem_nil,or_false] at hp;rcases hp with rfl | rfl
  ·exact ⟨hv,by simp only;omega,by simp [inU]⟩
  ·exact ⟨by simp only [inU];omega,by simp only;omega,by simp [inU]⟩
 ·intro p hp;simp only [List.mem_singleton] at hp;subst hp;exact ⟨hv,hw,by simp [inU]⟩
theorem dJ (plain:Bool) {pick kind:Int} (hp:0<=pick∧pick<=255) (hk:0<=kind∧kind<=2):∀(ps:List be) (r:RunM),ROk r->eg ps->ROk (ab plain pick kind r ps).1∧eg (ab plain pick kind r ps).2
 | [],r,hr,hs=>⟨hr,hs⟩
 | p::ps,r,hr,hs=>by
  have h1:=hs p (List.mem_cons_self ..);have hl:=Cv hr plain hp hk h1.1;have ht:=gJ hr.h plain hp hk h1.1;rw [ab];split
  ·have:=dJ plain hp hk ps _ hl (fun q hq=>hs q (List.mem_cons_of_mem _ hq));refine ⟨this.1,fun q hq=>?_⟩;rcases List.mem_cons.1 hq with rfl | hq
   ·exact ⟨h1.1,h1.2.1,ht.2.2⟩
   ·exact this.2 q hq
  ·exact ⟨fp hl ht.2.1 h1.1,hs⟩
theorem rF {mem:List Int}:∀{ps:List be} {v:Int},eZ mem ps=some v->∃p∈ps,p.1=v
 | p::ps,v,h=>by
  rw [eZ] at h;split at h
  ·obtain ⟨q,hq,e⟩:=rF h;exact ⟨q,List.mem_cons_of_mem _ hq,e⟩
  ·cases h;exact ⟨p,List.mem_cons_self ..,rfl⟩
theorem je (plain:Bool) {pick kind va w:Int} {r:RunM} (hp:0<=pick∧pick<=255) (hk:0<=kind∧kind<=2) (hv:inU va) (hw:1<=w∧w<=8) (hr:ROk r):ROk (az plain pick r kind va w).1∧eg (az plain pick r kind va w).2:=by
 have:=dJ plain hp hk (nQ va w) r hr (qi va w hv hw);unfold az;generalize ab plain pick kind r (nQ va w)=z at this |-;split
 ·split
  ·exact this
  ·rename_i v ho;obtain ⟨p,hp',e⟩:=rF ho;exact ⟨fp this.1 (mK kind) (by rw [<-e];exact (this.2 p hp').1),this.2⟩
 ·exact this
theorem xh {zs:List Int} (h:mI zs) (n:Nat) {x:Int} (hx:inU x):mI (zs.set n x):=by
 intro i;rw [List.getElem?_set];split
 ·split
  ·exact hx
  ·simp
 ·exact h i
theorem Ae {h:HartM} (hr:mI h.regs) (a:Int):inU (BS h a):=hr a.toNat
theorem eU {r:RunM} (hr:ROk r) (a:Int) {x:Int} (hx:inU x):ROk (cE r a x):=by
 have v:=hr.h.v;unfold cE;by_cases ha:0<a
 ·rw [if_pos ha];refine ⟨⟨(cj _).2 ⟨v.size,by simp [el,fy,v.regs],?_,v.mode,v.emode,v.satp,v.tvec,v.cause,v.ks⟩,hr.h.mem,xh hr.h.regs _ hx,hr.h.pc,hr.h.satp,hr.h.tvec,hr.h.epc,hr.h.tval,hr.h.ks⟩,hr.cause,hr.tval,hr.looks,hr.fva,hr.fas⟩;show (r.h.regs.set a.toNat x)[0]?.getD 0=0;rw [List.getElem?_set_ne (by omega)];exact v.zero
 ·rw [if_neg ha];exact hr
theorem yS {r:RunM} (hr:ROk r) {m:List Int} (hl:m.length=r.h.mem.length) (hm:fh m):ROk (el r (cL r.h m)):=by
 have v:=hr.h.v;exact ⟨⟨(cj _).2 ⟨by show df m.length=true;rw [hl];exact v.size,v.regs,v.zero,v.mode,v.emode,v.satp,v.tvec,v.cause,v.ks⟩,hm,hr.h.regs,hr.h.pc,hr.h.satp,hr.h.tvec,hr.h.epc,hr.h.tval,hr.h.ks⟩,hr.cause,hr.tval,hr.looks,hr.fva,hr.fas⟩
theorem Hi {zs ys:List Int} {k:Nat} (h:fh zs) (hy:∀y∈ys,0<=y∧y<=255):fh (put zs k ys):=by
 refine BU fun z hz=>?_;unfold put at hz;rw [List.append_assoc,List.mem_append,List.mem_append] at hz;rcases hz with hz | hz | hz
 ·exact gL h z (List.mem_of_mem_take hz)
 ·exact hy z hz
 ·exact gL h z (List.mem_of_mem_drop hz)
theorem rG {mem:List Int}:∀{ps:List be},eZ mem ps=none->∀p∈ps,fG mem.length p.2.2 p.2.1=true
 | p::ps,h,q,hq=>by
  rw [eZ] at h;split at h
  ·rcases List.mem_cons.1 hq with rfl | hq
   ·assumption
   ·exact rG h q hq
  ·cases h
theorem mN {plain:Bool} {pick kind va w:Int} {r:RunM} (h0:(az plain pick r kind va w).1.cause=0):∀p∈(az plain pick r kind va w).2,fG (az plain pick r kind va w).1.h.mem.length p.2.2 p.2.1=true:=by
 unfold az at h0 |-;generalize ab plain pick kind r (nQ va w)=z at h0 |-;by_cases hc:z.1.cause=0
 ·rw [if_pos hc] at h0 |-;cases ho:eZ z.1.h.mem z.2 with
  | none=>
   exact rG ho
  | some v=>
   rw [ho] at h0;exact absurd h0 (fX kind)
 ·rw [if_neg hc] at h0;exact absurd h0 hc
theorem tC:∀(ps:List be) (mem b:List Int),fh mem->(∀y∈b,0<=y∧y<=255)->(∀p∈ps,fG mem.length p.2.2 p.2.1=true)->eg ps->(jy mem ps b).length=mem.length∧fh (jy mem ps b)
 | [],mem,b,hm,hb,hi,hs=>⟨rfl,hm⟩
 | p::ps,mem,b,hm,hb,hi,hs=>by
  have h1:=hi p (List.mem_cons_self ..);have h2:=(hs p (List.mem_cons_self ..)).2;simp only [fG,decide_eq_true_eq] at h1;obtain ⟨h21,h22⟩:=h2;unfold inU at h22;have hl:(put mem p.2.2.toNat (b.take p.2.1.toNat)).length=mem.length:=uB mem _ _ (by rw [List.length_take];omega);rw [jy];have:=tC ps (put mem p.2.2.toNat (b.take p.2.1.toNat)) (b.drop p.2.1.toNat) (Hi hm fun y hy=>hb y (List.mem_of_mem_take hy)) (fun y hy=>hb y (List.mem_of_mem_drop hy)) (fun q hq=>by rw [hl];exact hi q (List.mem_cons_of_mem _ hq)) (fun q hq=>hs q (List.mem_cons_of_mem _ hq));rw [hl] at this;exact this
theorem ia {mem:List Int} (hm:fh mem):∀(ps:List be),∀z∈bH mem ps,0<=z∧z<=255
 | p::ps,z,hz=>by
  rw [bH,List.mem_append] at hz;rcases hz with hz | hz
  ·exact gL hm z (List.mem_of_mem_drop (List.mem_of_mem_take hz))
  ·exact ia hm ps z hz
def ma:List be->Int
 | []=>0
 | p::ps=>p.2.1+ma ps
theorem jA (mem:List Int):∀(ps:List be),eg ps->((bH mem ps).length:Int)<=ma ps
 | [],_=>by simp [bH,ma]
 | p::ps,h=>by
  have h1:=(h p (List.mem_cons_self ..)).2.1;have:=jA mem ps fun q hq=>h q (List.mem_cons_of_mem _ hq);rw [bH,ma,List.length_append,List.length_take];omega
theorem iI (plain:Bool) (pick kind:Int):∀(ps:List be) (r:RunM),ma (ab plain pick kind r ps).2=ma ps
 | [],r=>rfl
 | p::ps,r=>by
  rw [ab];split
  ·rw [ma,ma,iI plain pick kind ps _]
  ·rfl
theorem pj (plain:Bool) (pick kind va w:Int) (r:RunM):ma (az plain pick r kind va w).2=w:=by
 have hc:ma (nQ va w)=w:=by
  unfold nQ;split <;> simp only [ma] <;> omega
 have:=iI plain pick kind (nQ va w) r;unfold az;generalize ab plain pick kind r (nQ va w)=z at this |-;split
 ·split <;> (rw [this,hc])
 ·rw [this,hc]
theorem Il {mem:List Int} (hm:fh mem) {ps:List be} (hs:eg ps) (hl:ma ps<=8):inU (mf mem ps):=by
 have h1:=jA mem ps hs;have:=kS (bH mem ps) 8 (ia hm ps) (by omega);unfold mf inU;have e:(256:Int)^8=18446744073709551616:=by decide
 omega
theorem eB (x:Int):inU (x%18446744073709551616):=by unfold inU;omega
theorem mO {t:RunM × List be} (hr:ROk t.1) (hs:eg t.2) (hi:∀p∈t.2,fG t.1.h.mem.length p.2.2 p.2.1=true) (x:Int) (n:Nat):ROk (fm t (br x n)):=by
 have:=tC t.2 t.1.h.mem (br x n) hr.h.mem (dg n x) hi hs;exact yS hr this.1 this.2
theorem qj (c:Int) (hc:0<=c):1<=jY (c%4)∧jY (c%4)<=8:=by
 unfold jY;rcases (show c%4=0∨c%4=1∨c%4=2∨c%4=3 by omega) with h | h | h | h <;> rw [h] <;> decide
theorem Im (plain:Bool) {pick ea w a:Int} {r:RunM} (hp:0<=pick∧pick<=255) (hv:inU ea) (hw:1<=w∧w<=8) (hr:ROk r):ROk (eS plain pick r ea w a):=by
 obtain ⟨h1,h2⟩:=je plain hp (kind:=1) (by omega) hv hw hr;have h3:=pj plain pick 1 ea w r;unfold eS;generalize az plain pick r 1 ea w=z at h1 h2 h3 |-;split
 ·exact eU h1 a (Il h1.h.mem h2 (by omega))
 ·exact h1
theorem vu (plain:Bool) {pick ea w x:Int} {r:RunM} (hp:0<=pick∧pick<=255) (hv:inU ea) (hw:1<=w∧w<=8) (hr:ROk r):ROk (dE plain pick r ea w x):=by
 obtain ⟨h1,h2⟩:=je plain hp (kind:=2) (by omega) hv hw hr;have h4:=@mN plain pick 2 ea w r;unfold dE;generalize az plain pick r 2 ea w=z at h1 h2 h4 |-;split
 ·rename_i h0;exact mO h1 h2 (h4 h0) _ _
 ·exact h1
theorem yT (plain:Bool) {pick ea a x:Int} {r:RunM} (hp:0<=pick∧pick<=255) (hv:inU ea) (hr:ROk r):ROk (iH plain pick r ea a x):=by
 obtain ⟨h1,h2⟩:=je plain hp (kind:=2) (by omega) hv (w:=8) (by omega) hr;have h3:=pj plain pick 2 ea 8 r;have h4:=@mN plain pick 2 ea 8 r;unfold iH;generalize az plain pick r 2 ea 8=z at h1 h2 h3 h4 |-;split
 ·rename_i h0;exact eU (mO h1 h2 (h4 h0) _ _) a (Il h1.h.mem h2 (by omega))
 ·exact h1
theorem mQ {t:TlbM} {f:FenceM} (h:dX t):dX (eL t f):=by
 unfold eL;split
 ·refine ⟨fun e he=>?_,h.2.1,h.2.2.1,by simpa using h.2.2.2⟩;simp only [List.mem_map] at he;obtain ⟨y,hy,rfl⟩:=he;unfold gZ;split
  ·simp [BE,bC]
  ·exact h.1 y hy
 ·exact h
theorem Af (plain:Bool) {pick pc op a b c s word:Int} {r:RunM} (hp:0<=pick∧pick<=255) (hc:0<=c) (hw:inU word) (hr:ROk r):ROk (doM plain pick r pc op a b c s word):=by
 have v:=hr.h.v;have rg:=fun x=>Ae hr.h.regs x;have hea:inU (eaM r.h b s):=eB _;unfold doM;by_cases hi:cz op c r.h.mode=true
 ·rw [if_pos hi];exact fp hr (by omega) hw
 rw [if_neg hi];by_cases o1:op=1
 ·rw [if_pos o1];exact eU hr _ (eB _)
 rw [if_neg o1];by_cases o2:op=2
 ·rw [if_pos o2];exact eU hr _ (eB _)
 rw [if_neg o2];by_cases o3:op=3
 ·rw [if_pos o3];exact eU hr _ hea
 rw [if_neg o3];by_cases o4:op=4
 ·rw [if_pos o4];exact eU hr _ (eB _)
 rw [if_neg o4];by_cases o5:op=5
 ·rw [if_pos o5];exact Im plain hp hea (qj c hc) hr
 rw [if_neg o5];by_cases o6:op=6
 ·rw [if_pos o6];exact vu plain hp hea (qj c hc) hr
 rw [if_neg o6];by_cases o7:op=7
 ·rw [if_pos o7];exact yT plain hp hea hr
 rw [if_neg o7];by_cases o8:op=8
 ·rw [if_pos o8];split
  ·exact hr
  ·exact ⟨⟨(cj _).2 ⟨v.size,v.regs,v.zero,v.mode,v.emode,v.satp,v.tvec,v.cause,v.ks⟩,hr.h.mem,hr.h.regs,eB _,hr.h.satp,hr.h.tvec,hr.h.epc,hr.h.tval,hr.h.ks⟩,hr.cause,hr.tval,hr.looks,hr.fva,hr.fas⟩
 rw [if_neg o8];by_cases o9:op=9
 ·rw [if_pos o9];split
  ·rename_i hs;exact ⟨⟨(cj _).2 ⟨v.size,v.regs,v.zero,v.mode,v.emode,hs,v.tvec,v.cause,v.ks⟩,hr.h.mem,hr.h.regs,hr.h.pc,rg a,hr.h.tvec,hr.h.epc,hr.h.tval,hr.h.ks⟩,hr.cause,hr.tval,hr.looks,hr.fva,hr.fas⟩
  ·exact hr
 rw [if_neg o9];by_cases o10:op=10
 ·rw [if_pos o10];exact ⟨⟨(cj _).2 ⟨v.size,v.regs,v.zero,v.mode,v.emode,v.satp,v.tvec,v.cause,v.ks⟩,hr.h.mem,hr.h.regs,hr.h.pc,hr.h.satp,hr.h.tvec,hr.h.epc,hr.h.tval,hr.h.ks⟩,hr.cause,hr.tval,hr.looks,hr.fva,hr.fas⟩
 rw [if_neg o10];by_cases o11:op=11
 ·rw [if_pos o11];have rb:=rg b;have hfas:inU (iy r.h a b).asid:=by unfold inU at rb |-;show 0<=BS r.h b%65536∧BS r.h b%65536<=_;omega
  cases plain
  ·exact ⟨⟨(cj _).2 ⟨v.size,v.regs,v.zero,v.mode,v.emode,v.satp,v.tvec,v.cause,lR _ _ v.ks⟩,hr.h.mem,hr.h.regs,hr.h.pc,hr.h.satp,hr.h.tvec,hr.h.epc,hr.h.tval,mQ hr.h.ks.1,mQ hr.h.ks.2.1,mQ hr.h.ks.2.2⟩,hr.cause,hr.tval,hr.looks,rg a,hfas⟩
  ·exact ⟨hr.h,hr.cause,hr.tval,hr.looks,rg a,hfas⟩
 rw [if_neg o11];by_cases o12:op=12
 ·rw [if_pos o12];exact ⟨⟨(cj _).2 ⟨v.size,v.regs,v.zero,v.emode,v.emode,v.satp,v.tvec,v.cause,v.ks⟩,hr.h.mem,hr.h.regs,eB _,hr.h.satp,hr.h.tvec,hr.h.epc,hr.h.tval,hr.h.ks⟩,hr.cause,hr.tval,hr.looks,hr.fva,hr.fas⟩
 rw [if_neg o12];by_cases o13:op=13
 ·rw [if_pos o13];have hc2:c<=2:=by
   simp only [cz,Bool.or_eq_true,decide_eq_true_eq,not_or] at hi;omega
  exact ⟨⟨(cj _).2 ⟨v.size,v.regs,v.zero,v.mode,⟨hc,hc2⟩,v.satp,v.tvec,v.cause,v.ks⟩,hr.h.mem,hr.h.regs,hr.h.pc,hr.h.satp,hr.h.tvec,rg a,hr.h.tval,hr.h.ks⟩,hr.cause,hr.tval,hr.looks,hr.fva,hr.fas⟩
 rw [if_neg o13];have hmd:=v.mode;by_cases o14:op=14
 ·rw [if_pos o14];exact fp hr (by omega) (by simp [inU])
 rw [if_neg o14];exact fp hr (by omega) hw
theorem EG {r:RunM} (hr:ROk r):ROk (el r (dy r.h ((r.h.pc+4)%18446744073709551616))):=by
 have v:=hr.h.v;exact ⟨⟨(cj _).2 ⟨v.size,v.regs,v.zero,v.mode,v.emode,v.satp,v.tvec,v.cause,v.ks⟩,hr.h.mem,hr.h.regs,eB _,hr.h.satp,hr.h.tvec,hr.h.epc,hr.h.tval,hr.h.ks⟩,hr.cause,hr.tval,hr.looks,hr.fva,hr.fas⟩
theorem yU (plain:Bool) {pick x:Int} {r:RunM} (hp:0<=pick∧pick<=255) (hx:inU x) (hr:ROk r):ROk (CD plain pick r x):=by
 have hr':=EG hr;unfold CD kC;generalize el r (dy r.h ((r.h.pc+4)%18446744073709551616))=y at hr' |-;exact Af plain hp (by omega) hx hr'
theorem xn (plain:Bool) {pick:Int} {r:RunM} (hp:0<=pick∧pick<=255) (hr:ROk r):ROk (bU plain pick r):=by
 have ht:=gJ hr.h plain hp (kind:=0) (by omega) hr.h.pc;have hl:=Cv hr plain hp (kind:=0) (by omega) hr.h.pc;have hx:inU (fF plain pick r.h):=nj _ _ 4 (by omega) hr.h.mem;unfold bU;generalize ed plain pick r 0 r.h.pc=z at hl |-;split
 ·split
  ·split
   ·exact yU plain hp hx hl
   ·exact fp hl (by omega) hr.h.pc
  ·exact fp hl ht.2.1 hr.h.pc
 ·exact fp hr (by omega) hr.h.pc
theorem mR {t:TlbM} {n:Int} (h:dX t):dX (cu t n):=by
 refine ⟨fun e he=>?_,h.2.1,h.2.2.1,by simpa [cu] using h.2.2.2⟩;rcases List.mem_or_eq_of_mem_set he with he | rfl
 ·exact h.1 e he
 ·simp [BE,bC]
theorem kN (plain:Bool) (pick:Int) {h:HartM} (hh:HOk h):ROk (nZ plain pick h):=by
 have v:=hh.v;refine ⟨⟨(cj _).2 ⟨v.size,v.regs,v.zero,v.mode,v.emode,v.satp,v.tvec,v.cause,nY plain pick _ v.ks⟩,hh.mem,hh.regs,hh.pc,hh.satp,hh.tvec,hh.epc,hh.tval,?_⟩,⟨by simp [nZ],by simp [nZ]⟩,by simp [nZ,inU],fun l hl=>by simp [nZ] at hl,by simp [nZ,ul,inU],by simp [nZ,ul,inU]⟩;show kOk (dz plain pick h.k);unfold dz;split
 ·exact ⟨mR hh.ks.1,mR hh.ks.2.1,mR hh.ks.2.2⟩
 ·exact hh.ks
theorem mS (plain:Bool) {pick:Int} {h:HartM} (hp:0<=pick∧pick<=255) (hh:HOk h):ROk (aW plain pick h):=by
 have hb:=xn plain hp (kN plain pick hh);have v:=hh.v;have vb:=hb.h.v;unfold aW jz;generalize bU plain pick (nZ plain pick h)=z at hb vb |-;split
 ·exact hb
 ·exact ⟨⟨(cj _).2 ⟨v.size,v.regs,v.zero,by simp [el,vp],v.mode,v.satp,v.tvec,hb.cause,vb.ks⟩,hh.mem,hh.regs,hh.tvec,hh.satp,hh.tvec,hh.pc,hb.tval,hb.h.ks⟩,hb.cause,hb.tval,hb.looks,hb.fva,hb.fas⟩
section
attribute [local go_sem ↓] Go.wp_at_zero Go.wp_at_succ
def D9 (f:FenceM):Value:=.agg #[.bool f.hasVa,VU f.va,.bool f.hasAsid,VU f.asid]
theorem DP (f:FenceM) (level tag asid:Int) (glob:Bool) (w:World) (h0:0<=f.va) (h1:f.va<=18446744073709551615) (hl0:0<=level) (hl2:level<=2):
 Calls Tryz.prog 42 #[D9 f,VI level,VU tag,VU asid,.bool glob] w fun e w'=>e=.returned (.bool (By f level tag asid glob))∧Bw w w':=by
 obtain ⟨hv,va,ha,fa⟩:=f;simp only at h0 h1;unfold D9;simp only;have n1:=(Below.refl w.heap.size w).alloc nle (Obj.cells #[.bool hv,VU va,.bool ha,VU fa] 52);obtain ⟨cn,hcn⟩:∃cn,bY va=cn:=⟨_,rfl⟩;obtain ⟨tv,htv⟩:∃tv,cG va level=tv:=⟨_,rfl⟩;have HC:Hid (∀w:World,Calls Tryz.prog 35 #[VU va] w fun e w'=>e=.returned (.bool cn)∧∃n,w'=w.drewN n):=fun w=>by
  have:=Bi va w h0 h1;rw [hcn] at this;exact this
 have HT:Hid (∀w:World,Calls Tryz.prog 38 #[VU va,VI level] w fun e w'=>e=.returned (VU tv)∧∃n,w'=w.drewN n):=fun w=>by
  have:=Dk va level w h0 h1 hl0 hl2;rw [htv] at this;exact this
 obtain ⟨R,hR⟩:∃R,By ⟨hv,va,ha,fa⟩ level tag asid glob=R:=⟨_,rfl⟩;rw [hR];have HR:Hid (R=(!(hv && (!cn || tag != tv)) && (!ha || (!glob && asid == fa)))):=by
  show _=_;rw [<-hR,<-hcn,<-htv];rfl
 clear hR hcn htv;cases hv
 ·cases ha <;> cases glob;all_goals
   go_enter Tryz.func42,Tryz.ntmps42;go_wp2;go_ret;exact ⟨aR (by rw [HR.out];simp),n1⟩
 ·cases cn
  ·go_enter Tryz.func42,Tryz.ntmps42;go_wp2_with (go_at_call 35;refine (HC.out _).mono ?_;rintro e w' ⟨rfl,nq,rfl⟩);go_ret;exact ⟨aR (by rw [HR.out];simp),below_drewN n1 _⟩
  ·cases ht:(tag != tv)
   ·cases ha <;> cases glob;all_goals
     go_enter Tryz.func42,Tryz.ntmps42;go_wp2_with (first
      | (go_at_call 35;refine (HC.out _).mono ?_;rintro e w' ⟨rfl,nq,rfl⟩)
      | (go_at_call 38;refine (HT.out _).mono ?_;rintro e w' ⟨rfl,nr,rfl⟩))
     go_ret;exact ⟨aR (by rw [HR.out,ht];simp),below_drewN n1 (nq+nr)⟩
   ·go_enter Tryz.func42,Tryz.ntmps42;go_wp2_with (first
     | (go_at_call 35;refine (HC.out _).mono ?_;rintro e w' ⟨rfl,nq,rfl⟩)
     | (go_at_call 38;refine (HT.out _).mono ?_;rintro e w' ⟨rfl,nr,rfl⟩))
    go_ret;exact ⟨aR (by rw [HR.out,ht];simp),below_drewN n1 (nq+nr)⟩
end
end Go.Proofs.YthdgiakgepmabaaGreat
