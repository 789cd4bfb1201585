import Derived.Test.YtfgogedgolgnaaaHk07
namespace Go.Proofs.Ytfgogedgolgnaaa
open Go.RowKit
set_option linter.unusedVariables false
set_option maxHeartbeats 6400000
set_option maxRecDepth 20000
section
open Go.RowKit Go.Joins Go.ChangeShapes Go.WideShapes Go.ChangeAt
theorem iI:Try.prog.cellsOf 57=21:=by kernel_rfl
theorem ia {α:Type} {cs:Array α} (h:cs.size=21):∃c0 c1 c2 c3 c4 c5 c6 c7 c8 c9 c10 c11 c12 c13 c14 c15 c16 c17 c18 c19 c20,cs=#[c0,c1,c2,c3,c4,c5,c6,c7,c8,c9,c10,c11,c12,c13,c14,c15,c16,c17,c18,c19,c20]:=by
 obtain ⟨l⟩:=cs
 match l,h with
 | [c0,c1,c2,c3,c4,c5,c6,c7,c8,c9,c10,c11,c12,c13,c14,c15,c16,c17,c18,c19,c20],_=>exact ⟨c0,c1,c2,c3,c4,c5,c6,c7,c8,c9,c10,c11,c12,c13,c14,c15,c16,c17,c18,c19,c20,rfl⟩
section
variable {H:Type} {enc:TypeId × Value->H} {w:World} {base:Nat} {spare:Nat->Bool} {held:Bool} {fuel:Nat} {v:Value} {x:DataW H × List MemPlace}
theorem fC (h:DataW.trod enc Try.prog w base spare held fuel 52 [v]=some x):∃a cap zs,v=.slice a zs.length cap∧Byt w a zs.length zs∧zs.length<=cap∧(cap:Int)<=9223372036854775807:=by
 rcases open_ints Try.underlying52 Try.underlying5 (by kernel_rfl) h with ⟨hcs,_⟩ | ⟨a,len,cap,zs,hcs,_,hl,hm,hz,_,hcell,hwz⟩
 ·simp at hcs;subst hcs;exact ⟨none,0,[],rfl,⟨rfl,fun i=>by simp,.inl rfl⟩,Nat.le_refl _,by simp⟩
 ·simp at hcs;subst hcs;have hlz:len<=zs.length:=by rw [hz];split <;> omega
  have hlen:(zs.take len).length=len:=by rw [List.length_take];omega
  refine ⟨some a,cap,zs.take len,by rw [hlen],?_,by rw [hlen];exact hl,by unfold maxLen at hm;omega⟩;rw [hlen];refine ⟨hlen,fun i=>?_,?_⟩
  ·by_cases hi:i<len
   ·rw [List.getElem?_take_of_lt hi];have hi':i<zs.length:=by omega
    have:=bounds_u8 (hwz zs[i] (List.getElem_mem hi'));rw [List.getElem?_eq_getElem hi'];exact this
   ·rw [List.getElem?_eq_none (by rw [hlen];omega)];simp
  ·by_cases h0:len=0
   ·exact .inl h0
   ·obtain ⟨b,off,spot⟩:=a;have hc:=hcell 0 (by omega);have hspot:spot=none:=by simpa [Addr.add] using World.cell?_spot hc
    subst hspot;refine .inr ⟨b,off,rfl,?_,fun i hi=>?_⟩
    ·have hc0:w.cell? ⟨b,off,none⟩=some (.int .u8 (zs.getD 0 0)):=by simpa [Addr.add] using hc
     unfold World.cell? at hc0;split at hc0
     ·next he=>exact (Array.getElem?_eq_some_iff.1 he).1
     ·cases hc0
    ·have:=hcell i (by omega);rw [fv] at this;rw [this,List.getElem?_take_of_lt hi,List.getD_eq_getElem?_getD]
theorem gk (h:DataW.trod enc Try.prog w base spare held fuel 53 [v]=some x):∃a cap zs,v=.slice a zs.length cap∧RowC w a zs.length 1 (bv zs)∧zs.length<=cap∧(cap:Int)<=9223372036854775807:=by
 rcases open_ints Try.underlying53 Try.underlying33 (by kernel_rfl) h with ⟨hcs,_⟩ | ⟨a,len,cap,zs,hcs,_,hl,hm,hz,_,hcell,hwz⟩
 ·simp at hcs;subst hcs;exact ⟨none,0,[],rfl,RowC.nil _ _ _,Nat.le_refl _,by simp⟩
 ·simp at hcs;subst hcs;have hlz:len<=zs.length:=by rw [hz];split <;> omega
  have hlen:(zs.take len).length=len:=by rw [List.length_take];omega
  refine ⟨some a,cap,zs.take len,by rw [hlen],?_,by rw [hlen];exact hl,by unfold maxLen at hm;omega⟩;rw [hlen];refine ⟨by rw [dM,hlen];omega,?_⟩;by_cases h0:len=0
  ·exact .inl h0
  ·obtain ⟨b,off,spot⟩:=a;have hc:=hcell 0 (by omega);have hspot:spot=none:=by simpa [Addr.add] using World.cell?_spot hc
   subst hspot;refine .inr ⟨b,off,rfl,?_,fun i u hu=>?_⟩
   ·have hc0:w.cell? ⟨b,off,none⟩=some (.int .u64 (zs.getD 0 0)):=by simpa [Addr.add] using hc
    unfold World.cell? at hc0;split at hc0
    ·next he=>exact (Array.getElem?_eq_some_iff.1 he).1
    ·cases hc0
   ·have hi:i<len:=by
     have:=(List.getElem?_eq_some_iff.1 hu).1;rw [dM,hlen] at this;exact this
    have:=hcell i (by omega);rw [fv] at this;rw [this];rw [bv,List.getElem?_map,List.getElem?_take_of_lt hi,List.getElem?_eq_getElem (show i<zs.length by omega)] at hu;simp at hu;subst hu;simp [List.getD_eq_getElem?_getD,List.getElem?_eq_getElem (show i<zs.length by omega)]
end
theorem aZ {H:Type} {xs:List (DataW H × List MemPlace)} {i:Nat} (hl:xs.length=13) (hi:i<13):xs[i]?=some (xs[i]'(by omega)):=List.getElem?_eq_getElem (by omega)
set_option maxRecDepth 100000 in
theorem gn {H:Type} {enc:TypeId × Value->H} {w:World} {base b0:Nat} {spare:Nat->Bool} {held:Bool} {r:Reach} {v:Value} {d:DataW H} {p:List MemPlace}
 (hv:Value.okWide Try.prog w r b0 57 v) (h:DataW.Trod enc Try.prog w base spare held 57 v d p):
 ∃(q:PtrM) (h:HartM),v=.agg (ae q h)∧HartArg w q h∧((h.mem.length:Int)<=9223372036854775807∧(h.regs.length:Int)<=9223372036854775807∧(h.k.i.es.length:Int)<=9223372036854775807∧(h.k.d.es.length:Int)<=9223372036854775807∧(h.k.p.es.length:Int)<=9223372036854775807)∧(0<=h.satp∧h.satp<=18446744073709551615)∧0<=h.tvec:=by
 obtain ⟨cs,rfl,hsz⟩:=okWide_struct Try.underlying57 hv;obtain ⟨q0,q1,q2,q3,q4,q5,q6,q7,q8,q9,q10,q11,q12,q13,q14,q15,q16,q17,q18,q19,q20,rfl⟩:=ia (hsz.trans iI);obtain ⟨fuel,hf⟩:=h;obtain ⟨xs,n,_,_,_,hlen,hx⟩:=DataW.trod_struct Try.underlying57 hf;replace hlen:xs.length=13:=hlen;have h0:DataW.trod enc Try.prog w base spare held n 52 [q0]=_:=(hx 0 _ rfl).trans (aZ hlen (by omega));have h1:DataW.trod enc Try.prog w base spare held n 53 [q1]=_:=(hx 1 _ rfl).trans (aZ hlen (by omega));have h2:DataW.trod enc Try.prog w base spare held n 33 [q2]=_:=(hx 2 _ rfl).trans (aZ hlen (by omega));have h3:DataW.trod enc Try.prog w base spare held n 2 [q3]=_:=(hx 3 _ rfl).trans (aZ hlen (by omega));have h4:DataW.trod enc Try.prog w base spare held n 4 [q4]=_:=(hx 4 _ rfl).trans (aZ hlen (by omega));have h5:DataW.trod enc Try.prog w base spare held n 4 [q5]=_:=(hx 5 _ rfl).trans (aZ hlen (by omega));have h6:DataW.trod enc Try.prog w base spare held n 33 [q6]=_:=(hx 6 _ rfl).trans (aZ hlen (by omega));have h7:DataW.trod enc Try.prog w base spare held n 33 [q7]=_:=(hx 7 _ rfl).trans (aZ hlen (by omega));have h8:DataW.trod enc Try.prog w base spare held n 33 [q8]=_:=(hx 8 _ rfl).trans (aZ hlen (by omega));have h9:DataW.trod enc Try.prog w base spare held n 2 [q9]=_:=(hx 9 _ rfl).trans (aZ hlen (by omega));have h10:DataW.trod enc Try.prog w base spare held n 2 [q10]=_:=(hx 10 _ rfl).trans (aZ hlen (by omega));have h11:DataW.trod enc Try.prog w base spare held n 33 [q11]=_:=(hx 11 _ rfl).trans (aZ hlen (by omega));have h12:DataW.trod enc Try.prog w base spare held n 55 [q12,q13,q14,q15,q16,q17,q18,q19,q20]=_:=(hx 12 _ rfl).trans (aZ hlen (by omega));obtain ⟨a0,c0,zs,rfl,m1,m2,m3⟩:=fC h0;obtain ⟨a1,c1,ys,rfl,r1,r2,r3⟩:=gk h1;obtain ⟨i2,f2,_,w2⟩:=DataW.trod_int Try.underlying33 h2;obtain ⟨i3,f3,_,w3⟩:=DataW.trod_int Try.underlying2 h3;obtain ⟨i4,f4,_⟩:=DataW.trod_bool Try.underlying4 h4;obtain ⟨i5,f5,_⟩:=DataW.trod_bool Try.underlying4 h5;obtain ⟨i6,f6,_,w6⟩:=DataW.trod_int Try.underlying33 h6;obtain ⟨i7,f7,_,w7⟩:=DataW.trod_int Try.underlying33 h7;obtain ⟨i8,f8,_,w8⟩:=DataW.trod_int Try.underlying33 h8;obtain ⟨i9,f9,_,w9⟩:=DataW.trod_int Try.underlying2 h9;obtain ⟨i10,f10,_,w10⟩:=DataW.trod_int Try.underlying2 h10;obtain ⟨i11,f11,_,w11⟩:=DataW.trod_int Try.underlying33 h11;simp at f2 f3 f4 f5 f6 f7 f8 f9 f10 f11;subst f2 f3 f4 f5 f6 f7 f8 f9 f10 f11;obtain ⟨y0,y1,y2,n',_,_,t0,t1,t2⟩:=Go.Deep.trod_struct3 Try.underlying55 h12;have t0':DataW.trod enc Try.prog w base spare held n' 24 [q12,q13,q14]=some y0:=t0;have t1':DataW.trod enc Try.prog w base spare held n' 24 [q15,q16,q17]=some y1:=t1;have t2':DataW.trod enc Try.prog w base spare held n' 24 [q18,q19,q20]=some y2:=t2;obtain ⟨ti,b1,d1,e1,k1⟩:=cX t0';obtain ⟨td,b2,d2,e2,k2⟩:=cX t1';obtain ⟨tp,b3,d3,e3,k3⟩:=cX t2';simp only [List.cons.injEq,and_true] at e1 e2 e3;obtain ⟨rfl,rfl,rfl⟩:=e1;obtain ⟨rfl,rfl,rfl⟩:=e2;obtain ⟨rfl,rfl,rfl⟩:=e3;have l1:=k1.2.2.2.2;have l2:=k2.2.2.2.2;have l3:=k3.2.2.2.2;exact ⟨⟨a0,c0,a1,c1,b1,d1,b2,d2,b3,d3⟩,⟨zs,ys,i2,i3,i4,i5,i6,i7,i8,i9,i10,i11,⟨ti,td,tp⟩⟩,rfl,⟨m1,r1,k1,k2,k3⟩,⟨by show (zs.length:Int)<=_;omega,by show (ys.length:Int)<=_;omega,by show (ti.es.length:Int)<=_;omega,by show (td.es.length:Int)<=_;omega,by show (tp.es.length:Int)<=_;omega⟩,bounds_u64 w6,(bounds_u64 w7).1⟩
end
end Go.Proofs.Ytfgogedgolgnaaa
