import Derived.Test.YtnfeiginmngknaaGreatFZ14
namespace Go.Proofs.YtnfeiginmngknaaGreat
set_option maxRecDepth 100000
set_option linter.unusedVariables false
set_option linter.unusedSimpArgs false
open Go.ChangeShapes Go.WideShapes Go.ChangeAt Go.RowKit
def ko(m:za)(p g:Int):Int:=if(zA m g).pot>p then(zA m g).pot else p
def jp(m:za)(L:List Int):Int:=L.foldl (ko m) 0
theorem K9{m:za}{L:List Int}{k:Nat}(hk:k<L.length):jp m (L.take (k+1))=ko m (jp m (L.take k)) L[k]:=by
 unfold jp;rw[Xx,Xc hk,Wg];rfl
def QP(m:za)(op a b:Int):Int:=if op=22 then 1+(qg m.classes a).length else if op=23 then 1+a else jp m (qC m op a b)
abbrev cntV(N:Nat):Value:= .func (.func 132) #[] #[.pointer (some ⟨N,0,none⟩)]
theorem q3q(n:Nat)(A:Option Addr)(cap:Nat)(w:World):
  Calls Tryz.prog 100 #[.slice A n cap] w fun e w'=>e= .returned (cntV w.heap.size)/\w'=w.alloc (.cells #[.slice A n cap] 23):=by
 go_enter Tryz.func100,Tryz.ntmps100;go_wp2
 go_ret;simp_all
theorem q8s(cl:List zW){c:Int}(h:c<0):qg cl c=[]:=by
 unfold qg zz
 grind
theorem q5d{cl:List zW}{i:Nat}{c:zW}(h:cl[i]? =some c)(hs:c.sup<(i:Int)):qg cl (i:Int)=qg cl c.sup++c.fields:=by
 have e:(zy cl)[i]? =some c.sup:=by unfold zy;grind
 unfold qg;rw[show zz (zy cl) (i:Int)=(i:Int)::zz (zy cl) c.sup by
  unfold zz;rw[Xb (by omega),Xo,Dp e,Xb hs];rfl]
 rw[List.reverse_cons,Wa];congr 1;simp[ZM,h]
theorem q8t{cl:List zW}(h:∀c ∈cl,c.fields.length<=1000)(hn:cl.length<=1000)(c:Int):(qg cl c).length<=1000000:=by
 unfold qg
 grind [yU,pz,kE,List.length_reverse]
set_option maxHeartbeats 1600000 in
theorem Rz(cl:List zW)(c:Int)(N:Nat)(A:Option Addr)(cap B:Nat)(w:World)(hB:B<=w.heap.size)(h:zd vw 3 w B A cap cl)(hp:w.cell? ⟨N,0,none⟩=some (.slice A cl.length cap))
  (hs:Yy cl=true) (hf:∀x ∈cl,x.fields.length<=1000) (hn:cl.length<=1000) (h1:c<cl.length):
  Calls Tryz.prog 132 #[.int .i64 c,.pointer (some ⟨N,0,none⟩)] w fun e w'=>e= .returned (.int .i64 ((qg cl c).length:Int))/\w=w':=by
 have HL:=zH h;have HS:=zH hs;have HF:=zH (q8t hf hn);obtain⟨s,hs'⟩:∃s,(qg cl c).length=s:=⟨_,rfl⟩
 have hs1:s<=1000000:=by rw[<-hs'];exact HF.out c
 rw[hs'];have E:=zH hs';clear h hB hs hf hs';go_enter Tryz.func132,Tryz.ntmps132;go_wp2
 go_loop [0,4] (fun v u=>∃(d:Int) (j:Nat),v= .int .i64 d/\u= .int .i64 (j:Int)/\d<cl.length/\j<=s/\Hid (j+(qg cl d).length=s)) (fun v _=>(intOf v+1).toNat)
 case atStart=>grind
 case round=>
  obtain⟨d,j,rfl,rfl,hd,hj,HJ⟩:=hrel;by_cases h0:0<=d
  ·obtain⟨n,rfl⟩:=Xj h0;have hnl:n<cl.length:=by omega
   obtain⟨ad,rfl,hab,hc⟩:=HL.out.row.at_ hnl;have HG:=zH (Xc hnl);have HST:=zH (q5d HG.out (AQ HS.out HG.out));have hsu:=AQ HS.out HG.out;generalize cl[n]=x at*
   obtain⟨s0,⟨A1,k1,s1',ql9⟩,⟨A2,k2,s2,hs2⟩,sr⟩:=hc;have hfl:j+x.fields.length<=s:=by
    have:=HJ.out;rw[HST.out,Xh]at this;omega
   have HJ2:Hid ((j+x.fields.length)+(qg cl x.sup).length=s):=zH (by
    have:=HJ.out;rw[HST.out,Xh]at this;omega)
   clear ql9 hs2 HJ;go_wp2_with fail
   go_round
   case rel=>exact⟨x.sup,j+x.fields.length,rfl,by go_num,by omega,hfl,HJ2⟩
   case measure=>simp[intOf];omega
  ·have e:j=s:=by
    have:=HJ.out
    grind [q8s]
   subst e;go_wp2_with fail
   go_ret;simp_all
