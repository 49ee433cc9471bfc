import PyProof.Rows.All
import Wide.All
import OpenK.AllK
import Wide.FinOn
import PyProof.EqAt
import PyProof.EqKinds
import PyProof.NeKinds
import PyProof.TupleCall
import PyProof.EnumFor
import PyProof.EnumMake
import PyProof.CompFree
import PyProof.Rows.SumAny
import PyProof.Rows.Range3
import PyProof.CompUse
import KE.LcSums
import PyProof.ListRange
import PyProof.Rows.MinMaxN
import KE.KIntText
import PyProof.StrCalls2
import PyProof.StrBlockH
import PyProof.Rows.ZipForRows
import PyProof.Rows.SortRev
import KE.KRevSl
import KE.KMinKey
import PyProof.Rows.SetFrom
import PyProof.Rows.SeqMore2
import Lean
import PyProof.WalkInts
import KE.KLam
import KE.KNest
import PyProof.Rows.SortRuns
import KE.KSortKey
import PyProof.Conv_int_bool
import KE.KListMore
import PyProof.DictWalks
import KE.KSortTup
import KE.KDictList
import KE.KRevIter
import PyProof.SetKind
import PyProof.SetScanFacts
import PyProof.DictUpdate
import PyProof.Rows.TupAdd
import PyProof.Rows.SeqMore
import PyProof.FString
import PyProof.StrLawsTight
import PyProof.StrLawsChain
import PyProof.Draws
import PySem.Challenge.RW_nearenough_k69_whole_joined_alike
set_option bootstrap.genMatcherCode false
set_option genSizeOf false
open Option renaming some→Qs,none→Qn
open Bool renaming true→Qt,false→Qf
noncomputable section
open List.Perm renaming refl→OV,cons_inv→QK,cons→Ro,swap→Rp
open PySem.F renaming plainAttrs_list→OO,slot_list_append→O8,type_list_append→O9,plain_list_iadd→P7
open Classical renaming byContradiction→NY
open Int renaming toNat_of_nonneg→NN,le_of_lt→NR,mul_le_mul_of_nonneg_left→NZ,toNat_natCast→N7,eq_ofNat_of_zero_le→N9,fmod_nonneg_of_pos→Oj,le_refl→Om,fmod_lt_of_pos→OI,mul_le_mul_of_nonneg_right→OM,fdiv_eq_ediv_of_nonneg→O0,mul_left_comm→O3,lt_of_le_of_lt→Pa,mul_zero→Pb,mul_assoc→Qe,lt_trans→Qy,mul_comm→Qz,mul_nonneg→QG,add_assoc→QQ,le_trans→Q1,one_mul→Rj,add_zero→Si,mul_sub→S5,mul_pos→S6,mul_add→S7
open Array renaming getElem?_toList→NL,perm_iff_toList_perm→OZ,getElem?_eq_getElem→PY,toList→Qp,length_toList→QD,size_map→Rt
open PySem.NameKind renaming free→NK,cell→Ot
open PyProof.Rows renaming pendingOf→NH,arrOf→NV,wpS_bind→N0,SortSt→Ox,Keyed→Oy,wpS_pure→OH
open ForInStep renaming yield→NF,done→OC
open List.Sublist renaming refl→Np,append→N4
open Option.some renaming inj→Ni
open PySem.Value renaming ref→M7,none→Pw,type→P9,int→Rk,str→Rl,isStrOf→RG,bool→RH,isInt→SD,bytes→SE,float→SF
open Nat renaming le_refl→MZ,lt_of_lt_of_le→Nb,ne_of_lt→NC,lt_of_le_of_lt→ND,le_trans→NG,lt_succ_self→NP,gcd→NU,pow_le_pow_right→Oa,lt_irrefl→Oo,gcd_pos_of_pos_right→OK,zero_le→OU,zero_add→O4,le_of_lt→Px,ne_of_gt→Py,lt_succ_of_lt→P5,mul_div_cancel_left→P8,le_add_right→Qc,gcd_le_right→Qg,mul_comm→Qu,gcd_comm→QA,mul_le_mul_right→QB,mul_div_mul_left→QC,add_le_add_left→QE,mul_le_mul→QF,pow_le_pow_left→QH,le_succ→QI,lt_trans→QY,div_le_self→Rf,add_assoc→RM,le_of_eq→Sb,pow_succ→Sj,log2_lt→SM,gcd_rec→S4
open PySem.Heap renaming get?_push_of_some→MV,lt_size→Nf,get?_push_size→Nh,get?_update_other→Of,get?_update_self→Po,size_push→Pq
open Bool renaming false_ne_true→MU,and_eq_true→MX,and_eq_true_iff→Ng,false_eq_true→Nq,eq_iff_iff→NT,or_true→NW,false_or→Pe,or_eq_true→PR,and_true→Qb,true_or→Qv
open PySem renaming wpAny_bind→MT,Shared→M0,Value→M6,starEach→Na,wpAny_pure→Nc,sizeLine→Nn,Program→NA,FuncData→N8,Around→Ol,NameKind→Ou,World→OX,backTo→OY,Scope→QP,Keyword→QX,Addr→U1,Heap→U2,Expr→U3,Stmt→U4
open Option renaming bind_some→MP,map_some→Oe,isSome_some→QJ,isSome_map→QR,getD_some→Q0,none→SK
open PySem.W renaming Frag→MK,findIn→Nr,keepIn→N2,emptyDict→N6,mg_none_of→Ob,fnOf→Ov,instObj→OE,nsIn→OJ,plainGet→O7,hasDictIn→Pj,codeIn→Pr,plainGet_of→PF,makesIn→PJ,callWith_K→PV,lookIn→P1,methodObj→P2,plainOver→P4,cellsFrom_some→Qa,kat_cons→Qd,methodCall_KW→Qh,takerIn→Qj,isFn→Qq,handedIn→QW,OpenLaw→Q8,kat_yes→Ra,kat_lt→Rr,CodeHd→Rv,mg_of→RK,WalkO→RL,tabIn→RT
open List renaming mem_append_right→MI,mem_append_left→MJ,mem_append→ML,mem_cons_of_mem→MM,mem_cons_self→MN,mem_cons→MQ,getElem?_eq_getElem→MR,mem_singleton→MS,nodup_append→MW,length_map→MY,nodup_cons→M3,map_cons→M4,getD_eq_getElem?_getD→M5,replicate→M8,length_cons→M9,size_toArray→Nd,getElem?_map→Nj,map_map→Nk,length_append→Nl,getElem?_eq_some_iff→Nm,append_nil→Nt,zip_cons_cons→Nu,append_assoc→Nv,map_congr_left→Nw,getElem?_set_ne→Nx,mem_map→Ny,take_append_drop→Nz,lookup_cons→NB,range→NI,all_eq_true→NJ,nodup_nil→NM,drop_eq_getElem_cons→NO,all_cons→NQ,pairwise_cons→NS,getElem?_append_left→NX,mem_filter→N1,replicate_succ→N3,length_singleton→N5,getElem?_append_right→Oc,map_append→Od,not_mem_nil→Og,getElem_mem→Oh,filter_cons→Oi,find?_cons→Oq,getElem?_cons_succ→Ow,getElem?_set_self→Oz,any_cons→OA,getElem?_range→OB,mem_map_of_mem→OD,length_filter_le→OF,drop_length→OG,ext_getElem?→OL,range'→ON,length_eq_zero_iff→OP,pairwise_singleton→OQ,sublist_cons_self→OR,cons_append→OS,lookup→OT,flatten_cons→O1,sublist_append_right→O5,mem_range→O6,nil_append→Pc,length_nil→Pd,length_pos_of_mem→Pf,zipWith_cons_cons→Pg,take_of_length_le→Ph,reverse_cons→Pk,length_range→Pl,pairwise_map→Pm,getElem?_eq_none→Pp,map_id→Pu,mem_of_getElem?→Pz,pairwise_append→PB,filterMap_cons→PD,length_reverse→PH,length_set→PM,foldl_cons→PN,mem_filterMap→PU,pairwise_iff_getElem→PX,mem_of_find?_eq_some→PZ,filter_append→P0,getElem?_replicate→P6,length_replicate→Qi,of_mem_zip→Qk,length_zip→Qm,map_nil→Qr,mem_of_mem_drop→Qw,set_set→Qx,getElem?_drop→QL,find?_eq_none→QM,ne_nil_of_mem→QN,getElem?_set→QT,ext_getElem→QZ,zipWith→Q2,isEmpty_iff→Q3,take_length→Q4,map_set→Q5,map_reverse→Q6,find?_some→Rb,drop_drop→Rq,foldl→RI
open PySem PyProof.Rows
universe u0
abbrev Ql(α:Type u0):=List α
abbrev Qo(α:Type u0):=Option α
set_option Elab.async false
set_option linter.all false
set_option maxRecDepth 100000
universe u v
theorem S0{c:Prop}[d:Decidable c]{α:Type u}{x:Qo α}{b:α}(h:(if c then x else Qn)=Qs b):c/\x=Qs b:=by by_cases k:c<;>simp_all
theorem QO{c:Prop}[h:Decidable c](k:c){α:Sort u}{a b:α}:ite c a b=a:=if_pos k
theorem QU{c:Prop}[h:Decidable c](k:¬c){α:Sort u}{a b:α}:ite c a b=b:=if_neg k
theorem RC{p:Prop}[h:Decidable p](k:p):decide p=Qt:=decide_eq_true k
theorem Su{p:Prop}[h:Decidable p](k:¬p):decide p=Qf:=decide_eq_false k
abbrev Sv(x:Str):Prop:=(x=="__debug__")=Qf
abbrev Tj(x:Str):Prop:=(x=="__classdict__")=Qf
theorem SI{p:Prop}[h:Decidable p]:(decide p=Qt)=p:=decide_eq_true_eq
namespace L2
open PySem.Spec
abbrev aK:=Sum Int Str
def jX:aK->M6->Bool
 |.inl k,v=>SD k v
 |.inr x,v=>RG x v
def Ku(w:OX):aK->Int
 |.inl k=>hashInt k
 |.inr x=>hashStr w x
theorem iJ:∀{k:aK}{v:M6},jX k v=Qt->(∃i t,k=Sum.inl i/\v=Rk i t)\/(∃x t,k=Sum.inr x/\v=Rl x t)
 |.inl i,v,h=>by
  obtain⟨t,e⟩:=Value.isInt_shape (k:=i) (v:=v) h
  exact .inl ⟨i,t,rfl,e⟩
 |.inr x,v,h=>by
  obtain⟨t,e⟩:=Value.isStrOf_shape (x:=x) (v:=v) h
  exact .inr ⟨x,t,rfl,e⟩
theorem Kt(i:Int)(t:Tok):jX (.inl i) (.int i t)=Qt:=by simp[jX,SD]
theorem Ks(x:Str)(t:Tok):jX (.inr x) (.str x t)=Qt:=by simp[jX,RG]
theorem Kr(a b:Int):decide ((Sum.inl a:aK)=Sum.inl b)=(a == b):=by
 by_cases e:a=b
 .subst e;simp
 .have h : ¬ (Sum.inl a:aK)=Sum.inl b:=λq=>e (Sum.inl.inj q)
  rw[Su h]
  exact(beq_eq_false_iff_ne.mpr e).symm
theorem Kn(a b:Str):decide ((Sum.inr a:aK)=Sum.inr b)=decide (a=b):=by
 by_cases e:a=b
 .subst e;simp
 .have h : ¬ (Sum.inr a:aK)=Sum.inr b:=λq=>e (Sum.inr.inj q)
  rw[Su h,Su e]
theorem Kq(a:Int)(b:Str):decide ((Sum.inl a:aK)=Sum.inr b)=Qf:=Su (λq=>nomatch q)
theorem Ko(a:Str)(b:Int):decide ((Sum.inr a:aK)=Sum.inl b)=Qf:=Su (λq=>nomatch q)
noncomputable def fh(prog:NA)(w:OX):PySem.KeyKind prog w aK where
 is:=jX
 hash:=Ku w
 inj:=λv a b ha hb=>by
  rcases iJ ha with⟨i,t,rfl,rfl⟩ | ⟨x,t,rfl,rfl⟩
  .rcases iJ hb with⟨j,u,rfl,e⟩ | ⟨y,u,rfl,e⟩
   .injection e with e1 _;rw[e1]
   .exact nomatch e
  .rcases iJ hb with⟨j,u,rfl,e⟩ | ⟨y,u,rfl,e⟩
   .exact nomatch e
   .injection e with e1 _;rw[e1]
 byValue:=λk v h=>by
  rcases iJ h with⟨i,t,rfl,rfl⟩ | ⟨x,t,rfl,rfl⟩<;>rfl
 pyHash:=λhv h=>by
  rcases iJ hv with⟨i,t,rfl,rfl⟩ | ⟨x,t,rfl,rfl⟩
  .exact wpAny_pyHash_int h
  .exact wpAny_pyHash_str h
 eqBool:=λhu hv h=>by
  rcases iJ hu with⟨i,t,rfl,rfl⟩ | ⟨x,t,rfl,rfl⟩
  .rcases iJ hv with⟨j,u,rfl,rfl⟩ | ⟨y,u,rfl,rfl⟩
   .rw[Kr]at h;exact wpAny_eqBool_int h
   .rw[Kq]at h;exact SeqAt.EqAt.int_str i t y u _ _ _ _ h
  .rcases iJ hv with⟨j,u,rfl,rfl⟩ | ⟨y,u,rfl,rfl⟩
   .rw[Ko]at h;exact SeqAt.EqAt.str_int x t j u _ _ _ _ h
   .rw[Kn]at h;exact wpAny_eqBool_str h
 «strs»:=λk x t v h=>by
  rcases iJ h with⟨i,u,rfl,e⟩ | ⟨y,u,rfl,e⟩
  .exact nomatch e
  .injection e with e1 _
   subst e1
   cases v<;>rfl
theorem JO(prog:NA)(w:OX)(k:aK)(v:M6):(fh prog w).is k v=jX k v:=rfl
theorem JP(prog:NA)(w:OX)(i:Int)(t:Tok):(fh prog w).is (.inl i) (.int i t)=Qt:=Kt i t
theorem JN(prog:NA)(w:OX)(x:Str)(t:Tok):(fh prog w).is (.inr x) (.str x t)=Qt:=Ks x t
inductive V where
 |Ri | bl (b:Bool) |int (i:Int) |str (x:Str) |Uh (b:Array UInt8) |Yd (b:UInt64) |ref (a:U1) |ty (n:String)
 deriving DecidableEq
def RelV:V->M6->Prop
 |.Ri,u=>u=Pw
 |.bl b,u=>u=RH b
 |.int i,u => ∃t,u=Rk i t
 |.str x,u => ∃t,u=Rl x t
 |.Uh b,u => ∃t,u=SE b t
 |.Yd b,u => ∃t,u=SF b t
 |.ref a,u=>u=M7 a
 |.ty n,u=>u=P9 n
abbrev Vals:Ql V->Ql M6->Prop:=Paired RelV
theorem Vals.length{xs:Ql V}{us:Ql M6}(r:Vals xs us):xs.length=us.length:=Paired.length r
theorem Vals.get:∀{xs:Ql V}{us:Ql M6}{i:Nat}{x:V},Vals xs us->xs[i]?=Qs x->∃u,us[i]?=Qs u/\RelV x u
 |_,_,_,_,.nil,e=>by simp at e
 |_,_,0,_,.cons r _,e=>by simp at e;subst e;exact⟨_,rfl,r⟩
 |_,_,i+1,x,.cons _ t,e=>by
  obtain⟨u,h1,h2⟩:=Vals.get (i:=i) (x:=x) t (by simpa using e)
  exact⟨u,by simpa using h1,h2⟩
theorem Vals.set{x:V}{u:M6}(r:RelV x u):∀{xs:Ql V}{us:Ql M6} (i:Nat),Vals xs us->Vals (xs.set i x) (us.set i u)
 |_,_,_,.nil=>.nil
 |_,_,0,.cons _ t=>.cons r t
 |_,_,i+1,.cons q t=>.cons q (Vals.set r i t)
theorem Vals.append:∀{xs ys:Ql V}{us ws:Ql M6},Vals xs us->Vals ys ws->Vals (xs++ys) (us++ws)
 |_,_,_,_,.nil,s=>s
 |_,_,_,_,.cons r t,s=>.cons r (Vals.append t s)
def Ui:Qo V->Qo M6->Prop
 |some v,Qs u=>RelV v u
 |none,Qn=>True
 |_,_=>False
def KV{κ:Type}:Ql (κ×V)->Ql (κ×M6)->Prop:=Paired λ(p:κ×V) (q:κ×M6)=>p.1=q.1/\RelV p.2 q.2
def kV:aK->V
 |.inl i=>.int i
 |.inr x=>.str x
inductive HO where
 /-- a list -/
 |lst (xs:List V)
 /-- a tuple (never changes) -/
 |tup (xs:List V)
 /-- a dict zbD keys are ints and texts;one zbD keys are tuples of ints and texts (VF empty one is both) -/
 |dK (Rh:List (aK×V)) |dT (Rh:List (List aK×V))
 /-- a set of ints: Q7 members,Q7 size -/
 |set (S:Int->Bool) (n:Nat)
 /-- an instance of VF class at C,Q7 dict at dx,Q7 attributes -/
 |ins (C dx:U1) (fs:List (Str×V))
 /-- VF dict of VF instance at x -/
 |own (x:U1)
 /-- VF dict of an exception -/
 |xd (fs:List (Str×V))
 /-- a bound method,f of x -/
 |met (f x:U1)
 /-- a range object lo,lo+1,.. below hi -/
 |Yu (lo hi:Int)
 /-- a zbT zgb is known to VF object (VF zgd;a dict while a loop walks it): read,never written while it is so -/
 |SW (o:Obj) (u:HO)
 /-- a code zgg table -/
 |TX (q:Str)
 /-- any other zbT,by zbE is Qt of Q7 one object (a def of zgf own: zgw a S n:=HO.ext λh=>..) -/
 |ext (φ:U2->Prop)
abbrev Hp:=U1->Qo HO
def upd(H:Hp)(a:U1)(o:HO):Hp:=λb=>if b=a then Qs o else H b
theorem bF{H:Hp}{a:U1}{o:HO}:upd H a o a=Qs o:=by unfold upd;rw[QO rfl]
theorem aN{H:Hp}{a b:U1}{o:HO}(h:b≠a):upd H a o b=H b:=by unfold upd;rw[QU h]
theorem Ef{H:Hp}{a:U1}{o u:HO}:upd (upd H a o) a u=upd H a u:=by
 funext b;unfold upd;split<;>rfl
theorem sO{H:Hp}{a b:U1}{o u:HO}(h:H a=Qs o)(h':H b=Qs u)(d:o≠u):a≠b:=by
 intro e;subst e;rw[h]at h';exact d (Ni h')
theorem me{H:Hp}{a b:U1}{o:HO}(h:H a=Qs o)(h':H b=Qn):a≠b:=by
 intro e;subst e;rw[h]at h';cases h'
section
variable (P:NA)(w:OX)
noncomputable def SJ(H:Hp)(h:U2)(a:U1):HO->Prop
 |.lst xs=>xs.length<=Nn/\∃(Q7:Ql M6) (n:Nat),Vals xs Q7/\h.get? a=Qs { cls:=.type "list",data:=.seq Q7.toArray n }
 |.tup xs=>xs.length<=Nn/\∃Q7:Ql M6,Vals xs Q7/\IsTup h a Q7.toArray
 |.dK Rh=>Rh.length<=Nn/\(a == sysModules)=Qf/\∃vs,KV Rh vs/\h.DictOf (fh P w) a vs
 |.dT Rh=>Rh.length<=Nn/\(a == sysModules)=Qf/\∃xs:Ql (Ql aK×U1×M6),
   Paired (λ(p:Ql aK×V) (q:Ql aK×U1×M6)=>p.1=q.1/\H q.2.1=Qs (.tup (p.1.map kV))/\RelV p.2 q.2.2) Rh xs /\
   ∃o es ep,h.get? a=Qs o/\o.ExactDict/\o.data=.dict es ep/\es.toList=xs.map (entryOfKey (tupleKind (fh P w)))/\(xs.map (·.1)).Nodup
 |.set S n=>h.SetOf (intKind P w) a S n
 |.ins C dx fs=>H dx=Qs (.own a)/\fs.length<=1000/\dx≠a/\h.get? a=Qs (OE C dx) /\
   ∃mA,h.Ns1 dx mA/\(∀f,Ui (fs.lookup f) (mA f))/\PySem.Within mA (fs.map (·.1))
 |.own _ => ∃o,h.get? a=Qs o
 |.xd fs => ∃mA,h.Ns1 a mA/\∀f,Ui (fs.lookup f) (mA f)
 |.Yu lo hi => ∃t u v,h.get? a=Qs { cls:=.type "range",data:=.fields #[.int lo t,.int hi u,.int 1 v] }
 |.SW o u=>h.get? a=Qs o/\SJ H h a u
 |.TX q => ∃ps:Array M6,h.get? a=Qs { cls:=.none,data:=.fields ps }/\TriplesOk ps.toList/\∀pos cv,codeAmong pos ps.toList=Qs cv->∃(c:U1) (oc:Obj) (vs:Array M6) (tk:Tok),cv=.ref c/\H c=Qs (.SW oc (.own 0))/\oc.data=.fields vs/\vs[1]?=Qs (.str q tk)
 |.met f x=>h.get? a=Qs (P2 (.ref f) (.ref x))
 |.ext φ=>φ h/\(∃o,h.get? a=Qs o)/\∀h1 h2:U2,φ h1->(∀o,h1.get? a=Qs o->h2.get? a=Qs o)->φ h2
def SA(H:Hp)(h:U2):Prop := ∀a o,H a=Qs o->SJ P w H h a o
end
section
variable {P:NA}{w:OX}{H H':Hp}{h h':U2}{a:U1}{o:HO}
theorem SJ.lt(x:SJ P w H h a o):a<h.objs.size:=by
 cases o with
 |lst xs=>obtain⟨_,_,_,_,e⟩:=x;exact Nf e
 |tup xs=>obtain⟨_,_,_,p⟩:=x;exact p.lt
 |dK Rh=>obtain⟨_,_,_,_,o,_,_,e,_⟩:=x;exact Nf e
 |dT Rh=>obtain⟨_,_,_,_,o,_,_,e,_⟩:=x;exact Nf e
 |set S n=>obtain⟨o,_,_,_,e,_⟩:=x;exact Nf e
 |ins C dx fs=>obtain⟨_,_,_,e,_⟩:=x;exact Nf e
 |own y=>obtain⟨_,e⟩:=x;exact Nf e
 |xd fs=>obtain⟨_,⟨_,_,_,e,_⟩,_⟩:=x;exact Nf e
 |Yu lo hi=>obtain⟨_,_,_,e⟩:=x;exact Nf e
 |SW ob u=>obtain⟨e,_⟩:=x;exact Nf e
 |TX q=>obtain⟨_,e,_⟩:=x;exact Nf e
 |met f y=>exact Nf (show h.get? a=Qs _ from x)
 |ext φ=>obtain⟨_,⟨_,e⟩,_⟩:=x;exact Nf e
theorem Paired.YJ{α β:Type}{F G:α->β->Prop}:∀{l₁:Ql α}{l₂:Ql β},Paired F l₁ l₂->(∀a b,F a b->G a b)->Paired G l₁ l₂
 |_,_,.nil,_=>.nil
 |_,_,.cons r t,f=>.cons (f _ _ r) (Paired.YJ t f)
theorem SJ.Vj(x:SJ P w H h a o)(k:∀b u,(b=a\/H b=Qs (.own a))->h.get? b=Qs u->h'.get? b=Qs u)
  (ho:∀b,H b=Qs (.own a)->H' b=Qs (.own a)) (ht:∀b xs,H b=Qs (.tup xs)->H' b=Qs (.tup xs)) (hz:∀b o u,H b=Qs (.SW o u)->H' b=Qs (.SW o u)):SJ P w H' h' a o:=by
 induction o with
 |lst xs=>obtain⟨z,Q7,n,r,e⟩:=x;exact⟨z,Q7,n,r,k _ _ (.inl rfl) e⟩
 |tup xs=>obtain⟨z,Q7,r,ob,e,c⟩:=x;exact⟨z,Q7,r,ob,k _ _ (.inl rfl) e,c⟩
 |dK Rh=>obtain⟨z,y,vs,r,ob,es,ep,e,c⟩:=x;exact⟨z,y,vs,r,ob,es,ep,k _ _ (.inl rfl) e,c⟩
 |dT Rh =>
  obtain⟨z,y,xs,r,ob,es,ep,e,c⟩:=x
  exact⟨z,y,xs,Paired.YJ r λp q z=>⟨z.1,ht _ _ z.2.1,z.2.2⟩,ob,es,ep,k _ _ (.inl rfl) e,c⟩
 |set S n=>obtain⟨ob,es,ep,t,e,c⟩:=x;exact⟨ob,es,ep,t,k _ _ (.inl rfl) e,c⟩
 |ins C dx fs =>
  obtain⟨d,z,ne,e,mA,⟨od,es,ep,e2,c⟩,r⟩:=x
  exact⟨ho _ d,z,ne,k _ _ (.inl rfl) e,mA,⟨od,es,ep,k _ _ (.inr d) e2,c⟩,r⟩
 |own y=>obtain⟨ob,e⟩:=x;exact⟨ob,k _ _ (.inl rfl) e⟩
 |xd fs=>obtain⟨mA,⟨od,es,ep,e,c⟩,r⟩:=x;exact⟨mA,⟨od,es,ep,k _ _ (.inl rfl) e,c⟩,r⟩
 |Yu lo hi=>obtain⟨t,u,v,e⟩:=x;exact⟨t,u,v,k _ _ (.inl rfl) e⟩
 |SW ob u ih=>obtain⟨e,q⟩:=x;exact⟨k _ _ (.inl rfl) e,ih q⟩
 |TX q=>obtain⟨ps,e,t,r⟩:=x;exact⟨ps,k _ _ (.inl rfl) e,t,λpos cv z=>let ⟨c,oc,vs,tk,a1,a2,a3⟩:=r pos cv z;⟨c,oc,vs,tk,a1,hz _ _ _ a2,a3⟩⟩
 |met f y =>
  have e:h.get? a=Qs (P2 (.ref f) (.ref y)):=x
  show h'.get? a=Qs (P2 (.ref f) (.ref y))
  exact k a _ (.inl rfl) e
 |ext φ=>obtain⟨p,⟨o,e⟩,st⟩:=x;exact⟨st _ _ p λo q=>k _ _ (.inl rfl) q,⟨o,k _ _ (.inl rfl) e⟩,st⟩
theorem SA.lt(x:SA P w H h)(e:H a=Qs o):a<h.objs.size:=(x a o e).lt
theorem SA.fresh(x:SA P w H h)(e:h.objs.size<=a):H a=Qn:=by
 cases q:H a with
 |none=>rfl
 |some u=>exact absurd (Nb (x.lt q) e) (Oo _)
theorem SA.kept(x:SA P w H h)(k:∀b u,h.get? b=Qs u->h'.get? b=Qs u):SA P w H h':=λa o e =>
 (x a o e).Vj (λb u _ q=>k b u q) (λ_ q=>q) (λ_ _ q=>q) λ_ _ _ q=>q
theorem SA.laid(x:SA P w H h)(k:∀b u,h.get? b=Qs u->h'.get? b=Qs u)(hp:h.objs.size<=a)(new:SJ P w (upd H a o) h' a o):SA P w (upd H a o) h':=λb u e=>by
 have hn:=x.fresh hp
 by_cases hb:b=a
 .subst hb;rw[bF]at e;cases e;exact new
 .rw[aN hb]at e
  exact(x b u e).Vj (λc v _ q=>k c v q) (λc q=>by rw[aN (me q hn)];exact q) (λc xs q=>by rw[aN (me q hn)];exact q) λc o u q=>by rw[aN (me q hn)];exact q
end
def Rd(H:Hp)(a:U1)(u:HO):Prop:=H a=Qs u\/∃o,H a=Qs (.SW o u)
theorem Rd.ok{P:NA}{w:OX}{H:Hp}{h:U2}{a:U1}{u:HO}(r:Rd H a u)(x:SA P w H h):SJ P w H h a u:=by
 rcases r with r | ⟨o,r⟩
 .exact x a u r
 .obtain⟨_,q⟩:=x a _ r
  exact q
def pQ:Qo HO->Prop
 |some (.lst _)=>True
 |some (.dK _)=>True
 |some (.dT _)=>True
 |some (.set _ _)=>True
 |some (.ins _ _ _)=>True
 |some (.ext _)=>True
 |_=>False
section
variable {P:NA}{w:OX}{H:Hp}{h h':U2}{x e:U1}{o':HO}
theorem SA.write(ok:SA P w H h)(mu:pQ (H x))(he:e=x\/H e=Qs (.own x))(k:∀b u,b≠e->h.get? b=Qs u->h'.get? b=Qs u)(VR:∃u,h'.get? e=Qs u)
  (new:SJ P w (upd H x o') h' x o'):SA P w (upd H x o') h':=λb u q=>by
 have zad:∀c y,H c=Qs (.own y)->c≠x:=λc y r z=>by subst z;rw[r]at mu;exact mu
 have zct:∀c xs,H c=Qs (.tup xs)->c≠x:=λc xs r z=>by subst z;rw[r]at mu;exact mu
 by_cases hb:b=x
 .subst hb;rw[bF]at q;cases q;exact new
 .rw[aN hb]at q
  by_cases Wj:b=e
  .have q':H b=Qs (.own x):=by
    rcases he with z | z
    .exact absurd (Wj.trans z) hb
    .rw[Wj];exact z
   rw[q]at q';cases q'
   obtain⟨v,hv⟩:=VR
   exact⟨v,by rw[Wj];exact hv⟩
  .refine(ok b u q).Vj (λc v hc r=>k c v ?_ r) (λc r=>by rw[aN (zad c b r)];exact r) (λc xs r=>by rw[aN (zct c xs r)];exact r) λc o u r=>by rw[aN (λz=>by subst z;rw[r]at mu;exact mu)];exact r
   rcases hc with rfl | hc
   .exact Wj
   .rintro rfl
    rcases he with z | z
    .exact zad c b hc z
    .rw[hc]at z;cases z;exact hb rfl
end
structure Un(fs ex:List U1)(H H':Hp)(h h':U2):Prop where
 keep:∀b o,h.get? b=Qs o->H b=Qn->b∉fs->b∉ex->h'.get? b=Qs o
 slot:∀b o,h.get? b=Qs o->H b=Qn->b∈fs->b∉ex->∃sl,h'.get? b=Qs { o with slots:=sl }
 free:∀b o,h.get? b=Qs o->H b=Qn->b∉ex->H' b=Qn
 there:∀b o,h.get? b=Qs o->b∉ex->∃o',h'.get? b=Qs o'
 Vg:∀b xs,H b=Qs (.tup xs)->H' b=Qs (.tup xs)
 Vb:∀b o u,H b=Qs (.SW o u)->H' b=Qs (.SW o u)
 Uk:∀b q,H b=Qs (.TX q)->H' b=Qs (.TX q)
section
variable {fs WQ ex ex':Ql U1}{H H1 H2:Hp}{h h1 h2 h':U2}{a x e:U1}{o:HO}
theorem Un.any(u:Un fs ex H H1 h h1){b:U1}{ob:Obj}(q:h.get? b=Qs ob)(n:H b=Qn)(hx:b∉ex):∃sl,h1.get? b=Qs { ob with slots:=sl }:=by
 by_cases hb:b∈fs
 .exact u.slot b ob q n hb hx
 .exact⟨ob.slots,u.keep b ob q n hb hx⟩
theorem Un.kept(k:∀b u,h.get? b=Qs u->h'.get? b=Qs u):Un fs ex H H h h' :=
 ⟨λb ob q _ _ _=>k b ob q,λb ob q _ _ _=>⟨ob.slots,k b ob q⟩,λ_ _ _ n _=>n,λb ob q _=>⟨ob,k b ob q⟩,λ_ _ q=>q,λ_ _ _ q=>q,λ_ _ q=>q⟩
theorem Un.refl:Un fs ex H H h h:=Un.kept λ_ _ q=>q
theorem Un.laid(k:∀b u,h.get? b=Qs u->h'.get? b=Qs u)(hp:h.objs.size<=a)(hn:H a=Qn):Un fs ex H (upd H a o) h h' where
 keep:=λb u q _ _ _=>k b u q
 slot:=λb u q _ _ _=>⟨u.slots,k b u q⟩
 free:=λb u q n _=>by rw[aN (NC (Nb (Nf q) hp))];exact n
 there:=λb u q _=>⟨u,k b u q⟩
 Vg:=λb xs q=>by rw[aN (me q hn)];exact q
 Vb:=λb u xs q=>by rw[aN (me q hn)];exact q
 Uk:=λb ps q=>by rw[aN (me q hn)];exact q
theorem Un.write(mu:pQ (H x))(he:e=x\/H e=Qs (.own x))(k:∀b u,b≠e->h.get? b=Qs u->h'.get? b=Qs u)(VR:∃u,h'.get? e=Qs u):Un fs ex H (upd H x o) h h':=by
 have hx:∀b,H b=Qn->b≠x:=λb n z=>by subst z;rw[n]at mu;exact mu
 have hb:∀b,H b=Qn->b≠e:=λb n z=>by
  subst z
  rcases he with r | r
  .exact hx b n r
  .rw[n]at r;cases r
 have hm:∀b u,H b=Qs u -> ¬ pQ (Qs u)->b≠x:=λb u q nm z=>by subst z;rw[q]at mu;exact nm mu
 refine⟨λb u q n _ _=>k b u (hb b n) q,λb u q n _ _=>⟨u.slots,k b u (hb b n) q⟩,λb u q n _=>by rw[aN (hx b n)];exact n,λb u q _=>?_,
  λb xs q=>by rw[aN (hm b _ q λz=>z)];exact q,λb u xs q=>by rw[aN (hm b _ q λz=>z)];exact q,λb ps q=>by rw[aN (hm b _ q λz=>z)];exact q⟩
 by_cases Wj:b=e
 .subst Wj;exact VR
 .exact⟨u,k b u Wj q⟩
end
def qD(h:U2)(H:Hp):Ql U1:=(NI h.objs.size).filter λa=>(H a).isSome
def iM(h:U2)(H:Hp):U2:=PySem.W.hideAll h (qD h H)
theorem K6(h:U2)(H:Hp):(iM h H).objs.size=h.objs.size:=PySem.W.hideAll_size _ _
theorem tS{h:U2}{H:Hp}{b:U1}{o:Obj}(e:h.get? b=Qs o)(n:H b=Qn):(iM h H).get? b=Qs o :=
 PySem.W.hideAll_get _ e λhm=>by
  have q:(H b).isSome=Qt:=(N1.mp hm).2
  rw[n]at q;simp at q
theorem Jh{h:U2}{H:Hp}{b:U1}{o:Obj}(e:(iM h H).get? b=Qs o):h.get? b=Qs o/\H b=Qn:=by
 have e':h.get? b=Qs o:=PySem.W.of_hideAll (qD h H) e
 refine⟨e',?_⟩
 cases q:H b with
 |none=>rfl
 |some x =>
  have hm:b∈qD h H:=N1.mpr ⟨O6.mpr (Nf e'),by simp[q]⟩
  have z:(iM h H).get? b=Qn:=PySem.W.hideAll_none (qD h H) hm
  rw[z]at e;cases e
def Mw(g h:U2)(L:U1):Ql (U1×Obj):=(NI h.objs.size).filterMap λa=>if a=L\/(g.get? a).isSome=Qt then Qn else(h.get? a).map λo=>(a,o)
def rest(g h:U2)(L d:U1):Ql (U1×Obj):=(Mw g h L).filter λp=>decide (p.1≠d)
end L2
variable{H:L2.Hp}{K:MK}{F:Ql U1}{pos:Pos}{a:U3}{b:U3}{c:U3}{es:Ql U3}{s:M0}{x:Str}{st:U4}{A:Ql U1}{i:Nat}{tg:U3}{H':L2.Hp}{w:OX}{E:M6->M0->Prop}{v:L2.V}{n:Nat}{H0:L2.Hp}{o:U3}{pins:Ql (U1×Obj)}{p:U1}{f:Str}{P:NA}{H1:L2.Hp}{B:Ql U1}{h:U2}{j:Nat}{I:Ql Nat}{u:M6}{M:Model}{prog:NA}{e:U3}{m:Str}{κ:Oy->Int}{π:Oy->Int}{scope:QP}{a₀:Array Oy}{fd:N8}{h':U2}{kd:SortKind}{vs:Ql L2.V}{qual:Str}{xs:Ql L2.V}{ps:Ql Str}{p0:Pos}{lo:Nat}{N:Ql Str}{iter:U3}{p1:Pos}{t':Nat}{y:L2.V}{H2:L2.Hp}{p2:Pos}{apos:Pos}{ifs:Ql U3}{XW:Ql U4}{us:Ql M6}{elt:U3}{body:Ql U4}{cap:Ql Nat}{N':Ql Str}{pos':Pos}{Tn:Pos}{dx:U1}{pl:Sem Bool}{ns:Ql Str}{l:U1}{R6:Pos}{is:Ql Int}{py:Pos}{Q7:Ql M6}{A1:Ql U1}{zs:Array Oy}{op:Operator}{env:Env}{name:Str}{ys:Ql L2.V}{ks:Ql L2.aK}{A':Ql U1}{ws:Ql L2.V}{nr:Nat}{SY:Ox}{ep:Nat}
namespace L2
open PySem.Spec
structure TL extends U2 where
 tabs:List (U1×Str)
instance:Coe TL U2:=⟨TL.toHeap⟩
structure Mod(K:MK)(mg:Str->Option M6)(base:TL):Prop where
 Xl:K.In base
 glob:base.Ns mainGlobals mg
 blt:∃mb,base.Ns builtinsNs mb/\∀x:Str,x≠"__name__"->mb x=bootBuiltins x
 nolimit:base.NoLimit
 bm:∃(bm:U1) (ob:Obj),mg "__builtins__"=Qs (.ref bm)/\bm≠builtinsNs/\base.get? bm=Qs ob/\ob.cls=.type "module"/\ob.dict=Qs builtinsNs/\ob.data=.plain
structure Cx where
 prog:NA
 w:OX
 K:MK
 mg:Str->Option M6
 base:TL
 A:Ol
 N:List Str
 s₀:M0
 H₀:Hp
 env:Env
 outer:List Env
 stack:List Env
 ex:List U1
 fn:Str->Bool
 calm:Bool
 pn:List (U1×Obj)
 xe:M6->M0->Prop
def gP(l:Ql Env):Ql U1:=l.filterMap (·.frame)
abbrev Cx.fs(X:Cx):Ql U1:=gP X.outer
def dh(sc:QP)(x:Str):Prop:=sc.names.lookup x=Qs .local\/sc.names.lookup x=Qs .cell\/sc.names.lookup x=Qs .free
def Loc(sc:QP)(x:Str):Prop:=sc.names.lookup x=Qs .local\/sc.names.lookup x=Qs .cell
def MA(env:Env)(h:U2)(m:Str->Qo M6)(x:Str)(u:M6):Prop :=
 (env.kindOf x=Qs .local/\m x=Qs u)\/((env.kindOf x=Qs .cell\/env.kindOf x=Qs .free)/\∃c,env.cells.lookup x=Qs c/\h.IsCell c (Qs u))
structure Cx.Ok(X:Cx):Prop where
 mod:Mod X.K X.mg X.base
 kind:X.env.scope.kind=.function
 glob:X.env.globals=mainGlobals
 blt:X.env.builtins=builtinsNs
 above:X.s₀.heap.objs.size<=X.env.locals
 inj:∀x y c,X.env.cells.lookup x=Qs c->X.env.cells.lookup y=Qs c->x=y
 has:∀x,(X.env.kindOf x=Qs .cell\/X.env.kindOf x=Qs .free)->∃c,X.env.cells.lookup x=Qs c
 WX:∀x c,X.fn x=Qt->X.env.cells.lookup x=Qs c->X.s₀.heap.objs.size<=c
 hd:X.calm=Qt->X.A.handled=Qn
 frames:X.A.frames=Qs X.stack
 Xa:X.stack=X.outer\/(X.stack=X.env::X.outer/\X.env.frame=Qs X.env.locals)
 Zi:∀b∈X.ex,b≠X.env.locals/\∀x c,X.env.cells.lookup x=Qs c->c≠b
 bs:∀b o,X.base.get? b=Qs o->X.s₀.heap.get? b=Qs o/\X.H₀ b=Qn
 Ve:X.base.objs.size<=X.s₀.heap.objs.size
 WJ:∀b o,X.base.get? b=Qs o->b∉X.ex
 Xz:∀b∈X.ex,b∉X.fs
 Ur:X.s₀.heap.FunFrames X.base X.outer
 VU:∀b∈X.fs,X.H₀ b=Qn
 tabs:∀p∈X.base.tabs,X.H₀ p.1=Qs (.TX p.2)
structure Inv(X:Cx)(pins:List (U1×Obj))(σ:List (Option V))(H:Hp)(s:M0):Prop where
 ok:X.Ok
 os:s.os=X.s₀.os
 bare:AllBare s.gens
 base:Un X.fs X.ex X.H₀ H X.s₀.heap s.heap
 loc:∃m,s.heap.Ns X.env.locals m/\∀(i:Nat) (x:Str) (v:V),X.N[i]?=Qs x->σ[i]?=Qs (Qs v)->dh X.env.scope x->∃u,RelV v u/\MA X.env s.heap m x u
 cell:∀x c,X.env.cells.lookup x=Qs c->∃v,s.heap.IsCell c v
 free:H X.env.locals=Qn
 UU:∀x c,X.env.cells.lookup x=Qs c->H c=Qn
 pin:∀p∈X.pn++pins,s.heap.get? p.1=Qs p.2/\H p.1=Qn/\p.1≠X.env.locals/\p.1∉X.fs/\∀v,p.2.data≠.cell v
 Rw:SA X.prog X.w H s.heap
 len:σ.length=X.N.length
section
variable {X:Cx}{σ:Ql (Qo V)}
theorem Cx.Ok.zcw(ok:X.Ok){b:U1}{o:Obj}(e:X.base.get? b=Qs o):b∉X.fs:=λhb=>by
 have:=(ok.Ur.mem hb).1
 rw[e]at this;cases this
theorem Inv.bs(I:Inv X pins σ H s):∀b o,X.base.get? b=Qs o->s.heap.get? b=Qs o/\H b=Qn:=λb o e =>
 ⟨I.base.keep b o (I.ok.bs b o e).1 (I.ok.bs b o e).2 (I.ok.zcw e) (I.ok.WJ b o e),I.base.free b o (I.ok.bs b o e).1 (I.ok.bs b o e).2 (I.ok.WJ b o e)⟩
theorem Inv.bk(I:Inv X pins σ H s):∀b o,X.base.get? b=Qs o->s.heap.get? b=Qs o:=λb o e=>(I.bs b o e).1
theorem Inv.mod(I:Inv X pins σ H s):Mod X.K X.mg X.base:=I.ok.mod
theorem Inv.TC(I:Inv X pins σ H s):X.K.In s.heap:=I.ok.mod.Xl.keeps I.bk
theorem Inv.lt(I:Inv X pins σ H s):X.env.locals<s.heap.objs.size:=let ⟨_,hn,_⟩:=I.loc;hn.lt
theorem Inv.sz(I:Inv X pins σ H s):X.s₀.heap.objs.size<=s.heap.objs.size:=NG I.ok.above (Px I.lt)
theorem Inv.zcu(I:Inv X pins σ H s){a:U1}(h:s.heap.objs.size<=a):a∉X.fs:=λhb=>by
 obtain⟨_,o,ho,_⟩:=I.ok.Ur.mem hb
 exact absurd (Nb (Nf ho) (NG I.sz h)) (Oo _)
theorem Inv.Wu(I:Inv X pins σ H s):∀x c,X.env.cells.lookup x=Qs c->c≠X.env.locals:=λx c e z=>by
 obtain⟨v,o,ho,hd⟩:=I.cell x c e
 obtain⟨m,⟨o',es,ep,Wb,Uq,_⟩,_⟩:=I.loc
 rw[z,Wb]at ho;cases ho;rw[Uq]at hd;cases hd
theorem Inv.Ur(I:Inv X pins σ H s):s.heap.FunFrames X.base X.outer:=by
 have all:∀(l:Ql Env),(∀b∈gP l,b∈X.fs)->X.s₀.heap.FunFrames X.base l->s.heap.FunFrames X.base l:=by
  intro l
  induction l with
  |nil=>intro _ _;trivial
  |cons env r ih =>
   intro hs hl
   obtain⟨hk,⟨L,o,hf,hn,ho,hd⟩,hr⟩:=hl
   have hL:L∈X.fs:=hs L (by unfold gP;rw[PD,hf];exact MN)
   obtain⟨sl,e⟩:=I.base.slot L o ho (I.ok.VU L hL) hL λz=>I.ok.Xz L z hL
   exact⟨hk,⟨L,_,hf,hn,e,hd⟩,ih (λb hb=>hs b (by unfold gP;rw[PD,hf];exact MM _ hb)) hr⟩
 exact all X.outer (λ_ hb=>hb) I.ok.Ur
theorem Inv.stack(I:Inv X pins σ H s):s.heap.FunFrames X.base X.stack:=by
 rcases I.ok.Xa with e | ⟨e,hf⟩
 .rw[e];exact I.Ur
 .rw[e]
  obtain⟨m,hn,_⟩:=I.loc
  refine .cons (by rw[I.ok.kind];decide) hf hn ?_ I.Ur
  exact Heap.get?_none_of_le (NG I.ok.Ve I.ok.above)
theorem Inv.W9(I:Inv X pins σ H s):∀b∈gP X.stack,b∈X.env.locals::X.fs:=λb hb=>by
 rcases I.ok.Xa with e | ⟨e,hf⟩
 .rw[e]at hb;exact MM _ hb
 .rw[e]at hb
  unfold gP at hb
  rw[PD,hf]at hb
  exact hb
theorem Inv.ZZ(I:Inv X pins σ H s):∀b∈gP X.stack,H b=Qn:=λb hb=>by
 rcases MQ.mp (I.W9 b hb) with e | hb
 .rw[e];exact I.free
 .obtain⟨_,o,ho,_⟩:=I.ok.Ur.mem hb
  exact I.base.free b o ho (I.ok.VU b hb) λz=>I.ok.Xz b z hb
theorem Inv.step{g':Array GenState}{d':Drawn}{ch:Ql U1}(I:Inv X pins σ H s)
  (VS:∀b∈ch,(b∈X.ex\/X.s₀.heap.objs.size<=b)/\b≠X.env.locals/\(∀x c,X.env.cells.lookup x=Qs c->c≠b)/\∀p∈X.pn++pins,p.1≠b)
  (keep:∀b o,b≠X.env.locals->b∉X.fs->b∉ch->s.heap.get? b=Qs o->H b=Qn->h'.get? b=Qs o)
  (slot:∀b o,b≠X.env.locals->b∈X.fs->b∉ch->s.heap.get? b=Qs o->H b=Qn->∃sl,h'.get? b=Qs { o with slots:=sl }) (free:∀b o,b∉ch->s.heap.get? b=Qs o->H b=Qn->H' b=Qn)
  (there:∀b o,b∉ch->s.heap.get? b=Qs o->∃o',h'.get? b=Qs o')
  (Vg:∀b xs,H b=Qs (.tup xs)->H' b=Qs (.tup xs)) (Vb:∀b o u,H b=Qs (.SW o u)->H' b=Qs (.SW o u)) (Uk:∀b q,H b=Qs (.TX q)->H' b=Qs (.TX q))
  (ns:∀m,s.heap.Ns X.env.locals m->h'.Ns X.env.locals m) (Rw:SA X.prog X.w H' h') (hg:AllBare g') :
  Inv X pins σ H' { s with heap:=h',gens:=g',drawn:=d',toks:=t' }:=by
 have neL:∀b o,X.s₀.heap.get? b=Qs o->b≠X.env.locals:=λb o e=>NC (Nb (Nf e) I.ok.above)
 have X3:∀b o,X.s₀.heap.get? b=Qs o->b∉X.ex->b∉ch:=λb o e hx hb=>by
  rcases(VS b hb).1 with z | z
  .exact hx z
  .exact absurd (Nb (Nf e) z) (Oo _)
 have cellK:∀x c,X.env.cells.lookup x=Qs c->∀v,s.heap.IsCell c v->h'.IsCell c v:=λx c e v ⟨o,ho,hd⟩=>by
  have Xh:c∉ch:=λz=>(VS c z).2.2.1 x c e rfl
  by_cases hc:c∈X.fs
  .obtain⟨sl,q⟩:=slot c o (I.Wu x c e) hc Xh ho (I.UU x c e)
   exact⟨_,q,hd⟩
  .exact⟨o,keep c o (I.Wu x c e) hc Xh ho (I.UU x c e),hd⟩
 refine⟨I.ok,I.os,hg,⟨λb o e n hb hx=>?_,λb o e n hb hx=>?_,λb o e n hx=>?_,λb o e hx=>?_,λb xs e=>Vg b xs (I.base.Vg b xs e),λb o xs e=>Vb b o xs (I.base.Vb b o xs e),λb ps e=>?_⟩,?_,λx c e=>?_,?_,λx c e=>?_,λp hp=>?_,Rw,I.len⟩
 .exact keep b o (neL b o e) hb (X3 b o e hx) (I.base.keep b o e n hb hx) (I.base.free b o e n hx)
 .obtain⟨sl,e1⟩:=I.base.slot b o e n hb hx
  obtain⟨sl',e2⟩:=slot b _ (neL b o e) hb (X3 b o e hx) e1 (I.base.free b o e n hx)
  exact⟨sl',e2⟩
 .obtain⟨o',e1⟩:=I.base.there b o e hx
  exact free b o' (X3 b o e hx) e1 (I.base.free b o e n hx)
 .obtain⟨o',e1⟩:=I.base.there b o e hx
  exact there b o' (X3 b o e hx) e1
 .exact Uk b _ (I.base.Uk b ps e)
 .obtain⟨m,hn,hl⟩:=I.loc
  refine⟨m,ns m hn,λi x v e1 e2 e3=>?_⟩
  obtain⟨u,r,l⟩:=hl i x v e1 e2 e3
  refine⟨u,r,?_⟩
  rcases l with l | ⟨k,c,e,z⟩
  .exact .inl l
  .exact .inr ⟨k,c,e,cellK x c e _ z⟩
 .obtain⟨v,z⟩:=I.cell x c e
  exact⟨v,cellK x c e v z⟩
 .obtain⟨m,⟨o,_,_,ho,_⟩,_⟩:=I.loc
  exact free _ o (λz=>(VS _ z).2.1 rfl) ho I.free
 .obtain⟨v,o,ho,hd⟩:=I.cell x c e
  exact free c o (λz=>(VS c z).2.2.1 x c e rfl) ho (I.UU x c e)
 .obtain⟨e,n,ne,nf,d⟩:=I.pin p hp
  have Xh:p.1∉ch:=λz=>(VS p.1 z).2.2.2 p hp rfl
  exact⟨keep p.1 p.2 ne nf Xh e n,free p.1 p.2 Xh e n,ne,nf,d⟩
theorem Inv.un (I:Inv X pins σ H s)(u:Un X.fs [] H H' s.heap h')(Rw:SA X.prog X.w H' h'):Inv X pins σ H' { s with heap:=h',toks:=t' }:=by
 obtain⟨m,⟨o,es,ep,ho,r⟩,_⟩:=id I.loc
 obtain⟨sl,hL⟩:=u.any ho I.free (by simp)
 exact I.step (g':=s.gens) (d':=s.drawn) (ch:=[]) (λ_ z=>nomatch z) (λb o _ hb _ e n=>u.keep b o e n hb (by simp)) (λb o _ hb _ e n=>u.slot b o e n hb (by simp)) (λb o _ e n=>u.free b o e n (by simp)) (λb o _ e=>u.there b o e (by simp)) u.Vg u.Vb u.Uk (λm' hm=>by
  obtain⟨o',Sk,Zk,Wb,r'⟩:=hm
  rw[ho]at Wb;cases Wb
  exact⟨_,Sk,Zk,hL,r'⟩) Rw I.bare
theorem Inv.call{g':Array GenState}{d':Drawn}{ch:Ql U1}(I:Inv X pins σ H s)(u:Un (gP X.stack) ch H H' s.heap h')(Rw:SA X.prog X.w H' h')(hg:AllBare g')
  (VS:∀b∈ch,(b∈X.ex\/X.s₀.heap.objs.size<=b)/\b≠X.env.locals/\(∀x c,X.env.cells.lookup x=Qs c->c≠b)/\∀p∈X.pn++pins,p.1≠b) :
  Inv X pins σ H' { s with heap:=h',gens:=g',drawn:=d',toks:=t' }:=by
 obtain⟨m,⟨o,es,ep,ho,r⟩,_⟩:=id I.loc
 obtain⟨sl,hL⟩:=u.any ho I.free λz=>(VS _ z).2.1 rfl
 exact I.step (ch:=ch) VS (λb o hL hb hc e n=>u.keep b o e n (λz=>(MQ.mp (I.W9 b z)).elim hL hb) hc) (λb o _ _ hc e n=>u.any e n hc) (λb o hc e n=>u.free b o e n hc) (λb o hc e=>u.there b o e hc) u.Vg u.Vb u.Uk (λm' hm=>by
  obtain⟨o',Sk,Zk,Wb,r'⟩:=hm
  rw[ho]at Wb;cases Wb
  exact⟨_,Sk,Zk,hL,r'⟩) Rw hg
theorem Inv.turned{it:U1}(I:Inv X pins σ H s)(k:∀b o,b≠it->s.heap.get? b=Qs o->h'.get? b=Qs o)(hn:H it=Qn)(hL:it≠X.env.locals)
  (h1:it∈X.ex\/X.s₀.heap.objs.size<=it) (h2:∀x c,X.env.cells.lookup x=Qs c->c≠it) (h3:∀p∈X.pn++pins,p.1≠it):Inv X pins σ H { s with heap:=h',toks:=t' }:=by
 have nit:∀b u,H b=Qs u->b≠it:=λb u e z=>by rw[z,hn]at e;cases e
 refine I.step (g':=s.gens) (d':=s.drawn) (ch:=[it]) (λb hb=>?_) (λb o _ _ hc e _=>k b o (λz=>hc (by simp[z])) e) (λb o _ _ hc e _=>⟨o.slots,k b o (λz=>hc (by simp[z])) e⟩) (λ_ _ _ _ n=>n)
  (λb o hc e=>⟨o,k b o (λz=>hc (by simp[z])) e⟩) (λ_ _ e=>e) (λ_ _ _ e=>e) (λ_ _ e=>e) (λm hm=>?_) (λb u e=>?_) I.bare
 .have e:b=it:=by simpa using hb
  subst e
  exact⟨h1,hL,h2,h3⟩
 .obtain⟨o,es,ep,ho,r⟩:=hm
  exact⟨o,es,ep,k _ o (Ne.symm hL) ho,r⟩
 .refine(I.Rw b u e).Vj (λc v hc q=>k c v ?_ q) (λ_ q=>q) (λ_ _ q=>q) λ_ _ _ q=>q
  rcases hc with z | z
  .rw[z];exact nit b u e
  .exact nit c _ z
theorem Inv.tok(I:Inv X pins σ H s)(t:Nat):Inv X pins σ H { s with toks:=t }:=I.un (h':=s.heap) (t':=t) Un.refl I.Rw
theorem Inv.kept{t':Nat}(I:Inv X pins σ H s)(k:∀b u,s.heap.get? b=Qs u->h'.get? b=Qs u):Inv X pins σ H { s with heap:=h',toks:=t' }:=I.un (Un.kept k) (I.Rw.kept k)
theorem Inv.laid{a:U1}{o:HO}{t':Nat}(I:Inv X pins σ H s)(k:∀b u,s.heap.get? b=Qs u->h'.get? b=Qs u)(hp:s.heap.objs.size<=a)(new:SJ X.prog X.w (upd H a o) h' a o) :
  Inv X pins σ (upd H a o) { s with heap:=h',toks:=t' }:=I.un (Un.laid k hp (I.Rw.fresh hp)) (I.Rw.laid k hp new)
theorem Inv.write{x e:U1}{o:HO}{t':Nat}(I:Inv X pins σ H s)(mu:pQ (H x))(he:e=x\/H e=Qs (.own x))(k:∀b u,b≠e->s.heap.get? b=Qs u->h'.get? b=Qs u)(VR:∃u,h'.get? e=Qs u)
  (new:SJ X.prog X.w (upd H x o) h' x o):Inv X pins σ (upd H x o) { s with heap:=h',toks:=t' }:=I.un (Un.write mu he k VR) (I.Rw.write mu he k VR new)
theorem Inv.Z8{Ts:Ql (U1×Obj)}(I:Inv X pins σ H s)(h:∀p∈Ts,s.heap.get? p.1=Qs p.2/\H p.1=Qn/\p.1≠X.env.locals/\p.1∉X.fs/\∀v,p.2.data≠.cell v):Inv X Ts σ H s :=
 ⟨I.ok,I.os,I.bare,I.base,I.loc,I.cell,I.free,I.UU,λp hp=>(ML.mp hp).elim (λz=>I.pin p (MJ _ z)) (h p),I.Rw,I.len⟩
theorem AL (hN:N.Nodup) (a:N[i]?=Qs x)(b:N[j]?=Qs x):i=j:=by
 obtain⟨h1,e1⟩:=Nm.mp a
 obtain⟨h2,e2⟩:=Nm.mp b
 exact(List.getElem_inj hN).mp (e1.trans e2.symm)
theorem zh{A:Ol}{Q:Unit->M0->Prop}(I:Inv X pins σ H s)(hN:X.N.Nodup)(hi:X.N[i]?=Qs x)(hx:Loc X.env.scope x)(r:RelV v u)
  (h:∀s',Inv X pins (σ.set i (Qs v)) H s'->(∃a,Heap.SameBut a s.heap s'.heap/\(a=X.env.locals\/X.env.cells.lookup x=Qs a))->Q () s') (hf:X.fn x=Qt\/X.env.scope.names.lookup x=Qs .local:=by first | exact .inl rfl | exact .inr rfl | assumption):wpAny M A (storeName X.env x u) Q E s:=by
 obtain⟨m,hn,hl⟩:=id I.loc
 have zdT:(X.env.scope.kind == .class||(X.env.scope.kind == .module&&X.env.locals != X.env.globals))=Qf:=by rw[I.ok.kind];rfl
 have hiσ:i<σ.length:=by rw[I.len];exact(Nm.mp hi).1
 have Wu:=I.Wu
 have tracked:∀{a:U1}{h':U2},(∃o,s.heap.get? a=Qs o/\H a=Qn)->Heap.SameBut a s.heap h'->SA X.prog X.w H h':=λ{a h'} ha hs b ob e=>by
  obtain⟨_,_,VQ⟩:=ha
  refine(I.Rw b ob e).Vj (λc w' hc q=>(hs.2 c ?_).trans q) (λ_ q=>q) (λ_ _ q=>q) λ_ _ _ q=>q
  rintro rfl
  rcases hc with rfl | hc
  .rw[VQ]at e;cases e
  .rw[VQ]at hc;cases hc
 rcases hx with hk | hk
 .refine wpAny_storeName_local hk hn (λh' Xu hs=>?_) zdT
  obtain⟨oL,_,_,Y4,_⟩:=id hn
  refine h _ ⟨I.ok,I.os,I.bare,⟨λb o e n hb hx=>?_,λb o e n hb hx=>?_,I.base.free,λb o e hx=>?_,I.base.Vg,I.base.Vb,I.base.Uk⟩,⟨_,Xu,λj y v' e1 e2 e3=>?_⟩,λy c e=>?_,I.free,I.UU,λp hp=>?_,tracked ⟨oL,Y4,I.free⟩ hs,by simpa using I.len⟩ ⟨_,hs,.inl rfl⟩
  .exact(hs.2 b (NC (Nb (Nf e) I.ok.above))).trans (I.base.keep b o e n hb hx)
  .obtain⟨sl,e1⟩:=I.base.slot b o e n hb hx
   exact⟨sl,(hs.2 b (NC (Nb (Nf e) I.ok.above))).trans e1⟩
  .obtain⟨o',e1⟩:=I.base.there b o e hx
   exact⟨o',(hs.2 b (NC (Nb (Nf e) I.ok.above))).trans e1⟩
  .by_cases hj:j=i
   .subst hj
    rw[hi]at e1;cases e1
    rw[Oz hiσ]at e2
    cases e2
    exact⟨u,r,.inl ⟨hk,by simp⟩⟩
   .rw[Nx (Ne.symm hj)]at e2
    obtain⟨u',r',q⟩:=hl j y v' e1 e2 e3
    refine⟨u',r',?_⟩
    rcases q with⟨k,e⟩ | ⟨k,c,e,z⟩
    .refine .inl ⟨k,?_⟩
     have:y≠x:=λe=>hj (AL hN e1 (e ▸ hi))
     simp[this,e]
    .exact .inr ⟨k,c,e,z.sameBut hs (Wu y c e)⟩
  .obtain⟨w',z⟩:=I.cell y c e
   exact⟨w',z.sameBut hs (Wu y c e)⟩
  .obtain⟨e,n,ne,nf,d⟩:=I.pin p hp
   exact⟨(hs.2 p.1 ne).trans e,n,ne,nf,d⟩
 .have Y9:X.fn x=Qt:=by
   rcases hf with z | z
   .exact z
   .rw[z]at hk;cases hk
  obtain⟨c,hc⟩:=I.ok.has x (.inl hk)
  obtain⟨w',z⟩:=I.cell x c hc
  refine wpAny_storeName_cell I.ok.kind hk hc z (λh' Ud hs=>?_)
  obtain⟨oc,hoc,zdk⟩:=id z
  refine h { s with heap:=h' } ⟨I.ok,I.os,I.bare,⟨λb o e n hb hx=>?_,λb o e n hb hx=>?_,I.base.free,λb o e hx=>?_,I.base.Vg,I.base.Vb,I.base.Uk⟩,⟨m,hn.sameBut hs (Ne.symm (Wu x c hc)),λj y v' e1 e2 e3=>?_⟩,λy c' e=>?_,I.free,I.UU,λp hp=>?_,tracked ⟨oc,hoc,I.UU x c hc⟩ hs,by simpa using I.len⟩ ⟨c,hs,.inr hc⟩
  .exact(hs.2 b (NC (Nb (Nf e) (I.ok.WX x c Y9 hc)))).trans (I.base.keep b o e n hb hx)
  .obtain⟨sl,e1⟩:=I.base.slot b o e n hb hx
   exact⟨sl,(hs.2 b (NC (Nb (Nf e) (I.ok.WX x c Y9 hc)))).trans e1⟩
  .obtain⟨o',e1⟩:=I.base.there b o e hx
   exact⟨o',(hs.2 b (NC (Nb (Nf e) (I.ok.WX x c Y9 hc)))).trans e1⟩
  .by_cases hj:j=i
   .subst hj
    rw[hi]at e1;cases e1
    rw[Oz hiσ]at e2
    cases e2
    exact⟨u,r,.inr ⟨.inl hk,c,hc,Ud⟩⟩
   .rw[Nx (Ne.symm hj)]at e2
    obtain⟨u',r',q⟩:=hl j y v' e1 e2 e3
    refine⟨u',r',?_⟩
    rcases q with q | ⟨k,c',e,z'⟩
    .exact .inl q
    .refine .inr ⟨k,c',e,z'.sameBut hs ?_⟩
     rintro rfl
     exact hj (AL hN e1 (I.ok.inj _ _ _ e hc ▸ hi))
  .by_cases VT:c'=c
   .subst VT;exact⟨_,Ud⟩
   .obtain⟨w2,z2⟩:=I.cell y c' e
    exact⟨w2,z2.sameBut hs VT⟩
  .obtain⟨e,n,ne,nf,d⟩:=I.pin p hp
   refine⟨(hs.2 p.1 ?_).trans e,n,ne,nf,d⟩
   intro q
   rw[q,hoc]at e
   have q':oc=p.2:=Ni e
   exact d w' (by rw[<-q'];exact zdk)
theorem qI{A:Ol}{Q:Unit->M0->Prop}(I:Inv X pins σ H s)(hN:X.N.Nodup)(hi:X.N[i]?=Qs x)(hx:Loc X.env.scope x)(r:RelV v u)
  (h:∀s',Inv X pins (σ.set i (Qs v)) H s'->Q () s') (hf:X.fn x=Qt\/X.env.scope.names.lookup x=Qs .local:=by first | exact .inl rfl | exact .inr rfl | assumption):wpAny M A (storeName X.env x u) Q E s :=
 zh I hN hi hx r (λs' I' _=>h s' I') hf
end
abbrev XK:=M6->Qo U1->Hp->Prop
abbrev St:=Ql (Qo V)
abbrev VK:=V->Hp->Prop
abbrev TE:=St->Hp->VK->Prop
abbrev TT:=St->Hp->(Bool->Hp->Prop)->Prop
abbrev TA:=St->Hp->(Ql V->Hp->Prop)->Prop
structure Ends where
 nx:St->Hp->Prop
 rt:VK
 bk:St->Hp->Prop:=λ_ _=>False
 ct:St->Hp->Prop:=λ_ _=>False
abbrev TS:=Ends->St->Hp->Prop
inductive EP(X:Cx)(pins:List (U1×Obj))(σ:St)(Q:VK)(u:M6)(s':M0) :Prop
 |mk (v:_) (H':_) (h_0:Inv X pins σ H' s') (h_1:RelV v u) (h_2:Q v H')
inductive TP(X:Cx)(pins:List (U1×Obj))(σ:St)(Q:Bool->Hp->Prop)(b:Bool)(s':M0) :Prop
 |mk (H':_) (h_0:Inv X pins σ H' s') (h_1:Q b H')
inductive AP(X:Cx)(pins:List (U1×Obj))(σ:St)(Q:List V->Hp->Prop)(us:List M6)(s':M0) :Prop
 |mk (vs:_) (H':_) (h_0:Inv X pins σ H' s') (h_1:Vals vs us) (h_2:Q vs H')
inductive SN(X:Cx)(pins:List (U1×Obj))(N:St->Hp->Prop)(s':M0):Prop
 |mk (σ':St) (H':Hp) (h_0:Inv X pins σ' H' s') (h_1:N σ' H')
inductive SR(X:Cx)(pins:List (U1×Obj))(N:VK)(u:M6)(s':M0):Prop
 |mk (v:V) (σ':St) (H':Hp) (h_0:Inv X pins σ' H' s') (h_1:RelV v u) (h_2:N v H')
def SP(X:Cx)(pins:Ql (U1×Obj))(D:Ends)(f:Flow)(s':M0):Prop :=
 match f with
 |.next=>SN X pins D.nx s'
 |.brk=>SN X pins D.bk s'
 |.cont=>SN X pins D.ct s'
 |.ret u=>SR X pins D.rt u s'
def PE(X:Cx)(e:U3)(t:TE):Prop :=
 ∀(pins:Ql (U1×Obj)) (s:M0) (σ:St) (H:Hp) (Q:VK),Inv X pins σ H s->t σ H Q->wpAny (model X.prog X.w) X.A (eval e X.env) (EP X pins σ Q) X.xe s
def PT(X:Cx)(e:U3)(t:TT):Prop :=
 ∀(pins:Ql (U1×Obj)) (s:M0) (σ:St) (H:Hp) (Q:Bool->Hp->Prop),Inv X pins σ H s->t σ H Q->wpAny (model X.prog X.w) X.A (isTrue e X.env (eval e X.env)) (TP X pins σ Q) X.xe s
def PW(X:Cx)(e:U3)(t:TT):Prop :=
 ∀(whole:Sem M6) (pins:Ql (U1×Obj)) (s:M0) (σ:St) (H:Hp) (Q:Bool->Hp->Prop),Inv X pins σ H s->t σ H Q->wpAny (model X.prog X.w) X.A (isTrue e X.env whole) (TP X pins σ Q) X.xe s
theorem PW.pt{X:Cx}{t:TT}(h:PW X e t):PT X e t:=h _
def PA(X:Cx)(es:Ql U3)(t:TA):Prop :=
 ∀(pos:Pos) (pins:Ql (U1×Obj)) (s:M0) (σ:St) (H:Hp) (Q:Ql V->Hp->Prop),Inv X pins σ H s->t σ H Q->wpAny (model X.prog X.w) X.A (spliced (OY pos (Na es X.env))) (AP X pins σ Q) X.xe s
def PS(X:Cx)(st:U4)(t:TS):Prop :=
 ∀(pins:Ql (U1×Obj)) (s:M0) (σ:St) (H:Hp) (D:Ends),Inv X pins σ H s->t D σ H->wpAny (model X.prog X.w) X.A (exec st X.env) (SP X pins D) X.xe s
def RU(X:Cx)(st:Ql U4)(t:TS):Prop :=
 ∀(pins:Ql (U1×Obj)) (s:M0) (σ:St) (H:Hp) (D:Ends),Inv X pins σ H s->t D σ H->wpAny (model X.prog X.w) X.A (execs st X.env) (SP X pins D) X.xe s
theorem aG{α:Type}{t:Sem α}{Q Q':α->M0->Prop}{A:Ol}(h:wpAny M A t Q E s)(hQ:∀a s,Q a s->Q' a s):wpAny M A t Q' E s:=wpAny_mono h hQ λ_ _ x=>x
end L2
variable{X:L2.Cx}{σ:L2.St}{Q:L2.VK}{ta:L2.TE}{te:L2.TE}{base:L2.TL}{tb:L2.TE}{σ':L2.St}{Y:L2.Cx}
namespace L2
open PySem.Spec
section
theorem pE (ha:PE X a ta)(hb:PE X b tb){σ:St}{R:V->V->Hp->Prop}(I:Inv X pins σ H s)(h:ta σ H λx H1=>tb σ H1 λy H2=>R x y H2)
  {α:Type}{Q:α->M0->Prop}{f:M6->M6->Sem α}
  (hf:∀v u s2 x y H2,Inv X pins σ H2 s2->RelV x v->RelV y u->R x y H2->wpAny (model X.prog X.w) X.A (f v u) Q X.xe s2) :
  wpAny (model X.prog X.w) X.A (eval a X.env) (λv s₁=>wpAny (model X.prog X.w) X.A (eval b X.env) (λu s₂=>wpAny (model X.prog X.w) X.A (f v u) Q X.xe s₂) X.xe s₁) X.xe s:=by
 refine aG (ha pins s σ H _ I h) λv s1 ⟨x,H1,I1,r1,q1⟩=>?_
 refine aG (hb pins s1 σ H1 _ I1 q1) λu s2 ⟨y,H2,I2,r2,q2⟩=>?_
 exact hf v u s2 x y H2 I2 r1 r2 q2
def uP(i:Nat):TE:=λσ H Q => ∃v,σ[i]?=Qs (Qs v)/\Q v H
def tC(v:V):TE:=λ_ H Q=>Q v H
theorem dz (hN:X.N[i]?=Qs x)(hv:dh X.env.scope x)(hd:Sv x:=by decide)(R9:Tj x:=by decide):PE X (.Name x pos) (uP i):=by
 intro pins s σ H Q I h
 obtain⟨v,e,h⟩:=h
 obtain⟨m,hn,hl⟩:=I.loc
 obtain⟨u,r,l⟩:=hl i x v hN e hv
 have fin:EP X pins σ Q u s:=⟨v,H,I,r,h⟩
 rcases l with⟨hk,hm⟩ | ⟨hk,c,hc,zaH⟩
 .exact wpAny_Name (wpAny_loadName_local I.ok.kind hk hn hm fin) hd
 .rcases hk with hk | hk
  .exact wpAny_Name (wpAny_loadName_cell I.ok.kind hk hc zaH fin) hd
  .exact wpAny_Name (wpAny_loadName_free I.ok.kind hk hc zaH fin R9) hd
theorem vR{i j pos}:PE X (.Constant (.int i) j pos) (tC (.int i)):=λ_ _ _ H _ I h=>wpAny_Constant_int ⟨.int i,H,I.tok _,⟨_,rfl⟩,h⟩
theorem Ig{b j pos}:PE X (.Constant (.bool b) j pos) (tC (.bl b)):=λ_ _ _ H _ I h=>Constant_bool ⟨.bl b,H,I,rfl,h⟩
theorem HZ{j pos}:PE X (.Constant .none j pos) (tC .Ri):=λ_ _ _ H _ I h=>Constant_none ⟨.Ri,H,I,rfl,h⟩
def Gl(X:Cx)(x:Str):Prop:=X.env.kindOf x=Qs .globalImplicit
theorem By{σ:St}{Q:M6->M0->Prop}(I:Inv X pins σ H s)(hg:Gl X x)(hm:X.mg x=Qs u)(h:Q u s)
  (hd:Sv x:=by decide):wpAny (model X.prog X.w) X.A (eval (.Name x pos) X.env) Q E s :=
 Calls.Name_function_global I.ok.kind hg (Calls.loadGlobal_global (by rw[I.ok.glob];exact I.mod.glob.keeps I.bk) hm h) hd
theorem kJ{σ:St}{Q:M6->M0->Prop}(I:Inv X pins σ H s)(hg:Gl X x)(hm:X.mg x=Qn)(hv:bootBuiltins x=Qs u)(h:Q u s)
  (hn:x≠"__name__":=by decide) (hd:Sv x:=by decide):wpAny (model X.prog X.w) X.A (eval (.Name x pos) X.env) Q E s:=by
 obtain⟨mb,h1,h2⟩:=I.mod.blt
 exact Calls.Name_function_global I.ok.kind hg (Calls.loadGlobal_builtin (by rw[I.ok.glob];exact I.mod.glob.keeps I.bk) hm (by rw[I.ok.blt];exact h1.keeps I.bk) ((h2 x hn).trans hv) h) hd
variable {tA XS:TT}{rest:Ql U3}
def ZU(t u:TT):TT:=λσ H Q=>t σ H λc H1=>if c=Qt then u σ H1 Q else Q Qf H1
def Vi(t u:TT):TT:=λσ H Q=>t σ H λc H1=>if c=Qt then Q Qt H1 else u σ H1 Q
theorem zX(ha:PT X a tA):PW X (.BoolOp .And [a] pos) tA:=by
 intro wh pins s σ H Q I h
 refine isTrue_and (aG (ha pins s σ H Q I h) λc s1 e=>?_)
 cases c with
 |true=>exact isTrue_and_nil e
 |false=>exact e
theorem GJ(ha:PT X a tA):PW X (.BoolOp .Or [a] pos) tA:=by
 intro wh pins s σ H Q I h
 refine isTrue_or (aG (ha pins s σ H Q I h) λc s1 e=>?_)
 cases c with
 |false=>exact isTrue_or_nil e
 |true=>exact e
theorem GL(ha:PT X a tA)(hb:PW X (.BoolOp .And (b::rest) pos) XS):PW X (.BoolOp .And (a::b::rest) pos) (ZU tA XS):=by
 intro wh pins s σ H Q I h
 refine isTrue_and (aG (ha pins s σ H _ I h) λc s1 ⟨H1,I1,q1⟩=>?_)
 cases c with
 |true=>exact hb wh pins s1 σ H1 Q I1 q1
 |false=>exact⟨H1,I1,q1⟩
theorem GK(ha:PT X a tA)(hb:PW X (.BoolOp .Or (b::rest) pos) XS):PW X (.BoolOp .Or (a::b::rest) pos) (Vi tA XS):=by
 intro wh pins s σ H Q I h
 refine isTrue_or (aG (ha pins s σ H _ I h) λc s1 ⟨H1,I1,q1⟩=>?_)
 cases c with
 |true=>exact⟨H1,I1,q1⟩
 |false=>exact hb wh pins s1 σ H1 Q I1 q1
def ER(t:TT)(ta tb:TE):TE:=λσ H Q=>t σ H λc H1=>if c=Qt then ta σ H1 Q else tb σ H1 Q
theorem Ib (hc:PT X c tA)(ha:PE X a ta)(hb:PE X b tb):PE X (.IfExp c a b pos) (ER tA ta tb):=by
 intro pins s σ H Q I h
 refine wpAny_IfExp (aG (hc pins s σ H _ I h) λd s1 ⟨H1,I1,q1⟩=>?_)
 cases d with
 |true=>exact ha pins s1 σ H1 Q I1 q1
 |false=>exact hb pins s1 σ H1 Q I1 q1
end
def Rm(K:MK)(H:Hp)(a:U1)(xs:Ql V):Prop :=
 Rd H a (.lst xs) \/
  ∃(o:Obj) (Q7:Array M6) (n:Nat),K.lookup a=Qs o/\o.cls=.type "list"/\o.dict=Qn/\o.data=.seq Q7 n/\Q7.size<=Nn/\Vals xs Q7.toList
def RQ(K:MK)(H:Hp)(a:U1)(xs:Ql V):Prop:=H a=Qs (.tup xs)
def Mx:M6->Qo V
 |.none=>Qs .Ri
 |.bool b=>Qs (.bl b)
 |.int i _=>Qs (.int i)
 |.str x _=>Qs (.str x)
 |.bytes b _=>Qs (.Uh b)
 |.float b _=>Qs (.Yd b)
 |.ref a=>Qs (.ref a)
 |.type n=>Qs (.ty n)
 |_=>Qn
theorem RelV.abs{x:V}(r:RelV x u):Mx u=Qs x:=by
 cases x with
 |Ri=>cases r;rfl
 |bl _=>cases r;rfl
 |int _=>obtain⟨t,rfl⟩:=r;rfl
 |str _=>obtain⟨t,rfl⟩:=r;rfl
 |Uh _=>obtain⟨t,rfl⟩:=r;rfl
 |Yd _=>obtain⟨t,rfl⟩:=r;rfl
 |ref _=>cases r;rfl
 |ty _=>cases r;rfl
theorem RelV.inj{x:V}(r:RelV x u)(q:RelV y u):x=y:=Ni (r.abs.symm.trans q.abs)
theorem Vals.inj:∀{xs ys:Ql V}{us:Ql M6},Vals xs us->Vals ys us->xs=ys
 |_,_,_,.nil,.nil=>rfl
 |_,_,_,.cons r t,.cons r' t'=>by rw[r.inj r',Vals.inj t t']
section
variable {σ:St}{a:U1}
theorem Rm.of (h:H a=Qs (.lst xs)):Rm K H a xs:=.inl (.inl h)
theorem RQ.of (h:H a=Qs (.tup xs)):RQ K H a xs:=h
theorem Inv.list(I:Inv X pins σ H s)(h:Rm X.K H a xs):∃Q7:Ql M6,Vals xs Q7/\PlainL s.heap a Q7.toArray/\xs.length<=Nn:=by
 rcases h with h | ⟨o,Q7,n,hk,hc,hd,hs,hz,r⟩
 .obtain⟨z,Q7,n,r,e⟩:=h.ok I.Rw
  exact⟨Q7,r,⟨_,n,e,rfl,rfl,rfl⟩,z⟩
 .refine⟨Q7.toList,r,⟨o,n,I.TC a o hk,hc,hd,by simpa using hs⟩,?_⟩
  have e:=r.length
  simp only[QD]at e
  lia
theorem Inv.tuple(I:Inv X pins σ H s)(h:RQ X.K H a xs):∃Q7:Ql M6,Vals xs Q7/\IsTup s.heap a Q7.toArray/\xs.length<=Nn:=by
 obtain⟨z,Q7,r,p⟩:=(show SJ X.prog X.w H s.heap a (.tup xs) from I.Rw a _ h)
 exact⟨Q7,r,p,z⟩
theorem Inv.YO(I:Inv X pins σ H s)(h:Rm X.K H a xs)(h':Rm X.K H a ys):xs=ys:=by
 obtain⟨Q7,r,⟨o,n,e,_,_,d⟩,_⟩:=I.list h
 obtain⟨its',r',⟨o',n',e',_,_,d'⟩,_⟩:=I.list h'
 rw[e]at e';cases e'
 rw[d]at d'
 injection d' with d1 _
 have:Q7=its':=by simpa using congrArg Qp d1
 subst this
 exact r.inj r'
theorem Inv.ZR(I:Inv X pins σ H s)(h:RQ X.K H a xs)(h':RQ X.K H a ys):xs=ys:=by
 obtain⟨Q7,r,⟨o,e,_,n,d⟩,_⟩:=I.tuple h
 obtain⟨its',r',⟨o',e',_,n',d'⟩,_⟩:=I.tuple h'
 rw[e]at e';cases e'
 rw[d]at d'
 injection d' with d1 _
 have:Q7=its':=by simpa using congrArg Qp d1
 subst this
 exact r.inj r'
end
abbrev Cx.U6(X:Cx)(E:M6->M0->Prop):Cx:={ X with xe:=E }
abbrev Cx.V4(X:Cx):Cx:=X.U6 λ_ _=>False
theorem Cx.Ok.U6{X:Cx}(ok:X.Ok)(E:M6->M0->Prop):(X.U6 E).Ok :=
 ⟨ok.mod,ok.kind,ok.glob,ok.blt,ok.above,ok.inj,ok.has,ok.WX,ok.hd,ok.frames,ok.Xa,ok.Zi,ok.bs,ok.Ve,ok.WJ,ok.Xz,ok.Ur,ok.VU,ok.tabs⟩
theorem Cx.Ok.VE (ok:(X.U6 E).Ok):X.Ok :=
 ⟨ok.mod,ok.kind,ok.glob,ok.blt,ok.above,ok.inj,ok.has,ok.WX,ok.hd,ok.frames,ok.Xa,ok.Zi,ok.bs,ok.Ve,ok.WJ,ok.Xz,ok.Ur,ok.VU,ok.tabs⟩
section
variable {σ:St}
theorem Inv.U6(I:Inv X pins σ H s)(E:M6->M0->Prop):Inv (X.U6 E) pins σ H s:=⟨I.ok.U6 E,I.os,I.bare,I.base,I.loc,I.cell,I.free,I.UU,I.pin,I.Rw,I.len⟩
theorem Inv.VE(I:Inv (X.U6 E) pins σ H s):Inv X pins σ H s:=⟨I.ok.VE,I.os,I.bare,I.base,I.loc,I.cell,I.free,I.UU,I.pin,I.Rw,I.len⟩
theorem SP.VE{D:Ends}{f:Flow}{s':M0}(h:SP (X.U6 E) pins D f s'):SP X pins D f s':=by
 cases f with
 |next=>obtain⟨σ',H',I,q⟩:=h;exact⟨σ',H',I.VE,q⟩
 |brk=>obtain⟨σ',H',I,q⟩:=h;exact⟨σ',H',I.VE,q⟩
 |cont=>obtain⟨σ',H',I,q⟩:=h;exact⟨σ',H',I.VE,q⟩
 |ret u=>obtain⟨v,σ',H',I,r,q⟩:=h;exact⟨v,σ',H',I.VE,r,q⟩
theorem RU.V4{st:Ql U4}{t:TS}(h:RU X.V4 st t):RU X st t:=λpins s σ H D I hw =>
 wpAny_mono (h pins s σ H D (I.U6 _) hw) (λ_ _ q=>q.VE) λ_ _ z=>False.elim z
end
section
variable {rest:Ql U4}{t u:TS}
def EL:TS:=λD σ H=>D.nx σ H
def EF(t u:TS):TS:=λD σ H=>t { D with nx:=u D } σ H
theorem Aa:RU X [] EL:=λ_ _ σ H _ I h=>wpAny_execs_nil ⟨σ,H,I,h⟩
theorem vA(h1:PS X st t)(h2:RU X rest u):RU X (st::rest) (EF t u):=by
 intro pins s σ H D I h
 refine wpAny_execs_cons (aG (h1 pins s σ H { D with nx:=u D } I h) λf s1 q=>?_)
 cases f with
 |next =>
  obtain⟨σ',H',I',q⟩:=q
  exact h2 pins s1 σ' H' D I' q
 |ret v=>exact q
 |brk=>exact q
 |cont=>exact q
theorem sj(h1:PS X st t):RU X [st] t:=by
 intro pins s σ H D I h
 refine wpAny_execs_cons (aG (h1 pins s σ H D I h) λf s1 q=>?_)
 cases f with
 |next=>exact wpAny_execs_nil q
 |ret v=>exact q
 |brk=>exact q
 |cont=>exact q
theorem Inv.quiet{σ:St}(I:Inv X pins σ H s):interactive X.env=Qf:=by simp[interactive,I.ok.kind]
def EU(te:TE):TS:=λD σ H=>te σ H λ_ H1=>D.nx σ H1
theorem lV(he:PE X e te)(hs:swapsWith e Qn pos.line X.env=pure Qf:=by rfl):PS X (.Expr e pos) (EU te):=by
 intro pins s σ H D I h
 exact wpAny_Expr_any (aG (he pins s σ H _ I h) λv s1 ⟨x,H1,I1,r1,q1⟩=>⟨σ,H1,I1,q1⟩) I.quiet hs
def EG(te:TE):TS:=λD σ H=>te σ H D.rt
theorem sr(he:PE X e te):PS X (.Return (Qs e) pos) (EG te):=by
 intro pins s σ H D I h
 exact wpAny_Return_some (aG (he pins s σ H _ I h) λv s1 ⟨x,H1,I1,r1,q1⟩=>⟨x,σ,H1,I1,r1,q1⟩)
def EO(c:TT)(t u:TS):TS:=λD σ H=>c σ H λb H1=>if b=Qt then t D σ H1 else u D σ H1
theorem Ac{a b:Ql U4}{tc:TT}(hc:PT X c tc)(ha:RU X a t)(hb:RU X b u):PS X (.If c a b pos) (EO tc t u):=by
 intro pins s σ H D I h
 refine wpAny_If (aG (hc pins s σ H _ I h) λd s1 ⟨H1,I1,q1⟩=>?_)
 cases d with
 |true=>exact ha pins s1 σ H1 D I1 q1
 |false=>exact hb pins s1 σ H1 D I1 q1
end
abbrev TG:=V->St->Hp->(St->Hp->Prop)->Prop
abbrev eV:=Ql V->St->Hp->(St->Hp->Prop)->Prop
def PG(X:Cx)(target:U3)(t:TG):Prop :=
 ∀(pins:Ql (U1×Obj)) (s:M0) (σ:St) (H:Hp) (v:V) (u:M6) (Q:St->Hp->Prop),Inv X pins σ H s->RelV v u->t v σ H Q ->
  wpAny (model X.prog X.w) X.A (assign target X.env u) (λ_ s' => ∃σ' H',Inv X pins σ' H' s'/\Q σ' H') X.xe s
def pP(X:Cx)(ts:Ql U3)(t:eV):Prop :=
 ∀(pins:Ql (U1×Obj)) (s:M0) (σ:St) (H:Hp) (vs:Ql V) (us:Ql M6) (Q:St->Hp->Prop),Inv X pins σ H s->Vals vs us->t vs σ H Q ->
  wpAny (model X.prog X.w) X.A (assignInOrder ((assignEach ts X.env).map (·.2)) us) (λ_ s' => ∃σ' H',Inv X pins σ' H' s'/\Q σ' H') X.xe s
abbrev pM:=V->V->V->Hp->(Hp->Prop)->Prop
def uF(X:Cx)(t:pM):Prop :=
 ∀(pins:Ql (U1×Obj)) (s:M0) (σ:St) (H:Hp) (o i v:V) (ov iv u:M6) (Q:Hp->Prop),Inv X pins σ H s->RelV o ov->RelV i iv->RelV v u->t o i v H Q ->
  wpAny (model X.prog X.w) X.A (setItem ov iv u) (λ_ s' => ∃H',Inv X pins σ H' s'/\Q H') X.xe s
abbrev uE:=V->V->Hp->VK->Prop
def yB(X:Cx)(op:Operator)(t:uE):Prop :=
 ∀(pins:Ql (U1×Obj)) (s:M0) (σ:St) (H:Hp) (x y:V) (v u:M6) (Q:VK),Inv X pins σ H s->RelV x v->RelV y u->t x y H Q ->
  wpAny (model X.prog X.w) X.A (inplaceOp op v u) (EP X pins σ Q) X.xe s
def kU(i:Nat):TG:=λv σ H Q=>Q (σ.set i (Qs v)) H
theorem aY (hN:X.N.Nodup)(hi:X.N[i]?=Qs x)(hx:Loc X.env.scope x)(hf:X.fn x=Qt\/X.env.scope.names.lookup x=Qs .local:=by first | exact .inl rfl | exact .inr rfl | assumption):PG X (.Name x pos) (kU i):=by
 intro pins s σ H v u Q I r h
 exact wpAny_assign_Name (qI I hN hi hx r (λs' I'=>⟨_,H,I',h⟩) hf)
def xt:eV:=λvs σ H Q=>vs=[]/\Q σ H
def xw(t:TG)(u:eV):eV:=λvs σ H Q => ∃v r,vs=v::r/\t v σ H λσ' H'=>u r σ' H' Q
theorem gp:pP X [] xt:=by
 intro pins s σ H vs us Q I r h
 obtain⟨e,h⟩:=h
 subst e
 cases r
 exact assignInOrder_nil ⟨σ,H,I,h⟩
theorem cW{t:TG}{u:eV}(h1:PG X e t)(h2:pP X es u)
  (hs:(assignEach (e::es) X.env).map (·.2)=assign e X.env ::(assignEach es X.env).map (·.2):=by rfl):pP X (e::es) (xw t u):=by
 intro pins s σ H vs us Q I r h
 obtain⟨v,vr,e1,h⟩:=h
 subst e1
 cases r with
 |cons r rr =>
  rw[hs]
  refine assignInOrder_cons (aG (h1 pins s σ H _ _ _ I r h) λ_ s1 ⟨σ1,H1,I1,q1⟩=>?_)
  exact h2 pins s1 σ1 H1 _ _ Q I1 rr q1
def xp(K:MK)(n:Nat)(t:eV):TG:=λv σ H Q => ∃a xs,v=.ref a/\RQ K H a xs/\xs.length=n/\t xs σ H Q
theorem iG{k:Nat}{t:eV}(hc:X.calm=Qt)(h:pP X es t)
  (hn:(assignEach es X.env).length=n:=by rfl) (Sf:(assignEach es X.env).findIdx? (·.1)=Qn:=by rfl):PG X (.Tuple es k pos) (xp X.K n t):=by
 intro pins s σ H v u Q I r hw
 obtain⟨a,xs,e1,hq,hl,hw⟩:=hw
 subst e1
 cases r
 obtain⟨Q7,rv,ht,hz⟩:=I.tuple hq
 refine assign_Tuple_tuple (I.ok.hd hc) ht (by simp[hn, <-hl,rv.length]) Sf λh' hx=>?_
 have I1:Inv X pins σ H { s with heap:=h' }:=I.kept (t':=s.toks) λb o e=>hx b o (NC (Nf e)) e
 exact h pins _ σ H xs _ Q I1 (by simpa using rv) hw
def xq(to ti:TE)(t:pM):TG:=λv σ H Q=>to σ H λo H1=>ti σ H1 λi H2=>t o i v H2 λH3=>Q σ H3
theorem vP{i:U3}{to ti:TE}{t:pM}(ho:PE X o to)(hi:PE X i ti)(hs:uF X t)
  (ha:∀v,assign (.Subscript o i pos) X.env v=(do
   let ov <-holding [v] (eval o X.env)
   let iv <-holding [v,ov] (eval i X.env)
   standAt pos
   holding [v,ov,iv] (setItem ov iv v)
   release [v,ov,iv] []):=by intro _;rfl):PG X (.Subscript o i pos) (xq to ti t):=by
 intro pins s σ H v u Q I r h
 rw[ha]
 refine MT (wpAny_holding (aG (ho pins s σ H _ I h) λov s1 ⟨x,H1,I1,r1,q1⟩=>?_))
 refine MT (wpAny_holding (aG (hi pins s1 σ H1 _ I1 q1) λiv s2 ⟨y,H2,I2,r2,q2⟩=>?_))
 refine MT (wpAny_standAt (MT (wpAny_holding (aG (hs pins s2 σ H2 x y v ov iv u _ I2 r1 r2 r q2) λ_ s3 ⟨H3,I3,q3⟩=>?_))))
 exact wpAny_release ⟨σ,H3,I3,q3⟩
def ze(te:TE)(g:TG):TS:=λD σ H=>te σ H λx H1=>g x σ H1 D.nx
theorem su{g:TG}(he:PE X e te)(hg:PG X tg g)(hs:swapsWithSole [tg] e pos.line X.env=pure Qf:=by rfl)(hw:swappedStores [tg] e X.env=pure Qn:=by rfl)
  (h1:(assignEach [tg] X.env).map (·.2)=[assign tg X.env]:=by rfl):PS X (.Assign [tg] e pos) (ze te g):=by
 intro pins s σ H D I h
 refine wpAny_Assign_stores (aG (he pins s σ H _ I h) λv s1 ⟨x,H1,I1,r1,q1⟩=>?_) hs hw
 rw[h1]
 exact aG (hg pins s1 σ H1 x v _ I1 r1 q1) λ_ s2 ⟨σ',H',I',q⟩=>⟨σ',H',I',q⟩
theorem vG (hN:X.N.Nodup)(hi:X.N[i]?=Qs x)(hx:Loc X.env.scope x)(he:PE X e te)(hs:swapsWith e (Qs (.Name x pos')) pos.line X.env=pure Qf:=by rfl)(hf:X.fn x=Qt\/X.env.scope.names.lookup x=Qs .local:=by first | exact .inl rfl | exact .inr rfl | assumption) :
  PS X (.Assign [.Name x pos'] e pos) (ze te (kU i)):=by
 intro pins s σ H D I h
 refine wpAny_Assign_Name (aG (he pins s σ H _ I h) λv s1 ⟨y,H1,I1,r1,q1⟩=>?_) hs
 exact qI I1 hN hi hx r1 (λs2 I2=>⟨_,H1,I2,q1⟩) hf
def EH(i j:Nat)(ta:TA):TS:=λD σ H=>ta σ H λvs H1 => ∃v w,vs=[v,w]/\D.nx ((σ.set i (Qs v)).set j (Qs w)) H1
theorem G7{y:Str}{ta:TA}{px pt:Pos}{kt k2 Ux}(hc:X.calm=Qt)(hN:X.N.Nodup)(hi:X.N[i]?=Qs x)(hj:X.N[j]?=Qs y)(VO:i≠j)
  (hx:X.env.scope.names.lookup x=Qs .local) (hy:X.env.scope.names.lookup y=Qs .local) (ha:PA X [a,b] ta)
  (hw:swappedStores [.Tuple [.Name x px,.Name y py] kt pt] (.Tuple [a,b] k2 Ux) X.env=pure (Qs [x,y]))
  (hs:swapsWithSole [.Tuple [.Name x px,.Name y py] kt pt] (.Tuple [a,b] k2 Ux) pos.line X.env=pure Qf:=by rfl) :
  PS X (.Assign [.Tuple [.Name x px,.Name y py] kt pt] (.Tuple [a,b] k2 Ux) pos) (EH i j ta):=by
 intro pins s σ H D I h
 rw[exec_Assign_arm]
 refine MT (wpAny_standAt ?_)
 rw[hs]
 refine MT (Nc ?_)
 rw[QU (by decide)]
 refine MT (Tuple_ (aG (ha _ pins s σ H _ I h) λus s1 ⟨vs,H1,I1,r1,q1⟩=>?_))
 obtain⟨v,w,e1,q1⟩:=q1
 subst e1
 obtain⟨u1,u2,rfl,rv,Uw⟩:∃u1 u2,us=[u1,u2]/\RelV v u1/\RelV w u2:=by
  cases r1 with
  |cons p q =>
   cases q with
   |cons p' q' =>
    cases q'
    exact⟨_,_,rfl,p,p'⟩
 refine wpAny_newObj_type ?_ (by show 2<=Nn;decide)
 have I2:Inv X pins σ H1 { s1 with heap:=s1.heap.push { cls:=.type "tuple",data:=.seq [u1,u2].toArray } }:=I1.kept (t':=s1.toks) λb o e=>MV _ e
 rw[hw]
 refine MT (Nc ?_)
 show wpAny (model X.prog X.w) X.A (do rule "assign.swapped-stores";let items <-unpackItems (.ref s1.heap.objs.size) 2 Qn;assignInOrder [λv=>bindName X.env y v,λv=>bindName X.env x v] items.reverse;pure Flow.next) _ _ _
 refine MT (wpAny_rule (MT (unpackItems_tuple (items := #[u1,u2]) (I.ok.hd hc) (IsTup.new s1.heap _) λh' Vn=>?_)))
 have I3:=I2.kept (h':=h') (t':=s1.toks) λb o e=>Vn b o (NC (Nf e)) e
 show wpAny _ _ (assignInOrder [λv=>bindName X.env y v,λv=>bindName X.env x v] [u2,u1] >>= λ_=>pure Flow.next) _ _ _
 refine MT (assignInOrder_cons (wpAny_bindName (qI I3 hN hj (.inl hy) Uw (λs2 I4=>?_) (.inr hy))))
 refine assignInOrder_cons (wpAny_bindName (qI I4 hN hi (.inl hx) rv (λs3 I5=>assignInOrder_nil (Nc ?_)) (.inr hx)))
 rw[List.set_comm _ _ (Ne.symm VO)]at I5
 exact⟨_,H1,I5,q1⟩
def Fb(to ti te:TE)(XR:V->V->Hp->VK->Prop)(XQ:uE)(XO:pM):TS:=λD σ H=>to σ H λo H1=>ti σ H1 λi H2=>XR o i H2 λx H3=>te σ H3 λy H4=>XQ x y H4 λz H5=>XO o i z H5 λH6=>D.nx σ H6
def DC(X:Cx)(t:V->V->Hp->VK->Prop):Prop :=
 ∀(pins:Ql (U1×Obj)) (s:M0) (σ:St) (H:Hp) (o i:V) (ov iv:M6) (Q:VK),Inv X pins σ H s->RelV o ov->RelV i iv->t o i H Q ->
  wpAny (model X.prog X.w) X.A (getItem ov iv) (EP X pins σ Q) X.xe s
theorem Ae{i:U3}{to ti:TE}{XR:V->V->Hp->VK->Prop}{XQ:uE}{XO:pM}(ho:PE X o to)(hi:PE X i ti)(hg:DC X XR)(he:PE X e te)(hp:yB X op XQ)(hs:uF X XO)
  (ha:∀ov iv new,augStore i ov iv new=(do holding [new,ov,iv] (setItem ov iv new);release [new,ov,iv] [];pure .next):=by intros;rfl):PS X (.AugAssign (.Subscript o i Tn) op e pos) (Fb to ti te XR XQ XO):=by
 intro pins s σ H D I h
 refine wpAny_AugAssign_SubscriptAny (aG (ho pins s σ H _ I h) λov s1 ⟨x1,H1,I1,r1,q1⟩=>?_) ha
 refine aG (hi pins s1 σ H1 _ I1 q1) λiv s2 ⟨x2,H2,I2,r2,q2⟩=>?_
 refine aG (hg pins s2 σ H2 x1 x2 ov iv _ I2 r1 r2 q2) λold s3 ⟨x3,H3,I3,r3,q3⟩=>?_
 refine aG (he pins s3 σ H3 _ I3 q3) λv s4 ⟨x4,H4,I4,r4,q4⟩=>?_
 refine aG (hp pins s4 σ H4 x3 x4 old v _ I4 r3 r4 q4) λnew s5 ⟨x5,H5,I5,r5,q5⟩=>?_
 exact aG (hs pins s5 σ H5 x1 x2 x5 ov iv new _ I5 r1 r2 r5 q5) λ_ s6 ⟨H6,I6,q6⟩=>⟨σ,H6,I6,q6⟩
def BH(f:Int->Int->Int):uE:=λx y H Q => ∃i j,x=.int i/\y=.int j/\Q (.int (f i j)) H
theorem wR:yB X .Add (BH λi j=>i+j):=by
 intro pins s σ H x y v u Q I r1 r2 h
 obtain⟨i,j,e1,e2,q⟩:=h
 subst e1;subst e2
 obtain⟨t,rfl⟩:=r1
 obtain⟨t',rfl⟩:=r2
 exact iadd_int ⟨.int _,H,I.tok _,⟨_,rfl⟩,q⟩
def EC(c:TT)(tb:TS):TS:=λD σ H => ∃W:Nat->St->Hp->Prop,(∃m,W m σ H)/\∀m σ H,W m σ H ->
 c σ H λb H1=>if b=Qt then ∃N:St->Hp->Prop,(∀σ' H',N σ' H'->∃m',m' < m/\W m' σ' H')/\tb { D with nx:=N,ct:=N,bk:=D.nx } σ H1 else D.nx σ H1
theorem G6{tc:TT}{tb:TS}(hp:PassesOwn (model X.prog X.w) X.A X.env X.xe)(hc:PT X c tc)(hb:RU X body tb):PS X (.While c body [] pos) (EC tc tb):=by
 intro pins s σ H D I h
 obtain⟨W,⟨m0,w0⟩,turn⟩:=h
 refine wpAny_While (codeAny_whileLoop (λn s' => ∃σ' H',Inv X pins σ' H' s'/\W n σ' H') ?_ m0 ⟨σ,H,I,w0⟩)
 rintro n s1 ⟨σ1,H1,I1,w1⟩
 refine wpAny_passesOwn hp (aG (hc pins s1 σ1 H1 _ I1 (turn n σ1 H1 w1)) λb s2 ⟨H2,I2,q2⟩=>?_)
 cases b with
 |true =>
  obtain⟨N,hN,q2⟩:=q2
  rw[QO rfl]
  refine wpAny_passesOwn hp (aG (hb pins s2 σ1 H2 _ I2 q2) λf s3 q3=>?_)
  cases f with
  |next =>
   obtain⟨σ3,H3,I3,n3⟩:=q3
   obtain⟨m',hm,w3⟩:=hN σ3 H3 n3
   exact⟨m',hm,σ3,H3,I3,w3⟩
  |cont =>
   obtain⟨σ3,H3,I3,n3⟩:=q3
   obtain⟨m',hm,w3⟩:=hN σ3 H3 n3
   exact⟨m',hm,σ3,H3,I3,w3⟩
  |brk=>exact q3
  |ret v=>exact q3
 |false =>
  rw[QU MU]
  exact wpAny_execs_nil ⟨σ1,H2,I2,q2⟩
structure It where
 go:Nat->Hp->Prop
 Td:Nat->Hp->V->Hp->Prop
 stop:Nat->Hp->Prop
def fK(X:Cx)(pins:Ql (U1×Obj))(H:Hp)(b:U1):Prop :=
 H b=Qn/\b≠X.env.locals/\b∉X.fs/\(b∈X.ex\/X.s₀.heap.objs.size<=b)/\(∀x c,X.env.cells.lookup x=Qs c->c≠b)/\∀p∈X.pn++pins,p.1≠b
theorem Inv.Wo{σ:St}{b:U1}(I:Inv X pins σ H s)(hb:s.heap.objs.size<=b)(hn:H' b=Qn):fK X pins H' b:=by
 refine⟨hn,Py (Nb I.lt hb),I.zcu hb,.inr (NG I.sz hb),λx c e z=>?_,λp hp z=>?_⟩
 .obtain⟨v,q⟩:=I.cell x c e
  exact absurd (Nb q.lt (by rw[z];exact hb)) (Oo _)
 .exact absurd (Nb (Nf (I.pin p hp).1) (by rw[z];exact hb)) (Oo _)
structure Turn(P:NA)(w:OX)(K:MK)(tg:U3)(J:It)(fp:List U1)(it:U1)(tn:Nat->U2->Prop):Prop where
 mem:it∈fp
 obj:∀i h,tn i h->∀b∈fp,∃o,h.get? b=Qs o/\∀v,o.data≠.cell v
 keep:∀i h h',tn i h->(∀b∈fp,∀o,h.get? b=Qs o->h'.get? b=Qs o)->tn i h'
 item:∀(X:Cx),X.prog=P->X.w=w->X.K=K->X.calm=Qt->∀(i:Nat) (pins:List (U1×Obj)) (s:M0) (σ:St) (H:Hp) (E:M6->M0->Prop),Inv X pins σ H s->(∀b∈fp,fK X pins H b)->tn i s.heap->J.go i H ->
  wpAny (model P w) X.A (pyNext (.ref it)) (λr s1 => ∃u,r=Qs u /\
   wpAny (model P w) X.A (letOwnedTupleGo tg (.ref it) u) (λ_ s2 => ∃x H',Inv X pins σ H' s2/\RelV x u/\J.Td i H x H'/\tn (i+1) s2.heap/\∀b∈fp,H' b=Qn) E s1) E s
 done:∀(X:Cx),X.prog=P->X.w=w->X.K=K->X.calm=Qt->∀(i:Nat) (pins:List (U1×Obj)) (s:M0) (σ:St) (H:Hp) (E:M6->M0->Prop),Inv X pins σ H s->(∀b∈fp,fK X pins H b)->tn i s.heap->J.stop i H ->
  wpAny (model P w) X.A (pyNext (.ref it)) (λr s1=>r=Qn/\Inv X pins σ H s1) E s
 self:∀(A:Ol) (i:Nat) (s:M0) (Q:M6->M0->Prop) (E:M6->M0->Prop),tn i s.heap->Q (.ref it) s->wpAny (model P w) A (pyIter (.ref it)) Q E s
abbrev TI:=St->Hp->(It->Hp->Prop)->Prop
def yC(X:Cx)(pins:Ql (U1×Obj))(σ:St)(tg:U3)(R:It->Hp->Prop)(V7:M6)(s2:M0):Prop :=
 ∃(it:U1) (fp:Ql U1) (tn:Nat->U2->Prop) (J:It) (H':Hp),V7=.ref it/\Inv X pins σ H' s2/\Turn X.prog X.w X.K tg J fp it tn/\tn 0 s2.heap/\(∀b∈fp,fK X pins H' b)/\R J H'
def PI(X:Cx)(tg iter:U3)(wi:TI):Prop :=
 ∀(pins:Ql (U1×Obj)) (s:M0) (σ:St) (H:Hp) (R:It->Hp->Prop),Inv X pins σ H s->wi σ H R ->
  wpAny (model X.prog X.w) X.A (eval iter X.env) (λv s1=>wpAny (model X.prog X.w) X.A (pyIter v) (yC X pins σ tg R) X.xe s1) X.xe s
theorem tV{A:Ol}{it:U1}{o:Obj}{n:String}{vs:Array M6}{Q:Unit->M0->Prop}(ho:s.heap.get? it=Qs o)(hc:o.cls=.type n)(hd:o.data=.fields vs)
  (hn:["enumerate", "zip", "dict_itemiterator", "dict_reverseitemiterator", "odict_iterator", "itertools.zip_longest", "itertools.pairwise"].contains n=Qf) (hQ:Q () s):wpAny M A (letOwnedTupleGo tg (.ref it) u) Q E s:=by
 unfold letOwnedTupleGo
 cases tg<;>first
  |exact Nc hQ
  |(cases u<;>first
    |exact Nc hQ
    |(refine MT (wpAny_load ho ?_)
      rw[hc,hd]
      show wpAny M A (if(["enumerate", "zip", "dict_itemiterator", "dict_reverseitemiterator", "odict_iterator", "itertools.zip_longest", "itertools.pairwise"].contains n&&vs[0]? == Qs (rawInt _))=Qt then _ else _) Q E s
      rw[QU (by intro h;rw[hn,Bool.false_and]at h;cases h)]
      exact Nc hQ))
def yE(K:MK)(a:U1):It :=
 ⟨λi H => ∃xs x,Rm K H a xs/\xs[i]?=Qs x,λi H x H'=>H'=H/\∀xs,Rm K H a xs->xs[i]?=Qs x,λi H => ∃xs,Rm K H a xs/\xs.length<=i⟩
def yD(K:MK)(a:U1):It :=
 ⟨λi H => ∃xs x,RQ K H a xs/\xs[i]?=Qs x,λi H x H'=>H'=H/\∀xs,RQ K H a xs->xs[i]?=Qs x,λi H => ∃xs,RQ K H a xs/\xs.length<=i⟩
def kj(lo:Int)(n:Nat):It:=⟨λi _=>i<n,λi H x H'=>H'=H/\x=.int (lo+i),λi _=>n<=i⟩
theorem En (a it:U1):Turn P w K tg (yE K a) [it] it (λi h=>h.IsListIter it a i) where
 mem:=by simp
 obj:=λi h st b hb=>by
  have e:b=it:=by simpa using hb
  subst e
  obtain⟨o,e,c,d⟩:=st
  exact⟨o,e,λv z=>by rw[d]at z;cases z⟩
 keep:=λi h h' st k=>st.at λo e=>k it (by simp) o e
 item:=by
  intro X hP hw hK hc i pins s σ H E I hf st hg
  subst hP hw hK
  obtain⟨xs,x,hq,hx⟩:=hg
  obtain⟨Q7,rv,p,hz⟩:=I.list hq
  obtain⟨u,hu,ru⟩:=rv.get hx
  obtain⟨f0,f1,f2,f3,f4,f5⟩:=hf it (by simp)
  refine wpAny_pyNext_list_item st p.isList (x:=u) (by simpa using hu) λh' Q9 sb=>?_
  have I1:Inv X pins σ H { s with heap:=h' }:=I.turned (t':=s.toks) (λb o hb e=>(sb.2 b hb).trans e) f0 f1 f3 f4 f5
  obtain⟨o,e,c,d⟩:=id Q9
  exact⟨u,rfl,tV (s:={ s with heap:=h' }) e c d (by decide) ⟨x,H,I1,ru,⟨rfl,λys hy=>by rw[I.YO hy hq];exact hx⟩,Q9,λb hb=>(hf b hb).1⟩⟩
 done:=by
  intro X hP hw hK hc i pins s σ H E I hf st hg
  subst hP hw hK
  obtain⟨xs,hq,hx⟩:=hg
  obtain⟨Q7,rv,p,hz⟩:=I.list hq
  obtain⟨f0,f1,f2,f3,f4,f5⟩:=hf it (by simp)
  have hl:=rv.length
  exact wpAny_pyNext_list_end (I.ok.hd hc) st p.isList (by simp;lia) λh' eb=>⟨rfl,I.turned (t':=s.toks) (λb o hb e=>eb b o hb e) f0 f1 f3 f4 f5⟩
 self:=λ_ _ _ _ _ st h=>wpAny_pyIter_listiter st h
theorem El (a it:U1):Turn P w K tg (yD K a) [it] it (λi h=>h.IsTupleIter it a i) where
 mem:=by simp
 obj:=λi h st b hb=>by
  have e:b=it:=by simpa using hb
  subst e
  obtain⟨o,e,c,d⟩:=st
  exact⟨o,e,λv z=>by rw[d]at z;cases z⟩
 keep:=λi h h' st k=>st.at λo e=>k it (by simp) o e
 item:=by
  intro X hP hw hK hc i pins s σ H E I hf st hg
  subst hP hw hK
  obtain⟨xs,x,hq,hx⟩:=hg
  obtain⟨Q7,rv,p,hz⟩:=I.tuple hq
  obtain⟨u,hu,ru⟩:=rv.get hx
  obtain⟨f0,f1,f2,f3,f4,f5⟩:=hf it (by simp)
  refine wpAny_pyNext_tuple_item st (show s.heap.IsTuple a Q7.toArray from p) (x:=u) (by simpa using hu) λh' Q9 sb=>?_
  have I1:Inv X pins σ H { s with heap:=h' }:=I.turned (t':=s.toks) (λb o hb e=>(sb.2 b hb).trans e) f0 f1 f3 f4 f5
  obtain⟨o,e,c,d⟩:=id Q9
  exact⟨u,rfl,tV (s:={ s with heap:=h' }) e c d (by decide) ⟨x,H,I1,ru,⟨rfl,λys hy=>by rw[I.ZR hy hq];exact hx⟩,Q9,λb hb=>(hf b hb).1⟩⟩
 done:=by
  intro X hP hw hK hc i pins s σ H E I hf st hg
  subst hP hw hK
  obtain⟨xs,hq,hx⟩:=hg
  obtain⟨Q7,rv,p,hz⟩:=I.tuple hq
  obtain⟨f0,f1,f2,f3,f4,f5⟩:=hf it (by simp)
  have hl:=rv.length
  exact wpAny_pyNext_tuple_end (I.ok.hd hc) st (show s.heap.IsTuple a Q7.toArray from p) (by simp;lia) λh' eb=>⟨rfl,I.turned (t':=s.toks) (λb o hb e=>eb b o hb e) f0 f1 f3 f4 f5⟩
 self:=λ_ _ _ _ _ st h=>wpAny_pyIter_tupleiter st h
theorem Em (it:U1)(lo:Int)(n:Nat):Turn P w K tg (kj lo n) [it] it (λi h=>IsRangeIter h it (lo+(i:Nat)*1) ((n:Int) - (i:Nat)) 1) where
 mem:=by simp
 obj:=λi h st b hb=>by
  have e:b=it:=by simpa using hb
  subst e
  exact⟨_,st,λv z=>by
   have z':Data.fields _=Data.cell v:=z
   cases z'⟩
 keep:=λi h h' st k=>k it (by simp) _ st
 item:=by
  intro X hP hw hK hc i pins s σ H E I hf st hg
  subst hP hw hK
  obtain⟨f0,f1,f2,f3,f4,f5⟩:=hf it (by simp)
  have W:=Walks.range (prog:=X.prog) (w:=X.w) (I.ok.hd hc) it lo 1 n
  refine W.item i s _ _ hg st λv h' tk hv Q9 kk=>?_
  obtain⟨t,rfl⟩:=hv
  have I1:Inv X pins σ H { s with heap:=h',toks:=tk }:=I.turned (λb o hb e=>kk b o (by simpa using hb) e) f0 f1 f3 f4 f5
  refine⟨_,rfl,tV (s:={ s with heap:=h',toks:=tk }) (n := "range_iterator") Q9 rfl rfl (by decide) ⟨.int (lo+i),H,I1,⟨t,?_⟩,⟨rfl,rfl⟩,Q9,λb hb=>(hf b hb).1⟩⟩
  rw[Int.mul_one]
 done:=by
  intro X hP hw hK hc i pins s σ H E I hf st hg
  subst hP hw hK
  obtain⟨f0,f1,f2,f3,f4,f5⟩:=hf it (by simp)
  exact wpAny_pyNext_range_end (I.ok.hd hc) st (by have:n<=i:=hg;lia) λh' eb=>⟨rfl,I.turned (t':=s.toks) (λb o hb e=>eb b o hb e) f0 f1 f3 f4 f5⟩
 self:=λ_ _ _ _ _ st h=>wpAny_pyIter_rangeiter st h
end L2
variable{gt:L2.TG}{J:L2.It}
namespace L2
open PySem.Spec
def K0(K:MK)(tl:TE):TI:=λσ H R=>tl σ H λx H1 => ∃a,x=.ref a/\(∃xs,Rm K H1 a xs)/\R (yE K a) H1
def KU(K:MK)(tl:TE):TI:=λσ H R=>tl σ H λx H1 => ∃a,x=.ref a/\(∃xs,RQ K H1 a xs)/\R (yD K a) H1
theorem sE{l:U3}{tl:TE}(hl:PE X l tl):PI X tg l (K0 X.K tl):=by
 intro pins s σ H R I h
 refine aG (hl pins s σ H _ I h) λv s1 ⟨x,H1,I1,r1,q1⟩=>?_
 obtain⟨a,e,⟨xs,hq⟩,q⟩:=q1
 subst e
 cases r1
 obtain⟨Q7,rv,p,hz⟩:=I1.list hq
 refine wpAny_pyIter_list p.isList ?_
 refine⟨s1.heap.objs.size,[s1.heap.objs.size],_,_,H1,rfl,I1.kept (t':=s1.toks) λb o e=>MV _ e,En a _,⟨_,Nh _ rfl,rfl,rfl⟩,λb hb=>?_,q⟩
 have e:b=s1.heap.objs.size:=by simpa using hb
 subst e
 exact I1.Wo (MZ _) (I1.Rw.fresh (MZ _))
theorem HG{l:U3}{tl:TE}(hl:PE X l tl):PI X tg l (KU X.K tl):=by
 intro pins s σ H R I h
 refine aG (hl pins s σ H _ I h) λv s1 ⟨x,H1,I1,r1,q1⟩=>?_
 obtain⟨a,e,⟨xs,hq⟩,q⟩:=q1
 subst e
 cases r1
 obtain⟨Q7,rv,p,hz⟩:=I1.tuple hq
 refine wpAny_pyIter_tuple (show s1.heap.IsTuple a Q7.toArray from p) ?_
 refine⟨s1.heap.objs.size,[s1.heap.objs.size],_,_,H1,rfl,I1.kept (t':=s1.toks) λb o e=>MV _ e,El a _,⟨_,Nh _ rfl,rfl,rfl⟩,λb hb=>?_,q⟩
 have e:b=s1.heap.objs.size:=by simpa using hb
 subst e
 exact I1.Wo (MZ _) (I1.Rw.fresh (MZ _))
theorem zK{σ:St}{R:It->Hp->Prop}{lo hi:Int}{t u v:Tok}{tk:Nat}(I:Inv X pins σ H s)(h1 : -(2 ^ 62)<=lo)(h2:lo<2 ^ 62)(h3 : -(2 ^ 62)<=hi)(h4:hi<2 ^ 62)
  (q:R (kj lo (hi - lo).toNat) H):wpAny (model X.prog X.w) X.A (pyIter (.ref s.heap.objs.size)) (yC X pins σ tg R) E { s with heap:=s.heap.push { cls:=.type "range",data:=.fields #[.int lo t,.int hi u,.int 1 v] },toks:=tk }:=by
 refine wpAny_pyIter_range (IsRange.new ..) (small_one h1 h2 h3 h4) ?_
 have I1:Inv X pins σ H { s with heap:=s.heap.push { cls:=.type "range",data:=.fields #[.int lo t,.int hi u,.int 1 v] },toks:=tk }:=I.kept λb o e=>MV _ e
 refine⟨(s.heap.push { cls:=.type "range",data:=.fields #[.int lo t,.int hi u,.int 1 v] }).objs.size,[(s.heap.push { cls:=.type "range",data:=.fields #[.int lo t,.int hi u,.int 1 v] }).objs.size],_,_,H,rfl,
  I1.kept (t':=tk) λb o e=>MV _ e,Em _ lo (hi - lo).toNat,?_,λb hb=>?_,q⟩
 .have e1:lo+((0:Nat):Int)*1=lo:=by simp
  have e2:(((hi - lo).toNat:Nat):Int) - ((0:Nat):Int)=Builtin.Range.rangeSize lo hi 1:=by rw[rangeSize_one];split<;>lia
  show IsRangeIter _ _ (lo+((0:Nat):Int)*1) ((((hi - lo).toNat:Nat):Int) - ((0:Nat):Int)) 1
  rw[e1,e2]
  exact Nh _ rfl
 .have e:b=(s.heap.push { cls:=.type "range",data:=.fields #[.int lo t,.int hi u,.int 1 v] }).objs.size:=by simpa using hb
  subst e
  exact I1.Wo (MZ _) (I1.Rw.fresh (MZ _))
def KY(ta:TA):TI:=λσ H R=>ta σ H λvs H1 => ∃j:Int,vs=[.int j] /\ -(2 ^ 62)<=j/\j<2 ^ 62/\R (kj 0 j.toNat) H1
def KW(ta:TA):TI:=λσ H R=>ta σ H λvs H1 => ∃i j:Int,vs=[.int i,.int j]/\(-(2 ^ 62)<=i/\i<2 ^ 62 /\ -(2 ^ 62)<=j/\j<2 ^ 62)/\R (kj i (j - i).toNat) H1
theorem vO{ta:TA}{p:Pos}(hg:Gl X "range")(hm:X.mg "range"=Qn)(ha:PA X [a] ta)(hs:Na [a] X.env=[(Qf,eval a X.env)]:=by rfl):PI X tg (.Call (.Name "range" p) [a] [] pos) (KY ta):=by
 intro pins s σ H R I h
 refine Call_ (kJ I hg hm boot_range (PyProof.Rows.callWith_type1 (aG (ha pos pins s σ H _ I h) λus s1 ⟨vs,H1,I1,r1,q1⟩=>?_) hs rfl))
 obtain⟨j,e,q1,q2,q⟩:=q1
 subst e
 cases r1 with
 |cons r rr =>
  cases rr
  obtain⟨t,rfl⟩:=r
  exact call_range_1 (zK I1 (by lia) (by lia) q1 q2 (by simpa using q))
theorem HH{ta:TA}{p:Pos}(hg:Gl X "range")(hm:X.mg "range"=Qn)(ha:PA X [a,b] ta)(hs:Na [a,b] X.env=[(Qf,eval a X.env),(Qf,eval b X.env)]:=by rfl)(UO:Na [b] X.env=[(Qf,eval b X.env)]:=by rfl) :
  PI X tg (.Call (.Name "range" p) [a,b] [] pos) (KW ta):=by
 intro pins s σ H R I h
 refine Call_ (kJ I hg hm boot_range (PyProof.Rows.callWith_type1 (aG (ha pos pins s σ H _ I h) λus s1 ⟨vs,H1,I1,r1,q1⟩=>?_) (by rw[hs,UO]) (by rw[UO];rfl)))
 obtain⟨i,j,e,⟨q1,q2,q3,q4⟩,q⟩:=q1
 subst e
 cases r1 with
 |cons r rr =>
  cases rr with
  |cons r' rr =>
   cases rr
   obtain⟨t,rfl⟩:=r
   obtain⟨t',rfl⟩:=r'
   exact call_range_2 (zK I1 q1 q2 q3 q4 q)
def ES(wi:TI)(g:TG)(tb:TS):TS:=λD σ H=>wi σ H λJ H1 => ∃W:Nat->Nat->St->Hp->Prop,(∃m,W 0 m σ H1)/\∀i m σ H,W i m σ H ->
 (J.stop i H/\D.nx σ H)\/(J.go i H/\∃N:St->Hp->Prop,(∀σ' H',N σ' H'->∃m',m' < m/\W (i+1) m' σ' H')/\∀x H',J.Td i H x H'->g x σ H' λσ2 H2=>tb { D with nx:=N,ct:=N,bk:=D.nx } σ2 H2)
def lZ(fp:Ql U1)(h:U2):Ql (U1×Obj):=fp.filterMap λb=>(h.get? b).map λo=>(b,o)
theorem sW{fp:Ql U1}{b:U1}{o:Obj}(hb:b∈fp)(e:h.get? b=Qs o):(b,o)∈lZ fp h:=PU.mpr ⟨b,hb,by rw[e];rfl⟩
theorem Jg{fp:Ql U1}{p:U1×Obj}(hp:p∈lZ fp h):p.1∈fp/\h.get? p.1=Qs p.2:=by
 obtain⟨b,hb,e⟩:=PU.mp hp
 rcases q:h.get? b with _|o
 .rw[q]at e;cases e
 rw[q]at e
 have e':(b,o)=p:=Ni e
 subst e'
 exact⟨hb,q⟩
theorem Inv.pinned{σ:St}{fp:Ql U1}(I:Inv X pins σ H s)(hf:∀b∈fp,fK X pins H b)(ho:∀b∈fp,∃o,s.heap.get? b=Qs o/\∀v,o.data≠.cell v):Inv X (pins++lZ fp s.heap) σ H s :=
 I.Z8 λp hp=>(ML.mp hp).elim (λz=>I.pin p (MI _ z)) λz=>by
  obtain⟨hb,e⟩:=Jg z
  obtain⟨f0,f1,f2,_⟩:=hf p.1 hb
  obtain⟨o,e',d⟩:=ho p.1 hb
  rw[e]at e';cases e'
  exact⟨e,f0,f1,f2,d⟩
theorem Inv.XN{pl:Ql (U1×Obj)}{σ:St}(I:Inv X (pins++pl) σ H s):Inv X pins σ H s:=I.Z8 λp hp=>I.pin p (MI _ (MJ _ hp))
theorem ku{wi:TI}{g:TG}{tb:TS}(hp:PassesOwn (model X.prog X.w) X.A X.env X.xe)(hc:X.calm=Qt)(hi:PI X tg iter wi)(hg:PG X tg g)(hb:RU X body tb)
  (hs:∀x,foldedSetIterable iter X.env x=pure x:=by intro _;rfl):PS X (.For tg iter body [] pos) (ES wi g tb):=by
 intro pins s σ H D I h
 refine wpAny_For (aG (hi pins s σ H _ I h) λv s1 h1=>aG h1 λV7 s2 h2=>?_) hs
 obtain⟨it,fp,tn,J,H2,e,I2,T,Se,f2,W,⟨m0,w0⟩,turn⟩:=h2
 subst e
 -- zbE stays Qt of VF zgk objects through VF loop
 have V1:∀{H':Hp},(∀b∈fp,H' b=Qn)->∀b∈fp,fK X pins H' b:=λhn b hb=>⟨hn b hb,(f2 b hb).2⟩
 refine codeAny_forLoop_any (λn s' => ∃i σ' H',Inv X pins σ' H' s'/\tn i s'.heap/\(∀b∈fp,H' b=Qn)/\W i n σ' H') ?_ m0 ⟨0,σ,H2,I2,Se,λb hb=>(f2 b hb).1,w0⟩
 rintro n s3 ⟨i,σ3,H3,I3,TM,Xy,w3⟩
 rcases turn i n σ3 H3 w3 with⟨stop,qn⟩ | ⟨go,N,hN,step⟩
 .refine wpAny_passesOwn hp (aG (T.done X rfl rfl rfl hc i pins s3 σ3 H3 X.xe I3 (V1 Xy) TM stop) λr s4 ⟨hr,I4⟩=>?_)
  subst hr
  exact wpAny_execs_nil ⟨σ3,H3,I4,qn⟩
 .refine wpAny_passesOwn hp (aG (T.item X rfl rfl rfl hc i pins s3 σ3 H3 X.xe I3 (V1 Xy) TM go) λr s4 ⟨u,hr,h4⟩=>?_)
  subst hr
  refine wpAny_passesOwn hp (aG h4 λ_ s5 ⟨x,H5,I5,r5,y5,V2,Zf⟩=>?_)
  have I5':=I5.pinned (V1 Zf) (T.obj _ _ V2)
  refine wpAny_passesOwn hp (aG (hg _ s5 σ3 H5 x u _ I5' r5 (step x H5 y5)) λ_ s6 ⟨σ6,H6,I6,q6⟩=>?_)
  refine wpAny_passesOwn hp (aG (hb _ s6 σ6 H6 _ I6 q6) λf s7 q7=>?_)
  have again:∀{σ7:St}{H7:Hp},Inv X (pins++lZ fp s5.heap) σ7 H7 s7->N σ7 H7->∃m,m<n/\∃i σ' H',Inv X pins σ' H' s7/\tn i s7.heap/\(∀b∈fp,H' b=Qn)/\W i m σ' H':=λ{σ7 H7} I7 n7=>by
   obtain⟨m',hm,w7⟩:=hN σ7 H7 n7
   refine⟨m',hm,i+1,σ7,H7,I7.XN,T.keep _ _ _ V2 λb hb o e=>(I7.pin (b,o) (MI _ (MI _ (sW hb e)))).1,λb hb=>?_,w7⟩
   obtain⟨o,e,d⟩:=T.obj _ _ V2 b hb
   exact(I7.pin (b,o) (MI _ (MI _ (sW hb e)))).2.1
  cases f with
  |next=>obtain⟨σ7,H7,I7,n7⟩:=q7;exact again I7 n7
  |cont=>obtain⟨σ7,H7,I7,n7⟩:=q7;exact again I7 n7
  |brk=>obtain⟨σ7,H7,I7,q7⟩:=q7;exact⟨σ7,H7,I7.XN,q7⟩
  |ret v=>obtain⟨x7,σ7,H7,I7,r7,q7⟩:=q7;exact⟨x7,σ7,H7,I7.XN,r7,q7⟩
abbrev R2:=V->V->Hp->VK->Prop
def d8(X:Cx)(f:M6->M6->Sem M6)(r:R2):Prop :=
 ∀(pins:Ql (U1×Obj)) (s:M0) (σ:St) (H:Hp) (x y:V) (v u:M6) (Q:VK),Inv X pins σ H s->RelV x v->RelV y u->r x y H Q ->
  wpAny (model X.prog X.w) X.A (f v u) (EP X pins σ Q) X.xe s
def yu(X:Cx)(f:M6->Sem M6)(r:V->Hp->VK->Prop):Prop :=
 ∀(pins:Ql (U1×Obj)) (s:M0) (σ:St) (H:Hp) (x:V) (v:M6) (Q:VK),Inv X pins σ H s->RelV x v->r x H Q ->
  wpAny (model X.prog X.w) X.A (f v) (EP X pins σ Q) X.xe s
def iu(X:Cx)(f:M6)(r:Ql V->Hp->VK->Prop):Prop :=
 ∀(pins:Ql (U1×Obj)) (s:M0) (σ:St) (H:Hp) (xs:Ql V) (us:Ql M6) (Q:VK),Inv X pins σ H s->Vals xs us->r xs H Q ->
  wpAny (model X.prog X.w) X.A (call f us) (EP X pins σ Q) X.xe s
def Mz(X:Cx)(r:V->Hp->(Bool->Hp->Prop)->Prop):Prop :=
 ∀(pins:Ql (U1×Obj)) (s:M0) (σ:St) (H:Hp) (x:V) (v:M6) (Q:Bool->Hp->Prop),Inv X pins σ H s->RelV x v->r x H Q ->
  wpAny (model X.prog X.w) X.A (truthy v) (TP X pins σ Q) X.xe s
def EK(r:R2)(ta tb:TE):TE:=λσ H Q=>ta σ H λx H1=>tb σ H1 λy H2=>r x y H2 Q
def ED(r:V->Hp->VK->Prop)(ta:TE):TE:=λσ H Q=>ta σ H λx H1=>r x H1 Q
def rI(C:Int->Int->Prop)(g:Int->Int->V):R2:=λx y H Q => ∃i j,x=.int i/\y=.int j/\C i j/\Q (g i j) H
def jP(g:Int->Int->V):R2:=λx y H Q => ∃i j,x=.int i/\y=.int j/\Q (g i j) H
def rU(g:Int->V):V->Hp->VK->Prop:=λx H Q => ∃i,x=.int i/\Q (g i) H
section
variable {tc:TE}
theorem Mm(ha:PE X a ta)(hb:PE X b tb){σ:St}{R:V->V->Hp->Prop}(I:Inv X pins σ H s)
  (h:ta σ H λx H1=>tb σ H1 λy H2=>R x y H2) {Q:M6->M0->Prop}{f:M6->M6->Sem M6}
  (hf:∀v u s2 x y H2,Inv X pins σ H2 s2->RelV x v->RelV y u->R x y H2->wpAny (model X.prog X.w) X.A (f v u) Q X.xe s2) :
  wpAny (model X.prog X.w) X.A (eval a X.env) (λv s₁=>wpAny (model X.prog X.w) X.A (eval b X.env) (λu s₂=>wpAny (model X.prog X.w) X.A (f v u) Q X.xe s₂) X.xe s₁) X.xe s:=by
 refine aG (ha pins s σ H _ I h) λv s1 ⟨x,H1,I1,r1,q1⟩=>?_
 refine aG (hb pins s1 σ H1 _ I1 q1) λu s2 ⟨y,H2,I2,r2,q2⟩=>?_
 exact hf v u s2 x y H2 I2 r1 r2 q2
theorem HY{op:UnaryOp}{r:V->Hp->VK->Prop}(ho:yu X (unaryOp op) r)(ha:PE X a ta):PE X (.UnaryOp op a pos) (ED r ta):=by
 intro pins s σ H Q I h
 exact UnaryOp_ (aG (ha pins s σ H _ I h) λv s1 ⟨x,H1,I1,r1,q1⟩=>ho pins s1 σ H1 x v Q I1 r1 q1)
theorem nX{f:M6->M6->Sem M6}{C:Int->Int->Prop}{g:Int->Int->Int}
  (rule:∀(i j:Int) (t u:Tok) (s:M0) (Q:M6->M0->Prop) (E:M6->M0->Prop),C i j->Q (.int (g i j) s.toks) { s with toks:=s.toks+1 }->wpAny (model X.prog X.w) X.A (f (.int i t) (.int j u)) Q E s) :
  d8 X f (rI C λi j=>.int (g i j)):=by
 intro pins s σ H x y v u Q I rx ry h
 obtain⟨i,j,rfl,rfl,hc,q⟩:=h
 obtain⟨t,rfl⟩:=rx
 obtain⟨t',rfl⟩:=ry
 exact rule i j t t' s _ _ hc ⟨.int (g i j),H,I.tok _,⟨_,rfl⟩,q⟩
theorem Az{f:M6->M6->Sem M6}{g:Int->Int->Int}
  (rule:∀(i j:Int) (t u:Tok) (s:M0) (Q:M6->M0->Prop) (E:M6->M0->Prop),Q (.int (g i j) s.toks) { s with toks:=s.toks+1 }->wpAny (model X.prog X.w) X.A (f (.int i t) (.int j u)) Q E s) :
  d8 X f (jP λi j=>.int (g i j)):=by
 intro pins s σ H x y v u Q I rx ry h
 obtain⟨i,j,rfl,rfl,q⟩:=h
 obtain⟨t,rfl⟩:=rx
 obtain⟨t',rfl⟩:=ry
 exact rule i j t t' s _ _ ⟨.int (g i j),H,I.tok _,⟨_,rfl⟩,q⟩
theorem vU{f:M6->M6->Sem M6}{g:Int->Int->Bool}
  (rule:∀(i j:Int) (t u:Tok) (s:M0) (Q:M6->M0->Prop) (E:M6->M0->Prop),Q (.bool (g i j)) s->wpAny (model X.prog X.w) X.A (f (.int i t) (.int j u)) Q E s) :
  d8 X f (jP λi j=>.bl (g i j)):=by
 intro pins s σ H x y v u Q I rx ry h
 obtain⟨i,j,rfl,rfl,q⟩:=h
 obtain⟨t,rfl⟩:=rx
 obtain⟨t',rfl⟩:=ry
 exact rule i j t t' s _ _ ⟨.bl (g i j),H,I,rfl,q⟩
def MC(i j:Int):Prop:=0<=j/\j<=1000000/\i.natAbs<2 ^ 64
def Zv(i j:Int):Prop:=(-(2 ^ 64)<i/\i<2 ^ 64)\/(-(2 ^ 64)<j/\j<2 ^ 64)
theorem Zv.ok{i j:Int}(h:Zv i j):IntMulOk i j:=by
 rcases h with⟨h1,h2⟩ | ⟨h1,h2⟩
 .exact .of_left (intBits_le_64 h1 h2)
 .exact .of_right (intBits_le_64 h1 h2)
theorem Iv:d8 X (binaryOp .Add) (jP λi j=>.int (i+j)):=Az λ_ _ _ _ _ _ _ q=>add_int q
theorem Ih:d8 X (binaryOp .Sub) (jP λi j=>.int (i - j)):=Az λ_ _ _ _ _ _ _ q=>sub_int q
theorem Im:d8 X (binaryOp .Mod) (rI (λ_ j=>j≠0) λi j=>.int (i.fmod j)):=nX λ_ _ _ _ _ _ _ hc q=>mod_int' hc q
theorem Ij:d8 X (binaryOp .Pow) (rI MC λi j=>.int (i ^ j.toNat)):=nX λ_ _ _ _ _ _ _ hc q=>pow_int_small hc.1 hc.2.1 hc.2.2 q
theorem KJ:d8 X (inplaceOp .Mult) (rI Zv λi j=>.int (i*j)):=nX λ_ _ _ _ _ _ _ hc q=>imul_int q hc.ok
theorem Ek{f:M6->Sem M6}{g:Int->Int}
  (rule:∀(i:Int) (t:Tok) (s:M0) (Q:M6->M0->Prop) (E:M6->M0->Prop),Q (.int (g i) s.toks) { s with toks:=s.toks+1 }->wpAny (model X.prog X.w) X.A (f (.int i t)) Q E s) :
  yu X f (rU λi=>.int (g i)):=by
 intro pins s σ H x v Q I rx h
 obtain⟨i,rfl,q⟩:=h
 obtain⟨t,rfl⟩:=rx
 exact rule i t s _ _ ⟨.int (g i),H,I.tok _,⟨_,rfl⟩,q⟩
theorem Ej:yu X (unaryOp .USub) (rU λi=>.int (-i)):=Ek λ_ _ _ _ _ q=>neg_int q
end
noncomputable def jM(x y:V):Bool:=match x with
 |.Ri=>(match y with | .Ri=>Qt | .int _=>Qt | .bl _=>Qt | .str _=>Qt | _=>Qf)
 |.bl _=>(match y with | .Ri=>Qt | .bl _=>Qt | .str _=>Qt | _=>Qf)
 |.int _=>(match y with | .Ri=>Qt | .int _=>Qt | .str _=>Qt | _=>Qf)
 |.str _=>(match y with | .Ri=>Qt | .int _=>Qt | .bl _=>Qt | .str _=>Qt | _=>Qf)
 |.Uh _=>(match y with | .Uh _=>Qt | _=>Qf)
 |_=>Qf
def Gy:R2:=λx y H Q=>jM x y=Qt/\Q (.bl (decide (x=y))) H
def Gw:R2:=λx y H Q=>jM x y=Qt/\Q (.bl (!decide (x=y))) H
theorem CS{i j:Int}:decide (V.int i=V.int j)=(i == j):=by
 rw[NT]
 simp
theorem CU{i j:Bool}:decide (V.bl i=V.bl j)=(i == j):=by
 rw[NT]
 simp
theorem CQ{i j:Str}:decide (V.str i=V.str j)=(i == j):=by
 rw[NT]
 simp
theorem CT{i j:Array UInt8}:decide (V.Uh i=V.Uh j)=(i.toList == j.toList):=by
 rw[NT]
 cases i
 cases j
 simp
section
variable {tc:TE}
theorem cw{σ:St}{k k':Bool}(I:Inv X pins σ H s)(q:Q (.bl k) H)(e:k=k'):EP X pins σ Q (.bool k') s:=by
 subst e
 exact⟨.bl k,H,I,rfl,q⟩
theorem Iu:d8 X (compareOp .Eq) Gy:=by
 intro pins s σ H x y v u Q I rx ry h
 obtain⟨hs,q⟩:=h
 cases x with
 |Ri =>
  cases rx
  cases y with
  |Ri=>cases ry;exact PySem.EqNone.eq_none_none (cw I q (by simp))
  |bl j=>cases ry;exact PySem.EqNone.eq_none_bool (cw I q (by simp))
  |int j=>obtain⟨t',rfl⟩:=ry;exact PySem.EqNone.eq_none_int (cw I q (by simp))
  |str j=>obtain⟨t',rfl⟩:=ry;exact PySem.EqNone.eq_none_str (cw I q (by simp))
  |_=>exact absurd (show Qf=Qt from hs) MU
 |bl i =>
  cases rx
  cases y with
  |Ri=>cases ry;exact PySem.EqNone.eq_bool_none (cw I q (by simp))
  |bl j=>cases ry;exact eq_bool (cw I q CU)
  |str j=>obtain⟨t',rfl⟩:=ry;exact PySem.EqMixed.eq_bool_str (cw I q (by simp))
  |_=>exact absurd (show Qf=Qt from hs) MU
 |int i =>
  obtain⟨t,rfl⟩:=rx
  cases y with
  |Ri=>cases ry;exact PySem.EqNone.eq_int_none (cw I q (by simp))
  |int j=>obtain⟨t',rfl⟩:=ry;exact eq_int (cw I q CS)
  |str j=>obtain⟨t',rfl⟩:=ry;exact PySem.EqMixed.eq_int_str (cw I q (by simp))
  |_=>exact absurd (show Qf=Qt from hs) MU
 |str i =>
  obtain⟨t,rfl⟩:=rx
  cases y with
  |Ri=>cases ry;exact PySem.EqNone.eq_str_none (cw I q (by simp))
  |bl j=>cases ry;exact PySem.EqMixed.eq_str_bool (cw I q (by simp))
  |int j=>obtain⟨t',rfl⟩:=ry;exact PySem.EqMixed.eq_str_int (cw I q (by simp))
  |str j=>obtain⟨t',rfl⟩:=ry;exact eq_str (cw I q CQ)
  |_=>exact absurd (show Qf=Qt from hs) MU
 |Uh i =>
  obtain⟨t,rfl⟩:=rx
  cases y with
  |Uh j=>obtain⟨t',rfl⟩:=ry;exact PySem.W.eq_bytes (cw I q CT)
  |_=>exact absurd (show Qf=Qt from hs) MU
 |_=>cases y<;>exact absurd (show Qf=Qt from hs) MU
theorem Il:d8 X (compareOp .NotEq) Gw:=by
 intro pins s σ H x y v u Q I rx ry h
 obtain⟨hs,q⟩:=h
 cases x with
 |Ri =>
  cases rx
  cases y with
  |Ri=>cases ry;exact PySem.EqNone.ne_none_none (cw I q (by simp))
  |bl j=>cases ry;exact PySem.EqNone.ne_none_bool (cw I q (by simp))
  |int j=>obtain⟨t',rfl⟩:=ry;exact PySem.EqNone.ne_none_int (cw I q (by simp))
  |str j=>obtain⟨t',rfl⟩:=ry;exact PySem.EqNone.ne_none_str (cw I q (by simp))
  |_=>exact absurd (show Qf=Qt from hs) MU
 |bl i =>
  cases rx
  cases y with
  |Ri=>cases ry;exact PySem.EqNone.ne_bool_none (cw I q (by simp))
  |bl j=>cases ry;exact ne_bool (cw I q (congrArg not CU))
  |str j=>obtain⟨t',rfl⟩:=ry;exact PySem.EqMixed.ne_bool_str (cw I q (by simp))
  |_=>exact absurd (show Qf=Qt from hs) MU
 |int i =>
  obtain⟨t,rfl⟩:=rx
  cases y with
  |Ri=>cases ry;exact PySem.EqNone.ne_int_none (cw I q (by simp))
  |int j=>obtain⟨t',rfl⟩:=ry;exact ne_int (cw I q (congrArg not CS))
  |str j=>obtain⟨t',rfl⟩:=ry;exact PySem.EqMixed.ne_int_str (cw I q (by simp))
  |_=>exact absurd (show Qf=Qt from hs) MU
 |str i =>
  obtain⟨t,rfl⟩:=rx
  cases y with
  |Ri=>cases ry;exact PySem.EqNone.ne_str_none (cw I q (by simp))
  |bl j=>cases ry;exact PySem.EqMixed.ne_str_bool (cw I q (by simp))
  |int j=>obtain⟨t',rfl⟩:=ry;exact PySem.EqMixed.ne_str_int (cw I q (by simp))
  |str j=>obtain⟨t',rfl⟩:=ry;exact ne_str (cw I q (congrArg not CQ))
  |_=>exact absurd (show Qf=Qt from hs) MU
 |Uh i =>
  obtain⟨t,rfl⟩:=rx
  cases y with
  |Uh j=>obtain⟨t',rfl⟩:=ry;exact PySem.W.ne_bytes (cw I q (congrArg not CT))
  |_=>exact absurd (show Qf=Qt from hs) MU
 |_=>cases y<;>exact absurd (show Qf=Qt from hs) MU
theorem Io:d8 X (compareOp .Lt) (jP λi j=>.bl (decide (i<j))):=vU λ_ _ _ _ _ _ _ q=>lt_int q
theorem Ip:d8 X (compareOp .LtE) (jP λi j=>.bl (decide (i<=j))):=vU λ_ _ _ _ _ _ _ q=>le_int q
theorem Ir:d8 X (compareOp .Gt) (jP λi j=>.bl (decide (j<i))):=vU λ_ _ _ _ _ _ _ q=>gt_int q
theorem Iq:d8 X (compareOp .Is) (λx y H Q=>y=.Ri/\Q (.bl (decide (x=.Ri))) H):=by
 intro pins s σ H x y v u Q I rx ry h
 obtain⟨rfl,q⟩:=h
 cases ry
 refine is_none_gen (cw I q ?_)
 cases x<;>first
  |(cases rx;rfl)
  |(obtain⟨t,rfl⟩:=rx;rfl)
theorem Ik:d8 X (compareOp .IsNot) (λx y H Q=>y=.Ri/\Q (.bl (!decide (x=.Ri))) H):=by
 intro pins s σ H x y v u Q I rx ry h
 obtain⟨rfl,q⟩:=h
 cases ry
 refine isnot_none_gen (cw I q ?_)
 cases x<;>first
  |(cases rx;rfl)
  |(obtain⟨t,rfl⟩:=rx;rfl)
theorem vZ(b:U3){op:CmpOp}(h:op≠.In:=by decide)(h2:op≠.NotIn:=by decide):behindInMarks op b=Qf:=by
 have e1:(op == CmpOp.In)=Qf:=by cases op<;>first | rfl | exact absurd rfl h
 have e2:(op == CmpOp.NotIn)=Qf:=by cases op<;>first | rfl | exact absurd rfl h2
 cases b<;>simp[behindInMarks,e1,e2]
def yv(K:MK)(x:V)(H:Hp)(k:Bool):Prop :=
 match x with
 |.Ri=>k=Qf
 |.bl b=>k=b
 |.int i=>k=(i != 0)
 |.str y=>y.length<=Nn/\k=((y.length:Int) != 0)
 |.Uh y=>y.size<=Nn/\k=((y.size:Int) != 0)
 |.ref p=>(∃xs,Rm K H p xs/\k=!xs.isEmpty)\/(∃xs,RQ K H p xs/\k=!xs.isEmpty)\/∃Rh,H p=Qs (.dK Rh)/\k=!Rh.isEmpty
 |_=>False
theorem BG{κ:Type}{Rh:Ql (κ×V)}{vs:Ql (κ×M6)}(r:KV Rh vs):(!vs.isEmpty)=!Rh.isEmpty:=by
 cases r<;>rfl
theorem BF (r:Vals xs Q7):(!Q7.toArray.isEmpty)=!xs.isEmpty:=by
 cases r<;>simp
theorem kH:(Nn:Nat)<2 ^ 63:=by rw[sizeLine_eq];decide
theorem Eu:Mz X (λx H Q => ∃k,yv X.K x H k/\Q k H):=by
 intro pins s σ H x v Q I rx h
 obtain⟨k,e,q⟩:=h
 have hl:=kH
 have hs:Nn=16777216:=sizeLine_eq
 cases x with
 |Ri =>
  cases rx
  have e':k=Qf:=e
  subst e'
  exact truthy_none ⟨H,I,q⟩
 |bl b =>
  cases rx
  have e':k=b:=e
  subst e'
  exact wpAny_truthy_bool ⟨H,I,q⟩
 |int i =>
  obtain⟨t,rfl⟩:=rx
  have e':k=(i != 0):=e
  subst e'
  exact PySem.P.truthy_int ⟨H,I,q⟩
 |str y =>
  obtain⟨t,rfl⟩:=rx
  obtain⟨hy,e'⟩:y.length<=Nn/\k=((y.length:Int) != 0):=e
  subst e'
  exact PySem.P.truthy_str (by lia) ⟨H,I.tok _,q⟩
 |Uh y =>
  obtain⟨t,rfl⟩:=rx
  obtain⟨hy,e'⟩:y.size<=Nn/\k=((y.size:Int) != 0):=e
  subst e'
  exact PySem.W.truthy_bytes (by lia) ⟨H,I.tok _,q⟩
 |ref p =>
  cases rx
  have e':(∃xs,Rm X.K H p xs/\k=!xs.isEmpty)\/(∃xs,RQ X.K H p xs/\k=!xs.isEmpty)\/∃Rh,H p=Qs (.dK Rh)/\k=!Rh.isEmpty:=e
  rcases e' with⟨xs,hx,e'⟩ | ⟨xs,hx,e'⟩ | ⟨Rh,hx,e'⟩
  .subst e'
   obtain⟨Q7,r,pl,hz⟩:=I.list hx
   have hlen:=r.length
   exact wpAny_truthy_list pl.isList (by simp only[Nd];lia) ⟨H,I.tok _,by rw[BF r];exact q⟩
  .subst e'
   obtain⟨Q7,r,pl,hz⟩:=I.tuple hx
   have hlen:=r.length
   exact truthy_tuple pl (by simp only[Nd];lia) ⟨H,I.tok _,by rw[BF r];exact q⟩
  .subst e'
   obtain⟨hz,hS,vs,r,m⟩:Rh.length<=Nn/\(p == sysModules)=Qf/\∃vs,KV Rh vs/\s.heap.DictOf (fh X.prog X.w) p vs:=I.Rw p _ hx
   have hlen:Rh.length=vs.length:=Paired.length r
   exact wpAny_truthy_dict hS m (by lia) ⟨H,I.tok _,by rw[BG r];exact q⟩
 |_=>exact(show False from e).elim
theorem GX(ha:PE X a ta)(he:∀whole,isTrue a X.env whole=(do let v <-whole;standAt a.pos;holding [v] (truthy v))) :
  PT X a (λσ H Q=>ta σ H λx H' => ∃k,yv X.K x H' k/\Q k H'):=by
 intro pins s σ H Q I h
 exact isTrue_plain (aG (ha pins s σ H _ I h) λv s1 ⟨x,H1,I1,r1,q1⟩=>Eu pins s1 σ H1 x v Q I1 r1 q1) (he _)
theorem lK{x:V}(r:Vals [x] us):∃u,us=[u]/\RelV x u:=by
 cases r with
 |cons r1 r2=>cases r2;exact⟨_,rfl,r1⟩
theorem yT{x:V}(r:Vals [x,y] us):∃u w',us=[u,w']/\RelV x u/\RelV y w':=by
 cases r with
 |cons r1 r2 =>
  cases r2 with
  |cons r3 r4=>cases r4;exact⟨_,_,rfl,r1,r3⟩
theorem Ma:iu X (.builtin "abs") (λxs H Q => ∃i,xs=[.int i]/\Q (.int (if i<0 then -i else i)) H):=by
 intro pins s σ H xs us Q I r h
 obtain⟨i,rfl,q⟩:=h
 obtain⟨u,rfl,t,rfl⟩:=lK r
 exact call_abs_int λu tk=>⟨.int (if i<0 then -i else i),H,I.tok _,⟨_,rfl⟩,q⟩
theorem L7(hc:X.calm=Qt):iu X (.builtin "max") (λxs H Q => ∃i j,xs=[.int i,.int j]/\Q (.int (if j > i then j else i)) H):=by
 intro pins s σ H xs us Q I r h
 obtain⟨i,j,rfl,q⟩:=h
 obtain⟨u,w',rfl,⟨t,rfl⟩,⟨t',rfl⟩⟩:=yT r
 refine max_two_ints (I.ok.hd hc) λh' tk k=>⟨_,H,I.kept k,?_,q⟩
 by_cases hj:j > i
 .rw[QO hj,QO hj];exact⟨_,rfl⟩
 .rw[QU hj,QU hj];exact⟨_,rfl⟩
theorem L6(hc:X.calm=Qt):iu X (.builtin "min") (λxs H Q => ∃i j,xs=[.int i,.int j]/\Q (.int (if j<i then j else i)) H):=by
 intro pins s σ H xs us Q I r h
 obtain⟨i,j,rfl,q⟩:=h
 obtain⟨u,w',rfl,⟨t,rfl⟩,⟨t',rfl⟩⟩:=yT r
 refine min_two_ints (I.ok.hd hc) λh' tk k=>⟨_,H,I.kept k,?_,q⟩
 by_cases hj:j<i
 .rw[QO hj,QO hj];exact⟨_,rfl⟩
 .rw[QU hj,QU hj];exact⟨_,rfl⟩
end
structure Wv(h:U2)(x dx C:U1)(mA:Str->Option M6):Prop where
 obj:h.get? x=Qs (OE C dx)
 ns:h.Ns1 dx mA
 ne:dx≠x
theorem J5{mA:Str->Qo M6}(n:h.Ns1 dx mA):∃od,h.get? dx=Qs od/\∀name,P1 name od=Qs (mA name):=by
 obtain⟨o,es,ep,ho,hd,hk,_,hm⟩:=n
 refine⟨o,ho,λname=>?_⟩
 have e:=hm name
 unfold nsFind findBy at e
 rw[<-Array.find?_toList]at e
 unfold P1
 rw[hd]
 dsimp only
 split
 .rename_i y q
  rw[q]at e
  exact congrArg Qs e
 .rename_i q
  rw[q]at e
  have a:es.toList.any (·.refKey)=Qf:=by
   rw[List.any_eq_false]
   intro y hy
   obtain⟨z,t,zdB⟩:=hk y (Array.mem_toList_iff.mp hy)
   simp[DictEntry.refKey,zdB]
  have a' : ¬ es.toList.any (·.refKey)=Qt:=by rw[a];exact MU
  rw[QU a']
  exact congrArg Qs e
theorem Wv.look{x C:U1}{mA:Str->Qo M6}(I:Wv h x dx C mA):∃od,PySem.W.InstAt h x (OE C dx) C (Qs od)/\∀name,P1 name od=Qs (mA name) :=
 let ⟨od,ho,hl⟩:=J5 I.ns
 ⟨od,⟨I.obj,rfl,rfl,ho⟩,hl⟩
section
variable {A:Ol}{x C f:U1}{mA:Str->Qo M6}{v:M6}
theorem get_map{expr:Bool}{Q:M6->M0->Prop}(X:K.In s.heap)(I:Wv s.heap x dx C mA)(hg:O7 K C name=Qt)(hh:Pj K C=Qt)
  (ha:Nr K (.ref C) name=Qs Qn) (hv:mA name=Qs v) (YW:QW v=Qt) (h:Q v { s with toks:=s.toks+1 }) :
  wpAny (model prog w) A (getAttr (.ref x) name expr) Q E s:=by
 obtain⟨od,J,hl⟩:=I.look
 exact PySem.W.get_value X J (PF hg).1 (PySem.W.findObj_own hh ha rfl (by rw[hl,hv])) YW h
theorem Lc{Q:M6×Ql M6->M0->Prop}(X:K.In s.heap)(I:Wv s.heap x dx C mA)(hg:O7 K C name=Qt)
  (hf:Nr K (.ref C) name=Qs (Qs (.ref f))) (ht:Qq K (.ref f)=Qt) (hv:mA name=Qn) (h:Q (.ref f,[.ref x]) s) :
  wpAny (model prog w) A (getMethod (.ref x) name pl) Q E s:=by
 obtain⟨od,J,hl⟩:=I.look
 exact PySem.W.method_fn X J (PF hg).1 (PF hg).2 hf (beq_iff_eq.mp ht) (by show(P1 name od).map (·.isSome)=Qs Qf;rw[hl,hv];rfl) h
theorem Fs{Q:Unit->M0->Prop}(X:K.In s.heap)(I:Wv s.heap x dx C mA)
  (hs:Nr K (.ref C) "__setattr__"=Qs (Qs (.builtin "object.__setattr__"))) (hp:P4 K C=Qt) (ht:Qj K C name=Qs Qn) (hh:Pj K C=Qt)
  (hw:PySem.Within mA ns) (hsz:ns.length<=Nn)
  (h:∀h',Wv h' x dx C (λy=>if y=name then Qs v else mA y)->Heap.SameBut dx s.heap h'->Q () { s with heap:=h',toks:=s.toks+2 }) :
  wpAny (model prog w) A (setAttr (.ref x) name v) Q E s:=by
 obtain⟨od,J,hl⟩:=I.look
 refine PySem.W.set_plain X J hs (PySem.W.osa_open (s:={ s with toks:=s.toks+1 }) (r:=Qn) X J hp ht λb=>?_)
 obtain⟨cd,hc,Uq⟩:=PySem.W.any_some hh
 have hx:s.heap.get? x=Qs ⟨.ref C,Qs dx,.plain, #[]⟩:=I.obj
 refine MT (Nc (MT (MT (wpAny_loadPart hx (MT (PySem.W.Looks.here (s:={ s with toks:=s.toks+1 }) (PySem.W.looks_clsIn X hc) ?_))))))
 rw[Uq]
 refine Nc (a:=Qs dx) (MT (Nc (MT ?_)))
 refine wpAny_nsSet1 (s:={ s with toks:=s.toks+1 }) I.ns λh' WK UO=>?_
 obtain⟨oD,esD,epD,hoD,hdD,hcD⟩:=WK.count (PySem.Within.cons name v hw)
 refine MT (wpAny_lookBehind hoD (by rw[hdD];exact pastItsLine_dict (NG hcD (by rw[M9];lia))) ?_)
 exact Nc (h _ ⟨(UO.2 _ (Ne.symm I.ne)).trans I.obj,WK,I.ne⟩ UO)
theorem JT{R:Result->M0->Prop}{vs:Ql M6}{kw:Ql (Str×M6)}(X:K.In s.heap)(hm:PJ K C=Qt)
  (hi:Nr K (.ref C) "__init__"=Qs (Qs (.ref f))) (hf:PySem.W.typeIn K (.ref f)=Qs (.type "function"))
  (h:codeAny (model prog w) (A.under (.builtin "type.__call__" ⟨.ref C::vs,kw⟩)) (.call (.ref f) ⟨.ref (s.heap.objs.size+1)::vs,kw⟩) (PySem.W.InitBack (s.heap.objs.size+1) R)
   { s with heap:=(s.heap.push N6).push (OE C s.heap.objs.size) }) :
  codeAny (model prog w) A (.call (.ref C) ⟨vs,kw⟩) R s:=by
 obtain⟨hh,g,d,t,os⟩:=s
 exact PySem.W.make_core (PySem.W.makes_of X hm) (PySem.W.looks_findIn X hi) (λself=>PySem.W.bind_fn X self hf) (.inl rfl) h
end
def cV(f:Str)(v:V):Ql (Str×V)->Ql (Str×V)
 |[]=>[(f,v)]
 |(g,x)::r=>if g=f then(g,v)::r else(g,x)::cV f v r
theorem Bo(f g:Str)(v:V):∀fs:Ql (Str×V),(cV f v fs).lookup g=if g=f then Qs v else fs.lookup g
 |[]=>by
  show OT g [(f,v)]=_
  by_cases h:g=f
  .have hb:(g == f)=Qt:=beq_iff_eq.mpr h
   simp only[OT,hb,QO h]
  .have hb:(g == f)=Qf:=beq_eq_false_iff_ne.mpr h
   simp only[OT,hb,QU h]
 |(k,x)::r=>by
  have ih:=Bo f g v r
  rw[show cV f v ((k,x)::r)=(if k=f then(k,v)::r else(k,x)::cV f v r) from rfl]
  by_cases hk:k=f
  .rw[QO hk]
   by_cases h:g=k
   .have hb:(g == k)=Qt:=beq_iff_eq.mpr h
    simp only[OT,hb,QO (h.trans hk)]
   .have hb:(g == k)=Qf:=beq_eq_false_iff_ne.mpr h
    simp only[OT,hb,QU (λe:g=f=>h (e.trans hk.symm))]
  .rw[QU hk]
   by_cases h:g=k
   .have hb:(g == k)=Qt:=beq_iff_eq.mpr h
    simp only[OT,hb,QU (λe:g=f=>hk (h.symm.trans e))]
   .have hb:(g == k)=Qf:=beq_eq_false_iff_ne.mpr h
    simp only[OT,hb]
    exact ih
theorem wB(f:Str)(v:V):∀fs:Ql (Str×V),f∈(cV f v fs).map (·.1)/\∀g,g∈fs.map (·.1)->g∈(cV f v fs).map (·.1)
 |[]=>⟨by simp[cV],λg h=>by simp at h⟩
 |(k,x)::r=>by
  obtain⟨i1,i2⟩:=wB f v r
  rw[show cV f v ((k,x)::r)=(if k=f then(k,v)::r else(k,x)::cV f v r) from rfl]
  by_cases hk:k=f
  .rw[QO hk]
   subst hk
   exact⟨by simp,λg h=>by simpa using h⟩
  .rw[QU hk]
   refine⟨?_,λg h=>?_⟩
   .rw[M4]
    exact MM _ i1
   .rw[M4]at h ⊢
    rcases MQ.mp h with e | e
    .exact MQ.mpr (.inl e)
    .exact MM _ (i2 g e)
theorem Bw(f:Str)(v:V):∀fs:Ql (Str×V),(cV f v fs).length<=fs.length+1
 |[]=>by simp[cV]
 |(k,x)::r=>by
  have ih:=Bw f v r
  rw[show cV f v ((k,x)::r)=(if k=f then(k,v)::r else(k,x)::cV f v r) from rfl]
  by_cases hk:k=f
  .rw[QO hk,M9,M9];lia
  .rw[QU hk,M9,M9];lia
theorem Ui.some_of{o:Qo M6}(r:Ui (Qs v) o):∃u,o=Qs u/\RelV v u:=by
 cases o with
 |none=>exact(show False from r).elim
 |some u=>exact⟨u,rfl,r⟩
theorem Ui.none_of{o:Qo M6}(r:Ui Qn o):o=Qn:=by
 cases o with
 |none=>rfl
 |some u=>exact(show False from r).elim
theorem K7 (r:RelV v u):QW u=Qt:=by
 cases v with
 |Ri=>cases(show u=Pw from r);rfl
 |bl b=>cases(show u=RH b from r);rfl
 |int i=>obtain⟨t,e⟩:=(show ∃t,u=Rk i t from r);cases e;rfl
 |str x=>obtain⟨t,e⟩:=(show ∃t,u=Rl x t from r);cases e;rfl
 |Uh b=>obtain⟨t,e⟩:=(show ∃t,u=SE b t from r);cases e;rfl
 |Yd b=>obtain⟨t,e⟩:=(show ∃t,u=SF b t from r);cases e;rfl
 |ref a=>cases(show u=M7 a from r);rfl
 |ty n=>cases(show u=P9 n from r);rfl
section
variable {a C:U1}{fs WQ:Ql (Str×V)}
theorem wW(Rw:SA P w H h)(e:H a=Qs (.ins C dx fs)):∃mA,Wv h a dx C mA/\(∀f,Ui (fs.lookup f) (mA f))/\PySem.Within mA (fs.map (·.1))/\fs.length<=1000/\H dx=Qs (.own a):=by
 obtain⟨d,z,ne,ob,mA,n,r,q⟩:=(show SJ P w H h a (.ins C dx fs) from Rw a _ e)
 exact⟨mA,⟨ob,n,ne⟩,r,q,z,d⟩
end
structure Sd(K:MK)(C:U1):Prop where
 pg:O7 K C Str.empty=Qt
 hd:Pj K C=Qt
 po:P4 K C=Qt
 sa:Nr K (.ref C) "__setattr__"=Qs (Qs (.builtin "object.__setattr__"))
theorem Sd.get{C:U1}(c:Sd K C)(f:Str):O7 K C f=Qt:=c.pg
def RE(K:MK)(C:U1)(f:Str):Prop:=Nr K (.ref C) f=Qs Qn
theorem RE.zbU{C:U1}(n:RE K C f):Qj K C f=Qs Qn:=by
 unfold Qj
 rw[show Nr K (.ref C) f=Qs Qn from n]
 rfl
structure Meth(K:MK)(C:U1)(m:Str)(f:U1):Prop where
 at_:Nr K (.ref C) m=Qs (Qs (.ref f))
 fn:Qq K (.ref f)=Qt
 kp:N2 K (.ref f)=Qt
section
variable {σ:St}{a C:U1}{fs:Ql (Str×V)}{A:Ol}
theorem BY{b:Bool}{Q:M6->M0->Prop}(I:Inv X pins σ H s)(e:H a=Qs (.ins C dx fs))(c:Sd X.K C)(n:RE X.K C f)(l:fs.lookup f=Qs v)
  (h:∀u s',Inv X pins σ H s'->RelV v u->Q u s'):wpAny (model X.prog X.w) A (getAttr (.ref a) f b) Q E s:=by
 obtain⟨mA,O,r,_,_,_⟩:=wW I.Rw e
 obtain⟨u,hu,ru⟩:=Ui.some_of (v:=v) (o:=mA f) (by rw[<-l];exact r f)
 exact get_map I.TC O (c.get f) c.hd n hu (K7 ru) (h u _ (I.tok _) ru)
theorem BX{g:U1}{Q:M6×Ql M6->M0->Prop}(I:Inv X pins σ H s)(e:H a=Qs (.ins C dx fs))(c:Sd X.K C)(k:Meth X.K C m g)(l:fs.lookup m=Qn)
  (h:Q (.ref g,[.ref a]) s):wpAny (model X.prog X.w) A (getMethod (.ref a) m pl) Q E s:=by
 obtain⟨mA,O,r,_,_,_⟩:=wW I.Rw e
 have hn:mA m=Qn:=Ui.none_of (by rw[<-l];exact r m)
 exact Lc I.TC O (c.get m) k.at_ k.fn hn h
theorem zq{Q:Unit->M0->Prop}(I:Inv X pins σ H s)(e:H a=Qs (.ins C dx fs))(c:Sd X.K C)(n:RE X.K C f)(hl:fs.length<1000)(ry:RelV y u)
  (h:∀s',Inv X pins σ (upd H a (.ins C dx (cV f y fs))) s'->Q () s'):wpAny (model X.prog X.w) A (setAttr (.ref a) f u) Q E s:=by
 obtain⟨mA,O,r,wi,_,ho⟩:=wW I.Rw e
 have hz:(fs.map (·.1)).length<=Nn:=by rw[MY,sizeLine_eq];lia
 refine Fs I.TC O c.sa c.po n.zbU c.hd wi hz λh' O' sb=>h _ ?_
 have hd:∃o,h'.get? dx=Qs o:=let ⟨o,_,_,e',_⟩:=O'.ns;⟨o,e'⟩
 refine I.write (x:=a) (e:=dx) (by rw[e];exact True.intro) (.inr ho) (λb q hb z=>(sb.2 b hb).trans z) hd ?_
 refine⟨by rw[aN O.ne];exact ho,?_,O.ne,O'.obj,_,O'.ns,λg=>?_,λg hg=>?_⟩
 .have:=Bw f y fs;lia
 .show Ui ((cV f y fs).lookup g) (if g=f then Qs u else mA g)
  rw[Bo]
  by_cases q:g=f
  .rw[QO q,QO q];exact ry
  .rw[QU q,QU q];exact r g
 .by_cases q:g=f
  .rw[q];exact(wB f y fs).1
  .refine(wB f y fs).2 g (wi g λz=>hg ?_)
   show(if g=f then Qs u else mA g)=Qn
   rw[QU q];exact z
theorem Inv.made(I:Inv X pins σ H s):Inv X pins σ (upd (upd H s.heap.objs.size (.own (s.heap.objs.size+1))) (s.heap.objs.size+1) (.ins C s.heap.objs.size []))
  { s with heap:=(s.heap.push N6).push (OE C s.heap.objs.size) }:=by
 have e1:(s.heap.push N6).get? s.heap.objs.size=Qs N6:=Nh s.heap rfl
 have e2:((s.heap.push N6).push (OE C s.heap.objs.size)).get? (s.heap.objs.size+1)=Qs (OE C s.heap.objs.size):=by
  have:=Nh (s.heap.push N6) (o:=OE C s.heap.objs.size) rfl
  rwa [Pq]at this
 have e3:(s.heap.push N6).Ns s.heap.objs.size (λ_=>Qn):=⟨N6, #[],_,e1,rfl,(λe he=>absurd he (by simp)),λ_=>rfl⟩
 have I1:=I.laid (a:=s.heap.objs.size) (o:=.own (s.heap.objs.size+1)) (h':=s.heap.push N6) (t':=s.toks) (λb u q=>MV _ q) (MZ _) ⟨_,e1⟩
 refine I1.laid (a:=s.heap.objs.size+1) (o:=.ins C s.heap.objs.size []) (t':=s.toks) (λb u q=>MV _ q) (Sb (Pq _ _)) ?_
 have ne:s.heap.objs.size≠s.heap.objs.size+1:=NC (NP _)
 refine⟨by rw[aN ne,bF],OU _,ne,e2,λ_=>Qn,(Heap.Ns1.of_empty e3).at λo q=>MV _ q,λ_=>True.intro,λy hy=>absurd rfl hy⟩
theorem Mo{f:Str}{s:M0}{Q:M6->M0->Prop}(hb:attributeBase e f env (eval e env)=eval e env)
  (h:wpAny (model prog w) A (eval e env) (λo s₁=>wpAny (model prog w) A (getAttr o f Qt) Q E s₁) E s):wpAny (model prog w) A (eval (.Attribute e f pos) env) Q E s :=
 Attribute_any_ h (by rw[arm_eval_Attribute,hb])
end
def ET(K:MK)(ta:TE)(f:Str):TE:=λσ H Q=>ta σ H λx H1 => ∃a C dx fs v,x=.ref a/\H1 a=Qs (.ins C dx fs)/\Sd K C/\RE K C f/\fs.lookup f=Qs v/\Q v H1
def Ge(K:MK)(ta tv:TE)(f:Str):TS:=λD σ H=>tv σ H λy H1=>ta σ H1 λx H2 => ∃a C dx fs,x=.ref a/\H2 a=Qs (.ins C dx fs)/\Sd K C/\RE K C f/\fs.length<1000 /\
 D.nx σ (upd H2 a (.ins C dx (cV f y fs)))
def DK(X:Cx)(op:Operator)(rd:V->V->Hp->VK->Prop):Prop :=
 ∀(pins:Ql (U1×Obj)) (s:M0) (σ:St) (H:Hp) (x y:V) (u v:M6) (Q:VK),Inv X pins σ H s->RelV x u->RelV y v->rd x y H Q->wpAny (model X.prog X.w) X.A (inplaceOp op u v) (EP X pins σ Q) X.xe s
def Gd(K:MK)(ta tv:TE)(rd:V->V->Hp->VK->Prop)(f:Str):TS:=λD σ H=>ta σ H λx H1 => ∃a C dx fs v,x=.ref a/\H1 a=Qs (.ins C dx fs)/\Sd K C/\RE K C f/\fs.lookup f=Qs v /\
 tv σ H1 λy H2=>rd v y H2 λz H3 => ∃Zm WQ,H3 a=Qs (.ins C Zm WQ)/\WQ.length<1000/\D.nx σ (upd H3 a (.ins C Zm (cV f z WQ)))
section
variable {value:U3}{tv:TE}
theorem kz(he:PE X e ta)(hb:attributeBase e f X.env (eval e X.env)=eval e X.env):PE X (.Attribute e f pos) (ET X.K ta f):=by
 intro pins s σ H Q I h
 refine Mo hb (aG (he pins s σ H _ I h) λu s1 ⟨x,H1,I1,rx,a,C,dx,fs,v,ex,ea,c,n,l,q⟩=>?_)
 subst ex
 obtain rfl:u=M7 a:=rx
 exact BY I1 ea c n l λu' s2 I2 ru=>⟨v,H1,I2,ru,q⟩
theorem G9(ha:PE X o ta)(hv:PE X value tv)(hs:swapsWith value (Qs (.Attribute o f pos')) pos.line X.env=pure Qf):PS X (.Assign [.Attribute o f pos'] value pos) (Ge X.K ta tv f):=by
 intro pins s σ H D I h
 refine plainObj_wpAny_Assign_Attribute (aG (hv pins s σ H _ I h) λu s1 ⟨y,H1,I1,ry,q⟩=>aG (ha pins s1 σ H1 _ I1 q) λov s2 ⟨x,H2,I2,rx,a,C,dx,fs,ex,ea,c,n,l,q2⟩=>?_) hs
 subst ex
 obtain rfl:ov=M7 a:=rx
 exact zq I2 ea c n l ry λs3 I3=>⟨σ,_,I3,q2⟩
theorem G8{rd:V->V->Hp->VK->Prop}(ha:PE X o ta)(hv:PE X value tv)(hop:DK X op rd):PS X (.AugAssign (.Attribute o f Tn) op value pos) (Gd X.K ta tv rd f):=by
 intro pins s σ H D I h
 refine wpAny_AugAssign_AttributeAny (aG (ha pins s σ H _ I h) λov s1 ⟨x,H1,I1,rx,a,C,dx,fs,v,ex,ea,c,n,l,q⟩=>?_)
 subst ex
 obtain rfl:ov=M7 a:=rx
 refine BY I1 ea c n l λu s2 I2 ru=>aG (hv pins s2 σ H1 _ I2 q) λw3 s3 ⟨y,H2,I3,ry,q3⟩=>aG (hop pins s3 σ H2 v y u w3 _ I3 ru ry q3) λw4 s4 ⟨z,H3,I4,rz,Zm,WQ,ea',l',q4⟩=>?_
 exact zq I4 ea' c n l' rz λs5 I5=>⟨σ,_,I5,q4⟩
end
structure Sh(k:Nat)(A:Ol):Prop where
 hd:A.handled=Qn
 dp:A.depth+3*k+5<recursionLimit
 un:A.units+16*k+200<cLine
theorem Sh.mono{k:Nat}{A:Ol}(r:Sh k A)(h:j<=k:=by decide):Sh j A:=⟨r.hd,by have:=r.dp;lia,by have:=r.un;lia⟩
theorem Sh.deeper{k:Nat}{A:Ol}(r:Sh (k+1) A)(env:Env):Sh k (A.deeper env) :=
 ⟨r.hd,by have:=r.dp;show A.depth+1+3*k+5<_;lia,by have:=r.un;show A.units+3+16*k+200<_;lia⟩
theorem JU{A:Ol}{C:U1}{kw:Ql (Str×M6)}:(A.under (.builtin "type.__call__" ⟨.ref C::us,kw⟩)).depth=A.depth+1:=by
 first | rfl | simp[Around.under,Code.weight,Code.isCreation,Code.isGuard,Code.isCaller,Code.frames,Code.isFrame,guardIds]
theorem JS{A:Ol}{C:U1}{kw:Ql (Str×M6)}:(A.under (.builtin "type.__call__" ⟨.ref C::us,kw⟩)).units=A.units+1:=by
 first | rfl | simp[Around.under,Code.cUnits,Code.frames,Code.isFrame]
theorem Sh.make{k:Nat}{A:Ol}(r:Sh (k+1) A)(C:U1)(us:Ql M6)(kw:Ql (Str×M6)):Sh k (A.under (.builtin "type.__call__" ⟨.ref C::us,kw⟩)) :=
 ⟨r.hd,by have:=r.dp;rw[JU];lia,by have:=r.un;rw[JS];lia⟩
theorem Sh.depth{k:Nat}{A:Ol}(r:Sh k A):A.depth<recursionLimit:=by have:=r.dp;lia
theorem Sh.units{k:Nat}{A:Ol}(r:Sh k A):A.units+64<cLine:=by have:=r.un;lia
def zc:TA:=λ_ H Q=>Q [] H
def EW(ta:TE)(tr:TA):TA:=λσ H Q=>ta σ H λx H1=>tr σ H1 λxs H2=>Q (x::xs) H2
section
variable {t:TA}
theorem gH:PA X [] zc:=λ_ _ _ _ H Q I h=>Calls.spliced_nil ⟨[],H,I,.nil,h⟩
theorem gI(ha:PE X e te)(hr:PA X es t)(hs:Na (e::es) X.env=(Qf,eval e X.env)::Na es X.env:=by rfl):PA X (e::es) (EW te t):=by
 intro pos pins s σ H Q I h
 rw[hs]
 show wpAny _ _ (spliced ((Qf,eval e X.env)::OY pos (Na es X.env))) _ _ s
 refine Calls.spliced_cons (aG (ha pins s σ H _ I h) λu s1 ⟨x,H1,I1,r1,q1⟩=>?_)
 exact aG (hr pos pins s1 σ H1 _ I1 q1) λus s2 ⟨xs,H2,I2,r2,q2⟩=>⟨x::xs,H2,I2,.cons r1 r2,q2⟩
def EE(t:TA):TE:=λσ H Q=>t σ H λxs H1=>xs.length<=Nn/\∀p,H1 p=Qn->Q (.ref p) (upd H1 p (.tup xs))
def EN(t:TA):TE:=λσ H Q=>t σ H λxs H1=>xs.length<=Nn/\∀p,H1 p=Qn->Q (.ref p) (upd H1 p (.lst xs))
theorem sJ{x1}(h:PA X es t):PE X (.Tuple es x1 pos) (EE t):=by
 intro pins s σ H Q I hq
 refine wpAny_Tuple_spliced (aG (h pos pins s σ H _ I hq) λus s1 ⟨xs,H1,I1,r,z,q⟩=>⟨by rw[<-r.length];exact z,?_⟩)
 have hf:H1 s1.heap.objs.size=Qn:=I1.Rw.fresh (MZ _)
 refine⟨.ref s1.heap.objs.size,upd H1 s1.heap.objs.size (.tup xs),I1.laid (t':=s1.toks) (λb u e=>MV _ e) (MZ _) ?_,rfl,q _ hf⟩
 exact⟨z,us,r,⟨_,Nh _ rfl,rfl,_,rfl⟩⟩
theorem Au(h:PA X es t):PE X (.List es pos) (EN t):=by
 intro pins s σ H Q I hq
 refine wpAny_List_spliced (aG (h pos pins s σ H _ I hq) λus s1 ⟨xs,H1,I1,r,z,q⟩=>⟨by rw[<-r.length];exact z,?_⟩)
 have hf:H1 s1.heap.objs.size=Qn:=I1.Rw.fresh (MZ _)
 refine⟨.ref s1.heap.objs.size,upd H1 s1.heap.objs.size (.lst xs),I1.laid (t':=s1.toks) (λb u e=>MV _ e) (MZ _) ?_,rfl,q _ hf⟩
 exact⟨z,us,0,r,Nh _ rfl⟩
end
abbrev Sp:=Ql V->Hp->VK->XK->Prop
abbrev iw:=Ql Env->Hp->M0->XK->M6->M0->Prop
structure Wz(P:NA)(w:OX)(K:MK)(mg:Str->Option M6)(base:TL)(A:Ol)(outer:List Env)(s:M0)(H:Hp):Prop where
 frames:A.frames=Qs outer
 mod:Mod K mg base
 bs:∀b o,base.get? b=Qs o->s.heap.get? b=Qs o/\H b=Qn
 Ve:base.objs.size<=s.heap.objs.size
 Ur:s.heap.FunFrames base outer
 VU:∀b∈gP outer,H b=Qn
 Rw:SA P w H s.heap
 bare:AllBare s.gens
 tabs:∀p∈base.tabs,H p.1=Qs (.TX p.2)
inductive CE(outer:List Env)(P:NA)(w:OX)(H:Hp)(s:M0)(Q:VK)(u:M6)(s':M0):Prop
 |mk (v:V) (H':Hp) (h_0:s'.os=s.os) (h_1:AllBare s'.gens) (h_2:Un (gP outer) [] H H' s.heap s'.heap) (h_3:SA P w H' s'.heap) (h_4:RelV v u) (h_5:Q v H')
def CR(CX:iw)(outer:Ql Env)(P:NA)(w:OX)(H:Hp)(s:M0)(Q:VK)(E:XK)(r:Result)(s':M0):Prop :=
 match r with
 |.ok (.ret u)=>CE outer P w H s Q u s'
 |.ok _=>False
 |.error e=>CX outer H s E e s'
structure RO(P:NA)(w:OX)(K:MK)(mg:Str->Option M6)(base:TL)(CX:iw)(k:Nat)(f:U1)(fd:N8)(ps:List Str)(sp:Sp):Prop where
 len:∀vs H Q E,sp vs H Q E->vs.length=ps.length
 run:∀(A:Ol) (outer:List Env) (s:M0) (H:Hp) (args:Args) (us:List M6) (vs:List V) (Q:VK) (E:XK),Sh k A->Wz P w K mg base A outer s H->BindsTo s fd args (ps.zip us)->Vals vs us->sp vs H Q E ->
  codeAny (model P w) A (.call (.ref f) args) (CR CX outer P w H s Q E) s
theorem RO.imp{mg:Str->Qo M6}{CX:iw}{k:Nat}{f:U1}{sp Z0:Sp}(F:RO P w K mg base CX k f fd ps sp)
  (h:∀vs H Q E,Z0 vs H Q E->sp vs H Q E):RO P w K mg base CX k f fd ps Z0 :=
 ⟨λvs H Q E q=>F.len vs H Q E (h _ _ _ _ q),λA outer s H args us vs Q E hr he hb hv hs=>F.run A outer s H args us vs Q E hr he hb hv (h _ _ _ _ hs)⟩
theorem Wz.make{mg:Str->Qo M6}{A:Ol}{outer:Ql Env}(e:Wz P w K mg base A outer s H)(C:U1)(us:Ql M6)(kw:Ql (Str×M6)) :
  Wz P w K mg base (A.under (.builtin "type.__call__" ⟨.ref C::us,kw⟩)) outer s H:=⟨by first | exact e.frames | (simpa[Around.under,Code.envs,Code.isFrame,pushEnvs] using e.frames),e.mod,e.bs,e.Ve,e.Ur,e.VU,e.Rw,e.bare,e.tabs⟩
section
variable {σ:St}{s':M0}
theorem Inv.zbb(I:Inv X pins σ H s):Wz X.prog X.w X.K X.mg X.base X.A X.stack s H :=
 ⟨I.ok.frames,I.ok.mod,I.bs,NG I.ok.Ve I.sz,I.stack,I.ZZ,I.Rw,I.bare,λp hp=>I.base.Uk _ _ (I.ok.tabs p hp)⟩
theorem Inv.after (I:Inv X pins σ H s)(h:CE X.stack X.prog X.w H s Q u s'):EP X pins σ Q u s':=by
 obtain⟨v,H',os,bare,un,Rw,r,q⟩:=h
 obtain⟨hh,g,d,t,os'⟩:=s'
 obtain rfl:os'=s.os:=os
 exact⟨v,H',I.call (h':=hh) (g':=g) (d':=d) (t':=t) (ch:=[]) un Rw bare (λb z=>absurd z (by simp)),r,q⟩
end
def EX(sp:Sp)(Tp:Ql V)(E:XK)(t:TA):TE:=λσ H Q=>t σ H λvs H1=>sp (vs++Tp) H1 Q E
def qH(C:U1)(m:Str)(sp:Sp)(Tp:Ql V)(E:XK)(ta:TE)(t:TA):TE:=λσ H Q=>ta σ H λx H1 => ∃a dx fs,x=.ref a/\H1 a=Qs (.ins C dx fs)/\fs.lookup m=Qn /\
 t σ H1 λvs H2=>sp (x ::(vs++Tp)) H2 Q E
def EM(C:U1)(sp:Sp)(Tp:Ql V)(E:XK)(t:TA):TE:=λσ H Q=>t σ H λvs H1 => ∀x dx,H1 x=Qn->H1 dx=Qn->dx≠x ->
 sp (.ref x ::(vs++Tp)) (upd (upd H1 dx (.own x)) x (.ins C dx [])) (λv H2=>v=.Ri/\Q (.ref x) H2) E
def Binds(K:MK)(fd:N8)(ps:Ql Str)(ds:Ql M6):Prop :=
 ∀(s:M0) (us:Ql M6),K.In s.heap->(us++ds).length=ps.length->BindsTo s fd ⟨us,[]⟩ (ps.zip (us++ds))
theorem Binds.all (h:∀us:Ql M6,us.length=ps.length->bindArgs fd ⟨us,[]⟩=pure (ps.zip us)):Binds K fd ps []:=λs us _ hl=>by
 rw[Nt]at hl ⊢
 exact .of_eq (h us hl)
def lj(CX:iw)(X:Cx)(E:XK):Prop := ∀(pins:Ql (U1×Obj)) (σ:St) (H:Hp) (s:M0) (e:M6) (s':M0),Inv X pins σ H s->CX X.stack H s E e s'->X.xe e s'
section
variable {CX:iw}{k:Nat}{f C:U1}{sp:Sp}{Tp:Ql V}{ds:Ql M6}{E:XK}{p:Pos}{t:TA}
theorem vi{σ:St}(F:RO X.prog X.w X.K X.mg X.base CX k f fd ps sp)(hr:Sh k X.A)(hb:Binds X.K fd ps ds)(hd:Vals Tp ds)(hx:lj CX X E)
  (I:Inv X pins σ H s) (r:Vals vs us) (h:sp (vs++Tp) H Q E):wpAny (model X.prog X.w) X.A (call (.ref f) us) (EP X pins σ Q) X.xe s:=by
 have r2:Vals (vs++Tp) (us++ds):=r.append hd
 have hl:(us++ds).length=ps.length:=by rw[<-r2.length];exact F.len _ _ _ _ h
 refine wpAny_call (codeAny_mono (F.run X.A X.stack s H ⟨us,[]⟩ (us++ds) (vs++Tp) Q E hr I.zbb (hb s us I.TC hl) r2 h) λr s' hq=>?_)
 cases r with
 |error e=>exact hx pins σ H s e s' I hq
 |ok fl =>
  cases fl with
  |ret u=>exact I.after hq
  |next=>exact False.elim hq
  |brk=>exact False.elim hq
  |cont=>exact False.elim hq
theorem vS(F:RO X.prog X.w X.K X.mg X.base CX k f fd ps sp)(hr:Sh k X.A)(hg:Gl X x)(hm:X.mg x=Qs (.ref f))(hk:N2 X.K (.ref f)=Qt)(hb:Binds X.K fd ps ds)(hd:Vals Tp ds)(hx:lj CX X E)
  (ha:PA X (e::es) t) (TQ:Sv x:=by decide) (he:Na (e::es) X.env=(Qf,eval e X.env)::Na es X.env:=by rfl) (SQ:(OY pos (Na es X.env)).any (·.1)=Qf:=by rfl) :
  PE X (.Call (.Name x p) (e::es) [] pos) (EX sp Tp E t):=by
 intro pins s σ H Q I h
 refine wpAny_Call_Name_kw (By I hg hm ?_ TQ)
 refine PV (h₀:=X.base) I.ok.mod.Xl hk (aG (ha pos pins s σ H _ I h) λus s1 ⟨vs,H1,I1,r,q⟩=>⟨I1.TC,?_⟩) he SQ
 exact vi F hr hb hd hx I1 r q
theorem As (he:PE X o ta)(c:Sd X.K C)(hm:Meth X.K C m f)(F:RO X.prog X.w X.K X.mg X.base CX k f fd ps sp)(hr:Sh k X.A)(hb:Binds X.K fd ps ds)(hd:Vals Tp ds)(hx:lj CX X E)(ha:PA X (e::es) t)
  (Sf:Na (e::es) X.env=(Qf,eval e X.env)::Na es X.env:=by rfl) (SQ:(OY pos (Na es X.env)).any (·.1)=Qf:=by rfl)
  (ht:eval (.Call (.Attribute o m apos) (e::es) [] pos) X.env=(do
   let ov <-eval o X.env
   standAt apos.atName
   let (f,first) <-holding [ov] (getMethod ov m pl)
   callWith pos f first (OY pos (Na (e::es) X.env)) (backToKw pos (keywordEach [] X.env))):=by rfl) :
  PE X (.Call (.Attribute o m apos) (e::es) [] pos) (qH C m sp Tp E ta t):=by
 intro pins s σ H Q I h
 refine Qh (pl:=pl) (aG (he pins s σ H _ I h) λu s1 ⟨x,H1,I1,rx,a,dx,fs,ex,ea,l,q⟩=>?_) ht
 subst ex
 obtain rfl:u=M7 a:=rx
 refine BX I1 ea c hm l ?_
 refine PV (first:=[.ref a]) (h₀:=X.base) I.ok.mod.Xl hm.kp (aG (ha pos pins s1 σ H1 _ I1 q) λus s2 ⟨vs,H2,I2,r,q2⟩=>⟨I2.TC,?_⟩) Sf SQ
 exact vi (us:=.ref a::us) (vs:=.ref a::vs) F hr hb hd hx I2 (.cons rfl r) q2
theorem Ar (he:PE X o ta)(c:Sd X.K C)(hm:Meth X.K C m f)(F:RO X.prog X.w X.K X.mg X.base CX k f fd ps sp)(hr:Sh k X.A)(hb:Binds X.K fd ps ds)(hd:Vals Tp ds)(hx:lj CX X E)
  (ht:eval (.Call (.Attribute o m apos) [] [] pos) X.env=(do
   let ov <-eval o X.env
   standAt apos.atName
   let (f,first) <-holding [ov] (getMethod ov m pl)
   callWith pos f first (OY pos (Na [] X.env)) (backToKw pos (keywordEach [] X.env))):=by rfl) :
  PE X (.Call (.Attribute o m apos) [] [] pos) (qH C m sp Tp E ta zc):=by
 intro pins s σ H Q I h
 refine Qh (pl:=pl) (aG (he pins s σ H _ I h) λu s1 ⟨x,H1,I1,rx,a,dx,fs,ex,ea,l,q⟩=>?_) ht
 subst ex
 obtain rfl:u=M7 a:=rx
 refine BX I1 ea c hm l ?_
 exact PySem.W.callWith_K0 (first:=[.ref a]) I1.TC hm.kp (vi (us:=[.ref a]) (vs:=[.ref a]) F hr hb hd hx I1 (.cons rfl .nil) q)
structure Mk(K:MK)(C f:U1):Prop where
 makes:PJ K C=Qt
 init:Nr K (.ref C) "__init__"=Qs (Qs (.ref f))
 fn:Qq K (.ref f)=Qt
 kp:N2 K (.ref C)=Qt
theorem Gf{σ:St}(M:Mk X.K C f)(F:RO X.prog X.w X.K X.mg X.base CX k f fd ps sp)(hr:Sh (k+1) X.A)(hb:Binds X.K fd ps ds)(hd:Vals Tp ds)
  (hx:lj CX X E) (I:Inv X pins σ H s) (r:Vals vs us)
  (h:∀x dx,H x=Qn->H dx=Qn->dx≠x->sp (.ref x ::(vs++Tp)) (upd (upd H dx (.own x)) x (.ins C dx [])) (λv H2=>v=.Ri/\Q (.ref x) H2) E) :
  wpAny (model X.prog X.w) X.A (call (.ref C) us) (EP X pins σ Q) X.xe s:=by
 have hq:=h (s.heap.objs.size+1) s.heap.objs.size (I.Rw.fresh (QI _)) (I.Rw.fresh (MZ _)) (NC (NP _))
 have I2:=Inv.made (C:=C) I
 have r2:Vals (V.ref (s.heap.objs.size+1) ::(vs++Tp)) (M7 (s.heap.objs.size+1) ::(us++ds)):=.cons rfl (r.append hd)
 have hl:(M7 (s.heap.objs.size+1)::us++ds).length=ps.length:=by
  have e:=r2.length
  rw[F.len _ _ _ _ hq]at e
  exact e.symm
 refine wpAny_call (JT (f:=f) I.TC M.makes M.init (beq_iff_eq.mp M.fn) (codeAny_mono (F.run _ X.stack _ _ ⟨M7 (s.heap.objs.size+1)::us,[]⟩ (M7 (s.heap.objs.size+1) ::(us++ds)) _ _ E (hr.make C us [])
  (I2.zbb.make C us []) (hb _ (M7 (s.heap.objs.size+1)::us) I2.TC hl) r2 hq) λr s' Xs=>?_))
 cases r with
 |error e=>exact hx pins σ _ _ e s' I2 Xs
 |ok fl =>
  cases fl with
  |ret u =>
   obtain⟨v,H',I3,rv,ev,q3⟩:=I2.after Xs
   subst ev
   exact⟨rv,⟨V.ref (s.heap.objs.size+1),H',I3,rfl,q3⟩⟩
  |next=>exact False.elim Xs
  |brk=>exact False.elim Xs
  |cont=>exact False.elim Xs
theorem Ia(M:Mk X.K C f)(F:RO X.prog X.w X.K X.mg X.base CX k f fd ps sp)(hr:Sh (k+1) X.A)(hg:Gl X x)(hm:X.mg x=Qs (.ref C))(hb:Binds X.K fd ps ds)(hd:Vals Tp ds)(hx:lj CX X E)
  (ha:PA X (e::es) t) (TQ:Sv x:=by decide) (he:Na (e::es) X.env=(Qf,eval e X.env)::Na es X.env:=by rfl) (SQ:(OY pos (Na es X.env)).any (·.1)=Qf:=by rfl) :
  PE X (.Call (.Name x p) (e::es) [] pos) (EM C sp Tp E t):=by
 intro pins s σ H Q I h
 refine wpAny_Call_Name_kw (By I hg hm ?_ TQ)
 refine PV (h₀:=X.base) I.ok.mod.Xl M.kp (aG (ha pos pins s σ H _ I h) λus s1 ⟨vs,H1,I1,r,q⟩=>⟨I1.TC,?_⟩) he SQ
 exact Gf M F hr hb hd hx I1 r q
end
structure Sr(N P:List Str)(sc:QP):Prop where
 kind:sc.kind=.function
 co:sc.isCoroutine=Qf
 gen:sc.isGenerator=Qf
 nd:N.Nodup
 pre:N.take P.length=P
 par:∀x∈P,sc.names.lookup x=Qs .local\/sc.names.lookup x=Qs .cell
 zcv:∀y∈sc.names,y.2≠.free
theorem Dk{kindOf:Str->Qo Ou}{x:Str}:∀{binds:Ql (Str×M6)}{m:Str->Qo M6},(∀v,(x,v)∉binds)->bindL kindOf binds m x=m x
 |[],_,_=>rfl
 |(n,v)::r,m,h=>by
  unfold bindL
  rw[Dk λw hw=>h w (MM _ hw)]
  split
  .have:x≠n:=by rintro rfl;exact h v MN
   simp[this]
  .rfl
theorem Dm{kindOf:Str->Qo Ou}{x:Str}:∀{binds:Ql (Str×M6)}{m:Str->Qo M6},(∀v,(x,v)∉binds)->bindC kindOf binds m x=m x
 |[],_,_=>rfl
 |(n,v)::r,m,h=>by
  unfold bindC
  rw[Dm λw hw=>h w (MM _ hw)]
  split
  .rfl
  .have:x≠n:=by rintro rfl;exact h v MN
   simp[this]
theorem Dl{kindOf:Str->Qo Ou}{x:Str}{v:M6}:∀{P:Ql Str}{vs:Ql M6}{i:Nat}{m:Str->Qo M6},P.Nodup->P[i]?=Qs x->vs[i]?=Qs v->kindOf x=Qs .local ->
  bindL kindOf (P.zip vs) m x=Qs v
 |[],_,_,_,_,h,_,_=>by simp at h
 |_::_,[],_,_,_,_,h,_=>by simp at h
 |p::P,w::vs,0,m,nd,h1,h2,hk=>by
  simp at h1 h2;subst h1;subst h2
  show bindL kindOf ((p,w)::P.zip vs) m p=_
  unfold bindL
  rw[Dk λv hv=>(M3.mp nd).1 (Qk hv).1,QO hk]
  simp
 |p::P,w::vs,i+1,m,nd,h1,h2,hk=>by
  show bindL kindOf ((p,w)::P.zip vs) m x=_
  unfold bindL
  exact Dl (i:=i) (M3.mp nd).2 (by simpa using h1) (by simpa using h2) hk
theorem Dp{kindOf:Str->Qo Ou}{x:Str}{v:M6}:∀{P:Ql Str}{vs:Ql M6}{i:Nat}{m:Str->Qo M6},P.Nodup->P[i]?=Qs x->vs[i]?=Qs v->kindOf x≠Qs .local ->
  bindC kindOf (P.zip vs) m x=Qs v
 |[],_,_,_,_,h,_,_=>by simp at h
 |_::_,[],_,_,_,_,h,_=>by simp at h
 |p::P,w::vs,0,m,nd,h1,h2,hk=>by
  simp at h1 h2;subst h1;subst h2
  show bindC kindOf ((p,w)::P.zip vs) m p=_
  unfold bindC
  rw[Dm λv hv=>(M3.mp nd).1 (Qk hv).1,QU hk]
  simp
 |p::P,w::vs,i+1,m,nd,h1,h2,hk=>by
  show bindC kindOf ((p,w)::P.zip vs) m x=_
  unfold bindC
  exact Dp (i:=i) (M3.mp nd).2 (by simpa using h1) (by simpa using h2) hk
def start(N:Ql Str)(vs:Ql V):St:=vs.map Qs++M8 (N.length - vs.length) Qn
noncomputable def jz(CX:iw)(P:NA)(w:OX)(K:MK)(mg:Str->Qo M6)(base:TL)(N:Ql Str)(qual:Str)(scope:QP)(f:U1)(cd:M6)(A:Ol)(outer:Ql Env)(s:M0)(H:Hp)(E:XK):Cx where
 prog:=P
 w:=w
 K:=K
 mg:=mg
 base:=base
 A:=A.deeper (envOfC qual scope s.heap.objs.size f cd)
 N:=N
 s₀:=s
 H₀:=H
 env:=envOfC qual scope s.heap.objs.size f cd
 outer:=outer
 stack:=envOfC qual scope s.heap.objs.size f cd::outer
 ex:=[]
 calm:=Qt
 fn:=λ_=>Qt
 pn:=[]
 xe:=λe s'=>wpAny (model P w) (A.deeper (envOfC qual scope s.heap.objs.size f cd)) (leaving (envOfC qual scope s.heap.objs.size f cd) e) (λ_ Ys=>CX outer H s E e Ys) (λe' Ys=>CX outer H s E e' Ys) s'
theorem C9{sc:QP}(h:sc.names.lookup x=Qs .cell):∃c,(cellsFrom n sc.names []).lookup x=Qs c:=by
 have q:=Qa sc.names n [] (.inl h)
 exact Option.isSome_iff_exists.mp q
theorem KL{CX:iw}{mg:Str->Qo M6}{f:U1}{cd:M6}{A:Ol}{outer:Ql Env}{s1:M0}{E:XK}
  (S:Sr N ps scope) (hd:A.handled=Qn) (e0:Wz P w K mg base A outer s H) (hl:vs.length=ps.length) (r:Vals vs us)
  (x:InCallC s s.heap.objs.size (bindL (envOfC qual scope s.heap.objs.size f cd).kindOf (ps.zip us) λ_=>Qn) (cellsFrom (s.heap.objs.size+1) scope.names []) (bindC (envOfC qual scope s.heap.objs.size f cd).kindOf (ps.zip us) λ_=>Qn) s1) :
  Inv (jz CX P w K mg base N qual scope f cd A outer s H E) [] (start N vs) H s1:=by
 have SQ:ps.length<=N.length:=by have:=congrArg List.length S.pre;rw[List.length_take]at this;lia
 obtain⟨h1,tk,rfl,hk⟩:=x.done
 have YC:∀b:U1,b∉(jz CX P w K mg base N qual scope f cd A outer s H E).ex:=λb z=>absurd (show b∈([]:Ql U1) from z) (by simp)
 refine⟨⟨e0.mod,S.kind,rfl,rfl,MZ _,λy z c h1 h2=>?_,λy hy=>?_,λy c _ h=>?_,λ_=>hd,Around.frames_deeper e0.frames,.inr ⟨rfl,rfl⟩,λb z=>absurd z (YC b),e0.bs,e0.Ve,λb _ _=>YC b,λb z=>absurd z (YC b),e0.Ur,e0.VU,e0.tabs⟩,
  rfl,e0.bare,Un.kept hk,⟨_,x.toInCall.ns,λi y v h1 h2 h3=>?_⟩,λy c h=>⟨_,x.cell y c h⟩,e0.Rw.fresh (MZ _),λy c h=>?_,λp hp=>absurd (show p∈([]:Ql (U1×Obj)) from hp) (by simp),e0.Rw.kept hk,?_⟩
 .exact name_of_addr x.apart (PySem.mem_of_lookup h1) (PySem.mem_of_lookup h2)
 .have hy:scope.names.lookup y=Qs .cell\/scope.names.lookup y=Qs .free:=hy
  rcases hy with hy | hy
  .exact C9 hy
  .exact absurd rfl (S.zcv _ (PySem.mem_of_lookup hy))
 .exact Px (x.above y c (PySem.mem_of_lookup h))
 .have hi:i<vs.length:=by
   unfold start at h2
   by_cases hi:i<vs.length
   .exact hi
   .rw[Oc (by simpa using hi)]at h2
    rw[P6]at h2
    split at h2<;>cases h2
  have ha:vs[i]?=Qs v:=by
   unfold start at h2
   rw[NX (by simpa using hi),Nj]at h2
   cases e:vs[i]? with
   |none=>rw[e]at h2;cases h2
   |some a=>rw[e]at h2;cases h2;rfl
  obtain⟨u,hu,rv⟩:=r.get ha
  have hp:ps[i]?=Qs y:=by
   rw[<-S.pre,List.getElem?_take_of_lt (by lia)];exact h1
  have ndP:ps.Nodup:=by rw[<-S.pre];exact S.nd.sublist (List.take_sublist _ _)
  refine⟨u,rv,?_⟩
  rcases S.par y (Pz hp) with k | k
  .exact .inl ⟨k,Dl ndP hp hu k⟩
  .obtain⟨c,e⟩:=C9 (n:=s.heap.objs.size+1) k
   refine .inr ⟨.inl k,c,e,?_⟩
   have q:=x.cell y c e
   rw[Dp ndP hp hu (by show scope.names.lookup y≠_;rw[k];decide)]at q
   exact q
 .exact e0.Rw.fresh (Px (x.above y c (PySem.mem_of_lookup h)))
 .unfold start
  show _=N.length
  rw[Nl,MY,Qi]
  lia
theorem Lm{CX:iw}{mg:Str->Qo M6}{k:Nat}{f:U1}{params:Arguments}{dV kV doc pm Ru ct oc:M6}{an od:Qo U1}
  {UK:Array (Qo M6)}{sp:Sp} (lk:K.lookup f=Qs ⟨oc,od,.func (Ov name qual params body scope dV kV doc pm an Ru ct),UK⟩) (R9:Pr K Ru qual=Qt) (S:Sr N ps scope)
  (len:∀vs H Q E,sp vs H Q E->vs.length=ps.length)
  (Vv:∀(A:Ol) (outer:Ql Env) (s:M0) (H:Hp) (vs:Ql V) (Q:VK) (E:XK),Sh k (A.deeper (envOfC qual scope s.heap.objs.size f Ru))->sp vs H Q E ->
   ∃t,RU (jz CX P w K mg base N qual scope f Ru A outer s H E) body t/\t { nx:=λ_ H'=>Q .Ri H',rt:=Q } (start N vs) H) :
  RO P w K mg base CX (k+1) f (Ov name qual params body scope dV kV doc pm an Ru ct) ps sp:=by
 refine⟨len,λA outer s H args us vs Q E hr e0 hb r VL=>?_⟩
 have hl:=len _ _ _ _ VL
 have KX:K.In s.heap:=e0.mod.Xl.keeps λb o e=>(e0.bs b o e).1
 have lim:s.heap.NoLimit:=e0.mod.nolimit.keeps λb o e=>(e0.bs b o e).1
 have zdA:∀y∈ps.zip us,scope.names.lookup y.1=Qs .local\/(scope.names.lookup y.1=Qs .cell/\((cellsFrom (s.heap.objs.size+1) scope.names []).lookup y.1).isSome=Qt):=λ⟨n,v⟩ hy=>by
  rcases S.par n (Qk hy).1 with q | q
  .exact .inl q
  .exact .inr ⟨q,Qa _ _ _ (.inl q)⟩
 refine codeAny_call_function hr.depth (KX _ _ lk) rfl S.co S.gen rfl (PySem.W.codeRec_of KX R9) (hb _ _ _ _ ?_)
 refine wpAny_newFunctionEnv_cells S.kind zdA λenv he s1 x=>?_
 subst he
 refine⟨lim.keeps x.toInCall.keep,codeAny_func ?_⟩
 obtain⟨t,ht,hq⟩:=Vv A outer s H vs Q E (hr.deeper _) VL
 have I:Inv (jz CX P w K mg base N qual scope f Ru A outer s H E) [] (start N vs) H s1:=KL S hr.hd e0 hl r x
 refine wpAny_mono (ht [] s1 (start N vs) H _ I hq) (λfl s' hs=>?_) λe s' hs=>hs
 have fin:∀{σ':St}{H':Hp}{v:V}{u:M6},Inv (jz CX P w K mg base N qual scope f Ru A outer s H E) [] σ' H' s'->RelV v u->Q v H'->CE outer P w H s Q u s' :=
  λ{σ' H' v u} J rv q=>⟨v,H',J.os,J.bare,J.base,J.Rw,rv,q⟩
 cases fl with
 |ret u =>
  obtain⟨v,σ',H',J,rv,q⟩:=hs
  exact fin J rv q
 |next =>
  obtain⟨σ',H',J,q⟩:=hs
  exact fin (v:=V.Ri) (u:=Pw) J rfl q
 |brk =>
  obtain⟨_,_,_,q⟩:=hs
  exact False.elim q
 |cont =>
  obtain⟨_,_,_,q⟩:=hs
  exact False.elim q
end L2
variable{CX:L2.iw}{sp:L2.Sp}
namespace L2
open PySem.Spec
abbrev TO:=St->Hp->(Qo Int->Hp->Prop)->Prop
theorem wV{ns:Ql Int}:∀{us:Ql M6},Vals (ns.map V.int) us->IntsAre us ns:=by
 induction ns with
 |nil=>intro us r;rw[Qr]at r;cases r;exact .nil
 |cons n ns ih =>
  intro us r
  rw[M4]at r
  cases r with
  |cons r1 r2 =>
   obtain⟨t,e⟩:=r1
   subst e
   exact .cons n t (ih r2)
def Sz(n:Nat)(i:Int):Qo Nat:=if 0<=i then(if i<n then Qs i.toNat else Qn) else if -(n:Int)<=i then Qs (i+n).toNat else Qn
def RP{α:Type}(xs:Ql α)(i:Int):Qo α:=(Sz xs.length i).bind λj=>xs[j]?
theorem BD{i:Int}(h:Sz n i=Qs j):seqIndex? i n=Qs j/\j<n /\ -(n:Int)<=i/\i<n:=by
 unfold Sz at h
 by_cases h0:0<=i
 .rw[QO h0]at h
  by_cases h1:i<n
  .rw[QO h1]at h
   have e:i.toNat=j:=Ni h
   exact⟨by rw[seqIndex_of h0 h1,e],by lia,by lia,h1⟩
  .rw[QU h1]at h;cases h
 .rw[QU h0]at h
  by_cases h1 : -(n:Int)<=i
  .rw[QO h1]at h
   have e:(i+n).toNat=j:=Ni h
   exact⟨by rw[seqIndex_neg (by lia) h1,e],by lia,h1,by lia⟩
  .rw[QU h1]at h;cases h
theorem yn{α:Type}{xs:Ql α}{i:Int}{v:α}(h:RP xs i=Qs v):∃j,seqIndex? i xs.length=Qs j/\xs[j]?=Qs v/\j<xs.length /\ -(xs.length:Int)<=i/\i<xs.length:=by
 unfold RP at h
 rcases e:Sz xs.length i with _|j
 .rw[e]at h;cases h
 rw[e]at h
 obtain⟨h1,h2,h3,h4⟩:=BD e
 exact⟨j,h1,h,h2,h3,h4⟩
def mX(b:U3):Prop := ∀o i,subscripted b Qf o i=operate [o,i] (getItem o i)
def Wx(X:Cx)(r:R2):Prop :=
 ∀(value slice:U3) (pins:Ql (U1×Obj)) (s:M0) (σ:St) (H:Hp) (x y:V) (v u:M6) (Q:VK),Inv X pins σ H s->RelV x v->RelV y u->r x y H Q ->
  subscripted slice Qf v u=operate [v,u] (getItem v u)->wpAny (model X.prog X.w) X.A (subscriptTail value slice v u) (EP X pins σ Q) X.xe s
def DF(X:Cx)(id:String)(r:V->Ql V->Hp->VK->Prop):Prop :=
 ∀(pins:Ql (U1×Obj)) (s:M0) (σ:St) (H:Hp) (x:V) (xs:Ql V) (v:M6) (us:Ql M6) (Q:VK),Inv X pins σ H s->RelV x v->Vals xs us->r x xs H Q ->
  wpAny (model X.prog X.w) X.A (call (.builtin id) (v::us)) (EP X pins σ Q) X.xe s
section
theorem Wx.or{r r':R2}(h:Wx X r)(h':Wx X r'):Wx X (λx y H Q=>r x y H Q\/r' x y H Q):=by
 intro value slice pins s σ H x y v u Q I rx ry q hs
 rcases q with q | q
 .exact h value slice pins s σ H x y v u Q I rx ry q hs
 .exact h' value slice pins s σ H x y v u Q I rx ry q hs
theorem nW{r:R2}(hr:Wx X r)(ha:PE X a ta)(hb:PE X b tb)(hs:mX b):PE X (.Subscript a b pos) (EK r ta tb):=by
 intro pins s σ H Q I h
 exact Subscript_ (Mm ha hb I h λv u s2 x y H2 I2 rx ry q=>hr a b pins s2 σ H2 x y v u Q I2 rx ry q (hs _ _))
def nO(K:MK):R2:=λx y H Q => ∃p xs i v,x=.ref p/\y=.int i/\Rm K H p xs/\RP xs i=Qs v/\Q v H
def rV(K:MK):R2:=λx y H Q => ∃p xs i v,x=.ref p/\y=.int i/\RQ K H p xs/\RP xs i=Qs v/\Q v H
theorem Xm:Wx X (nO X.K):=by
 intro value slice pins s σ H x y v u Q I rx ry h hs
 obtain⟨p,xs,i,z,rfl,rfl,hq,he,q⟩:=h
 cases rx
 obtain⟨t,rfl⟩:=ry
 obtain⟨Q7,r,pl,hz⟩:=I.list hq
 obtain⟨j,h1,h2,h3,h4,h5⟩:=yn he
 obtain⟨w,ew,Uw⟩:=r.get h2
 have hl:=r.length
 have hn:=kH
 have fin:EP X pins σ Q w s:=⟨z,H,I,Uw,q⟩
 by_cases h0:0<=i
 .have hj:i.toNat=j:=by
   rw[seqIndex_of h0 h5]at h1
   exact Ni h1
  exact item_listR pl.isList h0 (by lia) (by rw[hj];simpa using ew) fin hs
 .have hj:(i+(Q7.toArray.size:Int)).toNat=j:=by
   rw[seqIndex_neg (by lia) h4]at h1
   rw[Nd, <-hl]
   exact Ni h1
  exact subscriptTail_builtinR (x:=w) pl.isList.typeIs slot_list_getitem.lookup
   (wpAny_getItem_list_neg (Q:=λr s'=>r=w/\EP X pins σ Q r s') pl.isList (by lia) (by rw[Nd]<;>lia) (by lia) (by rw[hj];simpa using ew) ⟨rfl,fin⟩) hs
theorem tO:Wx X (rV X.K):=by
 intro value slice pins s σ H x y v u Q I rx ry h hs
 obtain⟨p,xs,i,z,rfl,rfl,hq,he,q⟩:=h
 cases rx
 obtain⟨t,rfl⟩:=ry
 obtain⟨Q7,r,pl,hz⟩:=I.tuple hq
 obtain⟨j,h1,h2,h3,h4,h5⟩:=yn he
 obtain⟨w,ew,Uw⟩:=r.get h2
 have hl:=r.length
 have hn:=kH
 have fin:EP X pins σ Q w s:=⟨z,H,I,Uw,q⟩
 exact subscriptTail_builtinR (x:=w) pl.typeIs slot_tuple_getitem.lookup
  (getItem_tuple (j:=j) (Q:=λr s'=>r=w/\EP X pins σ Q r s') pl (by lia) (by lia) (by rw[Nd, <-hl];exact h1) (by simpa using ew) ⟨rfl,fin⟩) hs
theorem JR(Q7:Ql M6)(n j:Nat)(u:M6):Obj.mapSeq (·.setIfInBounds j u) { cls:=.type "list",data:=.seq Q7.toArray n }={ cls:=.type "list",data:=.seq (Q7.set j u).toArray n }:=by
 simp[Obj.mapSeq]
theorem Inv.lst{pins:Ql (U1×Obj)}{σ:St}{H:Hp}{s:M0}{p:U1}{xs:Ql V}(I:Inv X pins σ H s)(h:H p=Qs (.lst xs)) :
  ∃(Q7:Ql M6) (n:Nat),Vals xs Q7/\s.heap.get? p=Qs { cls:=.type "list",data:=.seq Q7.toArray n }/\xs.length<=Nn:=by
 obtain⟨z,Q7,n,r,e⟩:=I.Rw p _ h
 exact⟨Q7,n,r,e,z⟩
theorem Inv.zcG{σ:St}{its':Ql M6}{n':Nat}{f:Obj->Obj}(I:Inv X pins σ H s)(h:H p=Qs (.lst xs))
  (ho:s.heap.get? p=Qs { cls:=.type "list",data:=.seq Q7.toArray n }) (hf:f { cls:=.type "list",data:=.seq Q7.toArray n }={ cls:=.type "list",data:=.seq its'.toArray n' }) (r:Vals ys its') (hz:ys.length<=Nn) (t:Nat) :
  Inv X pins σ (upd H p (.lst ys)) { s with heap:=s.heap.update p f,toks:=t }:=by
 have e:(s.heap.update p f).get? p=Qs { cls:=.type "list",data:=.seq its'.toArray n' }:=by
  rw[Po f ho (by rw[hf]<;>rfl),hf]
 refine I.write (x:=p) (e:=p) (by rw[h];trivial) (.inl rfl) (λb u hb q=>(Of _ _ (Ne.symm hb)).trans q) ⟨_,e⟩ ?_
 exact⟨hz,its',n',r,e⟩
def Gu:V->V->V->Hp->(Hp->Prop)->Prop:=λo i v H Q => ∃p xs k j,o=.ref p/\i=.int k/\H p=Qs (.lst xs)/\Sz xs.length k=Qs j/\Q (upd H p (.lst (xs.set j v)))
theorem qT:uF X Gu:=by
 intro pins s σ H o i v ov iv u Q I ro ri rv h
 obtain⟨p,xs,k,j,rfl,rfl,hp,hj,q⟩:=h
 cases ro
 obtain⟨t,rfl⟩:=ri
 obtain⟨Q7,n,r,ho,hz⟩:=I.lst hp
 obtain⟨h1,h2,h3,h4⟩:=BD hj
 have hl:=r.length
 have hn:=kH
 have I':Inv X pins σ (upd H p (.lst (xs.set j v))) { s with heap:=s.heap.update p (Obj.mapSeq (·.setIfInBounds j u)) } :=
  I.zcG hp ho (JR Q7 n j u) (r.set rv j) (by rw[PM];exact hz) s.toks
 by_cases h0:0<=k
 .have hk:k.toNat=j:=by
   rw[seqIndex_of h0 h4]at h1
   exact Ni h1
  exact PySem.W.ki_setAt ho h0 (by lia) (by rw[Nd, <-hl];exact h4) (by rw[hk];exact⟨_,I',q⟩)
 .have hk:(k+(Q7.toArray.size:Int)).toNat=j:=by
   rw[seqIndex_neg (by lia) h3]at h1
   rw[Nd, <-hl]
   exact Ni h1
  exact PySem.W.ki_setBack ho (by lia) (by rw[Nd, <-hl];exact h3) (by lia) (by rw[hk];exact⟨_,I',q⟩)
def du:V->Bool
 |.Ri=>Qt
 |.bl _=>Qt
 |.int _=>Qt
 |.str _=>Qt
 |_=>Qf
def fU(x y:V):Bool:=match x with
 |.Ri=>(match y with | .Ri=>Qt | _=>Qf)
 |.bl a=>(match y with | .bl b=>a == b | .int b=>(if a then 1 else 0) == b | _=>Qf)
 |.int a=>(match y with | .bl b=>a ==(if b then 1 else 0) | .int b=>a == b | _=>Qf)
 |.str a=>(match y with | .str b=>a == b | _=>Qf)
 |_=>Qf
theorem xG{A:Ol}{x:V}{v:M6}(ry:RelV y u)(rx:RelV x v)(fy:du y=Qt)(fx:du x=Qt):SeqAt.EqAt A s u v (fU y x):=by
 cases y with
 |Ri =>
  cases ry
  cases x with
  |Ri=>cases rx;exact SeqAt.EqAt.same _
  |bl b=>cases rx;exact SeqAt.EqAt.none_bool b
  |int b=>obtain⟨t,rfl⟩:=rx;exact SeqAt.EqAt.none_int b t
  |str b=>obtain⟨t,rfl⟩:=rx;exact SeqAt.EqAt.none_str b t
  |_=>exact absurd (show Qf=Qt from fx) MU
 |bl a =>
  cases ry
  cases x with
  |Ri=>cases rx;exact SeqAt.EqAt.bool_none a
  |bl b=>cases rx;exact SeqAt.EqAt.bool_bool a b
  |int b=>obtain⟨t,rfl⟩:=rx;exact SeqAt.EqAt.bool_int a b t
  |str b=>obtain⟨t,rfl⟩:=rx;exact SeqAt.EqAt.bool_str a b t
  |_=>exact absurd (show Qf=Qt from fx) MU
 |int a =>
  obtain⟨t',rfl⟩:=ry
  cases x with
  |Ri=>cases rx;exact SeqAt.EqAt.int_none a t'
  |bl b=>cases rx;exact SeqAt.EqAt.int_bool a t' b
  |int b=>obtain⟨t,rfl⟩:=rx;exact SeqAt.EqAt.int_int a t' b t
  |str b=>obtain⟨t,rfl⟩:=rx;exact SeqAt.EqAt.int_str a t' b t
  |_=>exact absurd (show Qf=Qt from fx) MU
 |str a =>
  obtain⟨t',rfl⟩:=ry
  cases x with
  |Ri=>cases rx;exact SeqAt.EqAt.str_none a t'
  |bl b=>cases rx;exact SeqAt.EqAt.str_bool a t' b
  |int b=>obtain⟨t,rfl⟩:=rx;exact SeqAt.EqAt.str_int a t' b t
  |str b=>obtain⟨t,rfl⟩:=rx;exact SeqAt.EqAt.str_str a t' b t
  |_=>exact absurd (show Qf=Qt from fx) MU
 |_=>exact absurd (show Qf=Qt from fy) MU
def jx(x:V)(u:M6):Bool:=match u with
 |.none=>fU .Ri x
 |.bool b=>fU (.bl b) x
 |.int i _=>fU (.int i) x
 |.str z _=>fU (.str z) x
 |_=>Qf
theorem CJ{x:V}(r:RelV y u)(f:du y=Qt):jx x u=fU y x:=by
 cases y with
 |Ri=>cases r;rfl
 |bl b=>cases r;rfl
 |int i=>obtain⟨t,rfl⟩:=r;rfl
 |str z=>obtain⟨t,rfl⟩:=r;rfl
 |_=>exact absurd (show Qf=Qt from f) MU
theorem yq{x:V}:∀{xs:Ql V}{us:Ql M6},Vals xs us->xs.all du=Qt->us.any (jx x)=xs.any λy=>fU y x
 |_,_,.nil,_=>rfl
 |y::xs,u::us,.cons r t,f=>by
  rw[NQ,MX]at f
  rw[OA,OA,CJ r f.1,yq t f.2]
theorem wm{A:Ol}{s:M0}{x:V}{v:M6}(rx:RelV x v)(fx:du x=Qt):∀{xs:Ql V}{us:Ql M6},Vals xs us->xs.all du=Qt->∀u∈us,SeqAt.EqAt A s u v (jx x u)
 |_,_,.nil,_=>λu hu=>by cases hu
 |y::xs,u::us,.cons r t,f=>λu' hu=>by
  rw[NQ,MX]at f
  rcases MQ.mp hu with rfl | hu
  .rw[CJ r f.1];exact xG r rx f.1 fx
  .exact wm rx fx t f.2 u' hu
def mz(x:V)(xs:Ql V):Bool:=xs.any λy=>fU y x
def Gx(K:MK)(neg:Bool):R2:=λx y H Q => ∃p xs,y=.ref p/\(Rm K H p xs\/RQ K H p xs)/\du x=Qt/\xs.all du=Qt/\Q (.bl (if neg then !mz x xs else mz x xs)) H
theorem Ay:d8 X (compareOp .NotIn) (Gx X.K Qt):=by
 intro pins s σ H x y v u Q I rx ry h
 obtain⟨p,xs,rfl,hq,fx,fs,q⟩:=h
 cases ry
 rcases hq with hq | hq
 .obtain⟨Q7,r,pl,hz⟩:=I.list hq
  refine SeqAt.notIn_listAt (jx x) pl.isList (λw hw=>wm rx fx r fs w (by simpa using hw)) ⟨.bl _,H,I,rfl,?_⟩
  rw[show Q7.toArray.any (jx x)=Q7.any (jx x) by simp,yq r fs]
  exact q
 .obtain⟨Q7,r,pl,hz⟩:=I.tuple hq
  refine SeqAt.notIn_tupleAt (jx x) pl (λw hw=>wm rx fx r fs w (by simpa using hw)) ⟨.bl _,H,I,rfl,?_⟩
  rw[show Q7.toArray.any (jx x)=Q7.any (jx x) by simp,yq r fs]
  exact q
theorem L9:iu X (.builtin "len") (λxs H Q => ∃p ys,xs=[.ref p]/\(Rm X.K H p ys\/RQ X.K H p ys)/\Q (.int ys.length) H):=by
 intro pins s σ H xs us Q I r h
 obtain⟨p,ys,rfl,hq,q⟩:=h
 obtain⟨u,rfl,rx⟩:=lK r
 cases rx
 have hn:=kH
 rcases hq with hq | hq
 .obtain⟨Q7,r',pl,hz⟩:=I.list hq
  have hlen:=r'.length
  exact Calls.call_len_list pl.isList (by simp only[Nd]<;>lia) ⟨.int ys.length,H,I.tok _,⟨s.toks+1,by rw[Nd,hlen]⟩,q⟩
 .obtain⟨Q7,r',pl,hz⟩:=I.tuple hq
  have hlen:=r'.length
  exact len_tuple pl (by simp only[Nd]<;>lia) ⟨.int ys.length,H,I.tok _,⟨s.toks+1,by rw[Nd,hlen]⟩,q⟩
theorem L8:iu X (.type "list") (λxs H Q => ∃p ys,xs=[.ref p]/\(Rm X.K H p ys\/RQ X.K H p ys)/\∀l,H l=Qn->Q (.ref l) (upd H l (.lst ys))):=by
 intro pins s σ H xs us Q I r h
 obtain⟨p,ys,rfl,hq,q⟩:=h
 obtain⟨u,rfl,rx⟩:=lK r
 cases rx
 have fin:∀(Q7:Ql M6),Vals ys Q7->ys.length<=Nn->∀(h':U2) (c':Nat),(∀b o',s.heap.get? b=Qs o'->h'.get? b=Qs o') ->
   h'.get? s.heap.objs.size=Qs { cls:=.type "list",dict:=Qn,data:=.seq Q7.toArray c',slots := #[] }->EP X pins σ Q (.ref s.heap.objs.size) { s with heap:=h' }:=λQ7 r' hz h' c' kp e =>
  ⟨.ref s.heap.objs.size,_,I.laid (t':=s.toks) kp (MZ _) (show SJ X.prog X.w _ h' _ (.lst ys) from⟨hz,Q7,c',r',e⟩),rfl,q _ (I.Rw.fresh (MZ _))⟩
 rcases hq with hq | hq
 .obtain⟨Q7,r',pl,hz⟩:=I.list hq
  have hlen:=r'.length
  obtain⟨o,ho,hc,n,hd⟩:=pl.isList
  exact call_list_seq p (.inl rfl) ho hc hd (λh' c' kp e=>fin Q7 r' hz h' c' kp e) (by simp only[Nd]<;>lia)
 .obtain⟨Q7,r',pl,hz⟩:=I.tuple hq
  have hlen:=r'.length
  obtain⟨o,ho,hc,n,hd⟩:=pl
  exact call_list_seq p (.inr rfl) ho hc hd (λh' c' kp e=>fin Q7 r' hz h' c' kp e) (by simp only[Nd]<;>lia)
def uL(K:MK)(T:String)(x:V)(H:Hp):Prop:=match x with
 |.str _=>T = "str"
 |.int _=>T = "int"
 |.ref p=>(T = "list"/\∃xs,Rm K H p xs)\/(T = "tuple"/\∃o,K.lookup p=Qs o/\o.cls=.type "tuple"/\o.dict=Qn) \/
   (T = "dict"/\((∃Rh,H p=Qs (.dK Rh))\/∃Rh,H p=Qs (.dT Rh)))\/(T = "set"/\∃S n,H p=Qs (.set S n))
 |_=>False
theorem yX{σ:St}{T:String}{x:V}{v:M6}(I:Inv X pins σ H s)(r:RelV x v)(ty:uL X.K T x H) :
  s.TypeIs v T/\∀a,v=.ref a->∃ob,s.heap.get? a=Qs ob/\ob.dict=Qn:=by
 cases x with
 |str z =>
  obtain⟨t,rfl⟩:=r
  cases(show T = "str" from ty)
  exact⟨typeIs_str s z t,λ_ e=>nomatch e⟩
 |int i =>
  obtain⟨t,rfl⟩:=r
  cases(show T = "int" from ty)
  exact⟨typeIs_int s i t,λ_ e=>nomatch e⟩
 |ref p =>
  cases r
  rcases ty with⟨rfl,xs,hq⟩ | ⟨rfl,o,hk,hc,hd⟩ | ⟨rfl,hk⟩ | ⟨rfl,S,n,hk⟩
  .obtain⟨Q7,_,pl,_⟩:=I.list hq
   refine⟨pl.isList.typeIs,λa e=>?_⟩
   cases e
   obtain⟨o,n,e,c,hd,_⟩:=pl
   exact⟨o,e,hd⟩
  .refine⟨⟨o,I.TC p o hk,hc⟩,λa e=>?_⟩
   cases e
   exact⟨o,I.TC _ o hk,hd⟩
  .have z:∃o,s.heap.get? p=Qs o/\o.ExactDict:=by
    rcases hk with⟨Rh,hk⟩ | ⟨Rh,hk⟩
    .obtain⟨_,_,_,_,o,_,_,e,ex,_⟩:=I.Rw p _ hk
     exact⟨o,e,ex⟩
    .obtain⟨_,_,_,_,o,_,_,e,ex,_⟩:=I.Rw p _ hk
     exact⟨o,e,ex⟩
   obtain⟨o,e,ex⟩:=z
   refine⟨⟨o,e,ex.1⟩,λa e2=>?_⟩
   cases e2
   exact⟨o,e,ex.2.1⟩
  .obtain⟨o,_,_,_,e,ex,_⟩:=I.Rw p _ hk
   refine⟨⟨o,e,ex.1⟩,λa e2=>?_⟩
   cases e2
   exact⟨o,e,ex.2.1⟩
 |_=>exact False.elim ty
def EY(K:MK)(T:String)(r:V->Ql V->Hp->VK->Prop)(to:TE):TE:=λσ H Q=>to σ H λx H1=>uL K T x H1/\r x [] H1 Q
def EZ(K:MK)(T:String)(r:V->Ql V->Hp->VK->Prop)(to:TE)(t:TA):TE:=λσ H Q=>to σ H λx H1=>uL K T x H1/\t σ H1 λxs H2=>r x xs H2 Q
variable {to:TE}{t:TA}{T id:String}{r:V->Ql V->Hp->VK->Prop}
theorem Ie(pa:PlainAttrs T)(slot:Slot T name id)(YY:typeOf (.builtin id)=pure (.type "method_descriptor"))(hm:DF X id r)(ho:PE X o to)
  (UR:attributeBase o name X.env (eval o X.env)=eval o X.env:=by rfl) (UP:(apos.endLine == R6.line)=Qt:=by rfl):PE X (.Call (.Attribute o name apos) [] [] R6) (EY X.K T r to):=by
 intro pins s σ H Q I h
 refine wpAny_Call_method0_late UR UP (aG (ho pins s σ H _ I h) λv s1 ⟨x,H1,I1,r1,ty,q1⟩=>?_)
 obtain⟨h1,h2⟩:=yX I1 r1 ty
 exact⟨T,id,pa,slot,YY,h1,h2,Calls.callWith_builtin rfl (PySem.evalArgs_none (hm pins s1 σ H1 x [] v [] Q I1 r1 .nil q1))⟩
theorem vT(pa:PlainAttrs T)(slot:Slot T name id)(YY:typeOf (.builtin id)=pure (.type "method_descriptor"))(hm:DF X id r)(ho:PE X o to)(ha:PA X (e::es) t)
  (UR:attributeBase o name X.env (eval o X.env)=eval o X.env:=by rfl)
  (Wg:((OY R6 (Na (e::es) X.env)).all (λx=>!x.1)&&(backToKw R6 (keywordEach [] X.env)).all (λx=>x.1.isSome)
   && decide ((e::es).length+([]:Ql QX).length+(if([]:Ql QX).isEmpty then 0 else 1)<30))=Qt:=by rfl)
  (UP:(apos.endLine == R6.line)=Qt:=by rfl) (hs:Na (e::es) X.env=(Qf,eval e X.env)::Na es X.env:=by rfl) (Wa:(OY R6 (Na es X.env)).any (·.1)=Qf:=by rfl) :
  PE X (.Call (.Attribute o name apos) (e::es) [] R6) (EZ X.K T r to t):=by
 intro pins s σ H Q I h
 refine wpAny_Call_method_late UR Wg UP rfl (aG (ho pins s σ H _ I h) λv s1 ⟨x,H1,I1,r1,ty,q1⟩=>?_)
 obtain⟨h1,h2⟩:=yX I1 r1 ty
 refine⟨T,id,pa,slot,YY,h1,h2,?_⟩
 have hA:=ha R6 pins s1 σ H1 _ I1 q1
 rw[hs]at hA ⊢
 refine Calls.callWith_builtin (by show(Qf||(OY R6 (Na es X.env)).any (·.1))=Qf;rw[Wa]<;>rfl) (Calls.evalArgs_plain ?_)
 exact aG hA λus s2 ⟨vs,H2,I2,r2,q2⟩=>hm pins s2 σ H2 x vs v us Q I2 r1 r2 q2
end
def DG(X:Cx)(id:String)(r:V->Ql V->Hp->VK->Prop):Prop :=
 ∀(pins:Ql (U1×Obj)) (s:M0) (σ:St) (H:Hp) (x:V) (xs:Ql V) (v:M6) (us:Ql M6) (Q:VK),Inv X pins σ H s->RelV x v->Vals xs us->r x xs H Q ->
  wpAny (model X.prog X.w) X.A (call (.builtin id) (v::us)) (EP X pins σ Q) X.xe s
theorem Vals.one:∀{x:V}{us:Ql M6},Vals [x] us->∃u,us=[u]/\RelV x u
 |_,_,.cons r .nil=>⟨_,rfl,r⟩
theorem Vals.two:∀{x y:V}{us:Ql M6},Vals [x,y] us->∃u v,us=[u,v]/\RelV x u/\RelV y v
 |_,_,_,.cons r (.cons q .nil)=>⟨_,_,rfl,r,q⟩
theorem Vals.zero:∀{us:Ql M6},Vals [] us->us=[]
 |_,.nil=>rfl
theorem Vals.reverse{xs:Ql V}{us:Ql M6}(h:Vals xs us):Vals xs.reverse us.reverse:=by
 induction h with
 |nil=>exact .nil
 |cons r t ih=>rw[Pk,Pk];exact Vals.append ih (.cons r .nil)
theorem Vals.rep{xs:Ql V}{us:Ql M6}(h:Vals xs us):∀k:Nat,Vals (M8 k xs).flatten (M8 k us).flatten
 |0=>.nil
 |k+1=>by
  rw[N3,N3,O1,O1]
  exact Vals.append h (Vals.rep h k)
theorem Cw(Q7:Ql M6):∀(k:Nat) (acc:Ql M6),
  RI (λx1 x2=>x1++x2) acc.toArray (M8 k Q7.toArray)=(acc++(M8 k Q7).flatten).toArray
 |0,acc=>by simp
 |k+1,acc=>by
  have e:acc.toArray++Q7.toArray=(acc++Q7).toArray:=by simp
  have e2:(acc++Q7)++(M8 k Q7).flatten=acc++(M8 (k+1) Q7).flatten:=by
   rw[N3,O1,Nv]
  rw[<-e2, <-Cw Q7 k (acc++Q7), <-e,N3,PN]
section
variable {σ:St}{b:U1}{zs:Ql V}
theorem Inv.zap{its':Ql M6}{f:Array M6->Array M6}(I:Inv X pins σ H s)(hH:H l=Qs (.lst xs))
  (e:s.heap.get? l=Qs { cls:=.type "list",data:=.seq Q7.toArray n }) (hf:f Q7.toArray=its'.toArray) (hv:Vals ys its') (hz:ys.length<=Nn) :
  Inv X pins σ (upd H l (.lst ys)) { s with heap:=s.heap.update l (Obj.mapSeq f),toks:=t' }:=by
 have q:=PySem.IsL.update e f
 rw[hf]at q
 refine I.write (x:=l) (e:=l) (by rw[hH];exact trivial) (.inl rfl) (λb' u hb hu=>(Of s.heap (Obj.mapSeq f) (Ne.symm hb)).trans hu) ⟨_,q⟩ ?_
 exact⟨hz,its',_,hv,q⟩
theorem Inv.YN (I:Inv X pins σ H s)(hv:Vals ys Q7)(hz:ys.length<=Nn) :
  Inv X pins σ (upd H s.heap.objs.size (.lst ys)) { s with heap:=s.heap.push { cls:=.type "list",data:=.seq Q7.toArray },toks:=t' } :=
 I.laid (λ_ _ q=>MV _ q) (MZ _) ⟨hz,Q7,0,hv,Nh _ rfl⟩
theorem Inv.fresh(I:Inv X pins σ H s):H s.heap.objs.size=Qn:=I.Rw.fresh (MZ _)
theorem Inv.YL(I:Inv X pins σ H s)(hH:H l=Qs (.lst xs)):xs.length<=Nn/\∃(Q7:Ql M6) (n:Nat),Vals xs Q7/\xs.length=Q7.length/\s.heap.get? l=Qs { cls:=.type "list",data:=.seq Q7.toArray n }:=by
 obtain⟨z,Q7,n,r,e⟩:=I.Rw l _ hH
 exact⟨z,Q7,n,r,r.length,e⟩
theorem Jq (h:n<=Nn):Builtin.List.listTooLong n=Qf:=by
 unfold Builtin.List.listTooLong
 exact Su (by lia)
end
def GA:V->Ql V->Hp->VK->Prop:=λx vs H Q => ∃l xs y,x=.ref l/\vs=[y]/\H l=Qs (.lst xs)/\xs.length<Nn/\Q .Ri (upd H l (.lst (xs++[y])))
theorem sU:DG X "list.append" GA:=by
 intro pins s σ H x vs v us Q I rx rv h
 obtain⟨l,xs,y,rfl,rfl,hH,hz,q⟩:=h
 cases rx
 obtain⟨u,rfl,ru⟩:=rv.one
 obtain⟨z,Q7,n,r,hl,e⟩:=I.YL hH
 refine call_meets F.slot_list_append ⟨_,e,rfl⟩ F.entry_list_append (F.args_list_append_2 _ _) (PySem.list_append l Q7.toArray n u (by rw[Nd];lia)) ⟨e,?_⟩
 refine⟨.Ri,_,I.zap (its':=Q7++[u]) hH e (by simp) (r.append (.cons ru .nil)) ?_,rfl,q⟩
 rw[Nl,N5]
 lia
def Gz:V->Ql V->Hp->VK->Prop:=λx vs H Q => ∃l xs,x=.ref l/\vs=[]/\H l=Qs (.lst xs)/\Q .Ri (upd H l (.lst []))
theorem JE:DG X "list.clear" Gz:=by
 intro pins s σ H x vs v us Q I rx rv h
 obtain⟨l,xs,rfl,rfl,hH,q⟩:=h
 cases rx
 have hus:=rv.zero
 subst hus
 obtain⟨z,Q7,n,r,hl,e⟩:=I.YL hH
 refine call_meets F.slot_list_clear ⟨_,e,rfl⟩ F.entry_list_clear (F.args_list_clear_1 _) (AutoSeq1.list_clear_list_0 l Q7.toArray n (by rw[Nd];lia)) ⟨e,?_⟩
 exact⟨.Ri,_,I.zap (its':=[]) (ys:=[]) hH e rfl .nil (OU _),rfl,q⟩
def Gv:R2:=λx y H Q => ∃l k xs,x=.ref l/\y=.int k/\H l=Qs (.lst xs) /\ -(2 ^ 63)<=k/\k<2 ^ 63/\xs.length*k.toNat<=Nn /\
 ∀p,H p=Qn->Q (.ref p) (upd H p (.lst (M8 k.toNat xs).flatten))
theorem Kb{α:Type}(xs:Ql α)(k:Nat):(M8 k xs).flatten.length=k*xs.length:=by
 induction k with
 |zero=>simp
 |succ k ih=>rw[N3,O1,Nl,ih,Nat.succ_mul,Nat.add_comm]
theorem Ii:d8 X (binaryOp .Mult) Gv:=by
 intro pins s σ H x y v u Q I rx ry h
 obtain⟨l,k,xs,rfl,rfl,hH,h1,h2,hz,q⟩:=h
 cases rx
 obtain⟨t,rfl⟩:=ry
 obtain⟨z,Q7,n,r,hl,e⟩:=I.YL hH
 have hlen:Q7.toArray.size*k.toNat<=Nn:=by rw[Nd, <-hl];exact hz
 have To : ¬ Q7.toArray.size*k.toNat >(2 ^ 63 - 1) / 8:=by
  have:(Nn:Nat)<=(2 ^ 63 - 1) / 8:=by decide
  lia
 have zdK : ¬ (!Builtin.List.listFitsIndex k)=Qt:=by
  rw[fitsIndex_both h1 h2]
  exact MU
 have zdu : ¬ Builtin.List.listTooLong (Q7.toArray.size*k.toNat)=Qt:=by
  rw[Jq hlen]
  exact MU
 have zdo:RI (λx1 x2=>x1++x2) #[] (M8 (if Q7.toArray.isEmpty=Qt then 0 else k.toNat) Q7.toArray)=(M8 k.toNat Q7).flatten.toArray:=by
  have f0:∀m:Nat,RI (λx1 x2=>x1++x2) #[] (M8 m Q7.toArray)=(M8 m Q7).flatten.toArray:=λm=>by
   have:=Cw Q7 m []
   rw[Pc]at this
   exact this
  rw[f0]
  cases Q7 with
  |nil=>simp
  |cons a r'=>rw[QU (by simp)]
 refine wpAny_binaryOp_repeat_ref (T := "list") (U := "int") (by decide) ⟨_,e,rfl⟩ (λs'=>typeIs_int s' k t) noFill_list_mul F.fills_int_mul F.slot_int_rmul repeat_list F.slot_int_index.lookup
  (call_meets F.slot_int_rmul (typeIs_int s k t) F.entry_int_rmul (F.args_int_rmul_2 _ _) (int___rmul___int_list k t l Q7.toArray n)
   ⟨e,rfl,⟨_,e,rfl⟩,call_meets F.slot_list_mul ⟨_,e,rfl⟩ F.entry_list_mul (F.args_list_mul_2 _ _) (AutoListH.list___mul___list_int_3 l Q7.toArray n k t zdK To zdu) ⟨e,?_⟩⟩)
 rw[zdo]
 exact⟨.ref _,_,I.YN (t':=s.toks) (r.rep k.toNat) (by rw[Kb,Qu];exact hz),rfl,q _ I.fresh⟩
end L2
namespace Zx
open PySem.W PySem.Calls
theorem KN{P:Params}:∀(ns:Ql Int) (vs:Ql M6),WellAll P h vs (ns.map WData.int)->IntsAre vs ns:=by
 intro ns
 induction ns with
 |nil =>
  intro vs w
  rw[Qr]at w
  cases w
  exact .nil
 |cons n ns ih =>
  intro vs w
  rw[M4]at w
  cases w with
  |cons a b =>
   cases a
   exact .cons _ _ (ih _ b)
theorem zb3{l:OpenLaw}(hn:l.most=Qs n){P:Params}{args:Ql WData}{vals:Ql M6}
  (X8:l.row.toRowW.claim.pre args=Qt) (Vo:WellAll P h vals args) :
  ∃a vs ns,vals=[M7 a]/\args=[WData.list (ns.map WData.int)]/\h.get? a=Qs { cls:=.type "list",data:=.seq vs.toArray }/\IntsAre vs ns/\ns.length<=n:=by
 have hsh:WShape.hasAll [] args [.list .int]=Qt:=(pre_splitW X8).1
 have hc:l.pre.holds [] { args:=args }=Qt:=(pre_splitW X8).2
 obtain⟨d,r,rfl,h1,h2⟩:=hasAllW_cons hsh
 obtain rfl:=hasAllW_nil h2
 obtain⟨xs,rfl,h3⟩:=hasW_list h1
 obtain⟨ns,rfl⟩:=items_int h3
 have hlen:ns.length<=n:=by
  unfold OpenLaw.pre at hc
  have h4:(WTm.not (.lt (.lit (.int (n:Int))) (.len (.arg 0)))).holds [] { args:=[.list (ns.map .int)] }=Qt:=by
   have h4:=(holds_andW hc).1
   rw[hn]at h4
   exact h4
  have h5:=condW_of h4 (w_not (w_lt w_lit (w_len_list (w_arg rfl))))
  rw[MY]at h5
  refine Nat.le_of_not_lt λq=>?_
  have q':(n:Int)<((ns.length:Nat):Int):=by lia
  first
   |(rw[RC q']at h5;exact absurd h5 (by decide))
   |(simp at h5;lia)
 cases Vo with
 |cons w1 w2 =>
  cases w2
  cases w1 with
  |list ho WN=>exact⟨_,_,ns,rfl,rfl,ho,KN ns _ WN,hlen⟩
theorem zck(l:OpenLaw)(args:Ql WData):l.row.toRowW.claim.post args (.bool Qt) args=Qt :=
 postW_of (r:=l.row.toRowW) (X:=(Qt == Qt))
  (show WShape.has [] (.bool Qt) .bool=Qt by first | rfl | decide | simp[WShape.has,WShape.arms,WShape.armsAll])
  (show(WTm.eq .res (.lit (.bool Qt))).value [] { args:=args,res:=Qs (.bool Qt),after:=args }=Qs (.bool (Qt == Qt)) from w_eq_bool (w_res rfl) w_lit) rfl
end Zx
namespace L2
open PySem.Spec
theorem uJ:∀{vs:Ql M6}{ns:Ql Int},IntsAre vs ns->Vals (ns.map V.int) vs
 |_,_,.nil=>.nil
 |_,_,.cons n t h=>.cons ⟨t,rfl⟩ (uJ h)
def iN(s:U4):Arguments:=match s with
 |.FunctionDef _ a _ _ _ _ _ _ _ _=>a
 |_=>{ posonlyargs:=[],args:=[],vararg:=Qn,kwonlyargs:=[],kw_defaults:=[],kwarg:=Qn,defaults:=[] }
def fW(s:U4):Ql U4:=match s with
 |.FunctionDef _ _ b _ _ _ _ _ _ _=>b
 |_=>[]
def bp(s:U4):QP:=match s with
 |.FunctionDef _ _ _ _ _ _ sc _ _ _=>sc
 |_=>{ kind:=.function,names:=[],isGenerator:=Qf,isCoroutine:=Qf }
abbrev bz:iw:=λ_ _ _ _ _ _=>False
abbrev E0:XK:=λ_ _ _=>False
theorem jR :lj bz X E0:=λ_ _ _ _ _ _ _ h=>h.elim
structure R8(K:MK)(x qual:Str)(st:U4)(f:U1)(fd:N8):Prop where
 ex:∃(oc:M6) (od:Option U1) (kV doc pm:M6) (an:Option U1) (Ru ct:M6) (UK:Array (Option M6)),
  fd=Ov x qual (iN st) (fW st) (bp st) .none kV doc pm an Ru ct/\K.lookup f=Qs ⟨oc,od,.func fd,UK⟩/\Pr K Ru qual=Qt
 kp:N2 K (.ref f)=Qt
section
variable {mg:Str->Qo M6}
theorem R8.ok{f:U1}{k:Nat}(F:R8 K x qual st f fd)(S:Sr N ps (bp st))(len:∀vs H Q E,sp vs H Q E->vs.length=ps.length)
  (Vv:∀(Ru:M6) (A:Ol) (outer:Ql Env) (s:M0) (H:Hp) (vs:Ql V) (Q:VK) (E:XK),Sh k (A.deeper (envOfC qual (bp st) s.heap.objs.size f Ru))->sp vs H Q E ->
   ∃t,RU (jz bz P w K mg base N qual (bp st) f Ru A outer s H E).V4 (fW st) t/\t { nx:=λ_ H'=>Q .Ri H',rt:=Q } (start N vs) H):RO P w K mg base bz (k+1) f fd ps sp:=by
 obtain⟨oc,od,kV,doc,pm,an,Ru,ct,UK,rfl,lk,R9⟩:=F.ex
 refine Lm lk R9 S len λA outer s H vs Q E hr VL=>?_
 obtain⟨t,h,q⟩:=Vv Ru A outer s H vs Q E hr VL
 exact⟨t,h.V4,q⟩
theorem R8.binds{f:U1}(F:R8 K x qual st f fd)
  (h:∀(kV doc pm:M6) (an:Qo U1) (Ru ct:M6) (us:Ql M6),us.length=ps.length->bindArgs (Ov x qual (iN st) (fW st) (bp st) .none kV doc pm an Ru ct) ⟨us,[]⟩=pure (ps.zip us)):Binds K fd ps []:=by
 obtain⟨oc,od,kV,doc,pm,an,Ru,ct,UK,rfl,lk,R9⟩:=F.ex
 exact .all (h kV doc pm an Ru ct)
theorem Cj{f:U1}{oc:M6}{od an:Qo U1}{UK:Array (Qo M6)}{kV doc pm Ru ct:M6}(l:K.lookup f=Qs ⟨oc,od,.func (Ov x qual (iN st) (fW st) (bp st) .none kV doc pm an Ru ct),UK⟩)
  (c:Pr K Ru qual=Qt) (k:N2 K (.ref f)=Qt):R8 K x qual st f (Ov x qual (iN st) (fW st) (bp st) .none kV doc pm an Ru ct):=⟨⟨oc,od,kV,doc,pm,an,Ru,ct,UK,rfl,l,c⟩,k⟩
end
theorem oA{A B:Prop}(h:B):if Qf=Qt then A else B:=by
 rw[QU MU]
 exact h
theorem oz{A B:Prop}(h:A):if Qt=Qt then A else B:=by
 rw[QO rfl]
 exact h
def QS(H H':Hp):Prop := ∀b o,H b=Qs o->H' b=Qs o
theorem QS.refl(H:Hp):QS H H:=λ_ _ h=>h
theorem QS.trans (a:QS H H1)(b:QS H1 H2):QS H H2:=λc o h=>b c o (a c o h)
theorem QS.free (e:QS H H') (h:H' l=SK):H l=SK:=by
 cases q:H l with
 |none=>rfl
 |some o =>
  rw[e l o q]at h
  cases h
theorem QS.seq{a:U1}(e:QS H H')(h:Rm K H a xs):Rm K H' a xs:=by
 rcases h with(h | ⟨o,h⟩) |h
 .exact .inl (.inl (e _ _ h))
 .exact .inl (.inr ⟨o,e _ _ h⟩)
 .exact .inr h
end L2
set_option maxHeartbeats 4000000
namespace L2
open PySem.Spec
section
variable {κ:Type}[DecidableEq κ]
def gh(Rh:Ql (κ×V))(k:κ):Qo V:=(Rh.find? λkv=>decide (kv.1=k)).map (·.2)
def gn(Rh:Ql (κ×V))(k:κ)(v:V):Ql (κ×V) :=
 if(Rh.any λkv=>decide (kv.1=k))=Qt then Rh.map (λkv=>if kv.1=k then(kv.1,v) else kv) else Rh++[(k,v)]
theorem nj{p:κ×V}{r:Ql (κ×V)}{k:κ}(e:p.1=k):gh (p::r) k=Qs p.2:=by simp[gh,Oq,e]
theorem nu{p:κ×V}{r:Ql (κ×V)}{k:κ}(e : ¬ p.1=k):gh (p::r) k=gh r k:=by simp[gh,Oq,e]
theorem uK(k:κ):∀Rh:Ql (κ×V),(Rh.any λkv=>decide (kv.1=k))=(gh Rh k).isSome
 |[]=>rfl
 |p::r=>by
  rw[OA]
  by_cases e:p.1=k
  .simp only[nj e,RC e,Qv,QJ]
  .rw[nu e,Su e,Pe];exact uK k r
theorem Bv(Rh:Ql (κ×V))(k:κ)(v:V):(gn Rh k v).length<=Rh.length+1:=by
 unfold gn
 split
 .rw[MY];lia
 .rw[Nl,M9,Pd];lia
theorem Ui.YS{o:Qo V}{u:Qo M6}(r:Ui o u):o.isSome=u.isSome:=by
 cases o with
 |none=>cases u with
  |none=>rfl
  |some _=>exact(show False from r).elim
 |some _=>cases u with
  |none=>exact(show False from r).elim
  |some _=>rfl
theorem KV.val{Rh:Ql (κ×V)}{vs:Ql (κ×M6)}(r:KV Rh vs)(k:κ):Ui (gh Rh k) (valueAt vs k):=by
 unfold KV at r
 induction r with
 |nil=>exact True.intro
 |@cons p q ps qs h t ih =>
  obtain⟨h1,h2⟩:=h
  by_cases e:p.1=k
  .have e':q.1=k:=h1.symm.trans e
   have b:valueAt (q::qs) k=Qs q.2:=by simp[valueAt,Oq,e']
   rw[nj e,b];exact h2
  .have e' : ¬ q.1=k:=λz=>e (h1.trans z)
   have b:valueAt (q::qs) k=valueAt qs k:=by simp[valueAt,Oq,e']
   rw[nu e,b];exact ih
theorem KV.any{Rh:Ql (κ×V)}{vs:Ql (κ×M6)}(r:KV Rh vs)(k:κ):(Rh.any λkv=>decide (kv.1=k))=vs.any λkv=>decide (kv.1=k):=by
 unfold KV at r
 induction r with
 |nil=>rfl
 |cons h t ih=>rw[OA,OA,ih,h.1]
theorem KV.Yw{Rh:Ql (κ×V)}{vs:Ql (κ×M6)}(r:KV Rh vs)(k:κ) (ry:RelV y u) :
  KV (Rh.map λkv=>if kv.1=k then(kv.1,y) else kv) (vs.map λkv=>if kv.1=k then(kv.1,u) else kv):=by
 unfold KV at r ⊢
 induction r with
 |nil=>exact .nil
 |@cons p q ps qs h t ih =>
  rw[M4,M4]
  refine .cons ?_ ih
  obtain⟨h1,h2⟩:=h
  by_cases e:p.1=k
  .rw[QO e,QO (h1.symm.trans e)];exact⟨h1,ry⟩
  .rw[QU e,QU (λz=>e (h1.trans z))];exact⟨h1,h2⟩
theorem KV.put{Rh:Ql (κ×V)}{vs:Ql (κ×M6)}(r:KV Rh vs)(k:κ) (ry:RelV y u):KV (gn Rh k y) (stored vs k u):=by
 unfold gn stored
 rw[r.any k]
 by_cases e:(vs.any λkv=>decide (kv.1=k))=Qt
 .rw[QO e,QO e];exact r.Yw k ry
 .rw[QU e,QU e];exact Paired.snoc r ⟨rfl,ry⟩
theorem KV.length{Rh:Ql (κ×V)}{vs:Ql (κ×M6)}(r:KV Rh vs):Rh.length=vs.length:=Paired.length r
end
theorem wG{k:aK}(r:RelV (kV k) u):(fh P w).is k u=Qt:=by
 cases k with
 |inl i=>obtain⟨t,e⟩:=(show ∃t,u=Rk i t from r);subst e;exact JP P w i t
 |inr x=>obtain⟨t,e⟩:=(show ∃t,u=Rl x t from r);subst e;exact JN P w x t
theorem BE{P:NA}{w:OX}:∀{ks:Ql aK}{us:Ql M6},Vals (ks.map kV) us->ItemsAre (fh P w) ks us
 |[],_,r=>by rw[Qr]at r;cases r;exact .nil
 |k::ks,_,r=>by
  rw[M4]at r
  cases r with
  |cons h t=>exact .cons (wG h) (BE t)
abbrev KT(H:Hp):Ql (Ql aK×V)->Ql (Ql aK×U1×M6)->Prop:=Paired λp q=>p.1=q.1/\H q.2.1=Qs (.tup (p.1.map kV))/\RelV p.2 q.2.2
theorem KT.val{H:Hp}{Rh:Ql (Ql aK×V)}{xs:Ql (Ql aK×U1×M6)}(r:KT H Rh xs)(k:Ql aK):Ui (gh Rh k) ((atKey xs k).map (·.2)):=by
 induction r with
 |nil=>exact True.intro
 |@cons p q ps qs h t ih =>
  obtain⟨h1,_,h2⟩:=h
  by_cases e:p.1=k
  .have e':q.1=k:=h1.symm.trans e
   have b:atKey (q::qs) k=Qs q.2:=by simp[atKey,Oq,e']
   rw[nj e,b];exact h2
  .have e' : ¬ q.1=k:=λz=>e (h1.trans z)
   have b:atKey (q::qs) k=atKey qs k:=by simp[atKey,Oq,e']
   rw[nu e,b];exact ih
theorem KT.Yw{Rh:Ql (Ql aK×V)}{xs:Ql (Ql aK×U1×M6)}(r:KT H Rh xs)(k:Ql aK) (ry:RelV y u) :
  KT H (Rh.map λkv=>if kv.1=k then(kv.1,y) else kv) (xs.map (putAt k u)):=by
 induction r with
 |nil=>exact .nil
 |@cons p q ps qs h t ih =>
  rw[M4,M4]
  refine .cons ?_ ih
  obtain⟨h1,h2,h3⟩:=h
  unfold putAt
  by_cases e:p.1=k
  .rw[QO e,QO (h1.symm.trans e)];exact⟨h1,h2,ry⟩
  .rw[QU e,QU (λz=>e (h1.trans z))];exact⟨h1,h2,h3⟩
theorem KT.put{Rh:Ql (Ql aK×V)}{xs:Ql (Ql aK×U1×M6)}(r:KT H Rh xs)(k:Ql aK){b:U1}(hb:H b=Qs (.tup (k.map kV)))(ry:RelV y u) :
  KT H (gn Rh k y) (storedH xs k b u):=by
 have e:(Rh.any λkv=>decide (kv.1=k))=(atKey xs k).isSome:=by
  rw[uK,(r.val k).YS,QR]
 unfold gn storedH
 rw[e]
 by_cases q:(atKey xs k).isSome=Qt
 .rw[QO q,QO q];exact r.Yw k ry
 .rw[QU q,QU q];exact Paired.snoc r ⟨rfl,hb,ry⟩
theorem KT.keeps{Rh:Ql (Ql aK×V)}{xs:Ql (Ql aK×U1×M6)}(r:KT H Rh xs)(ht:∀b ys,H b=Qs (.tup ys)->H' b=Qs (.tup ys)):KT H' Rh xs :=
 Paired.YJ r λ_ _ z=>⟨z.1,ht _ _ z.2.1,z.2.2⟩
section
variable {a:U1}
theorem zJ{u:HO}(ok:SA P w H h)(e:Rd H a u):SJ P w H h a u:=e.ok ok
theorem xO{Rh:Ql (aK×V)}(ok:SA P w H h)(e:Rd H a (.dK Rh)):Rh.length<=Nn/\(a == sysModules)=Qf/\∃vs,KV Rh vs/\h.DictOf (fh P w) a vs :=
 show SJ P w H h a (.dK Rh) from zJ ok e
theorem LF{Rh:Ql (aK×V)}(ok:SA P w H h)(e:H a=Qs (.dK Rh)):Rh.length<=Nn/\(a == sysModules)=Qf/\∃vs,KV Rh vs/\h.DictOf (fh P w) a vs:=xO ok (.inl e)
theorem wC (ok:SA P w H h)(e:H a=Qs (.tup (ks.map kV))):(tupleKind (fh P w)).is h ks a:=by
 obtain⟨_,Q7,r,o,h1,h2,n,h3⟩:=(show SJ P w H h a (.tup (ks.map kV)) from ok a _ e)
 exact⟨o,Q7.toArray,n,h1,h2,h3,by simpa using BE r⟩
theorem CM{Rh:Ql (Ql aK×V)}(ok:SA P w H h)(e:Rd H a (.dT Rh)):Rh.length<=Nn/\(a == sysModules)=Qf /\
  ∃xs,KT H Rh xs/\h.DictOfH (tupleKind (fh P w)) a xs:=by
 obtain⟨z,y,xs,r,o,es,ep,h1,h2,h3,h4,h5⟩:=(show SJ P w H h a (.dT Rh) from zJ ok e)
 refine⟨z,y,xs,r,o,es,ep,h1,h2,h3,h4,λx hx=>?_,h5⟩
 have all:∀{l:Ql (Ql aK×V)}{m:Ql (Ql aK×U1×M6)},KT H l m->∀x∈m,(tupleKind (fh P w)).is h x.1 x.2.1:=by
  intro l m q
  induction q with
  |nil=>intro x hx;exact nomatch hx
  |@cons p q ps qs hq t ih =>
   intro x hx
   rcases MQ.mp hx with e | hx
   .subst e
    exact wC ok (by rw[<-hq.1];exact hq.2.1)
   .exact ih x hx
 exact all r x hx
theorem LD{Rh:Ql (Ql aK×V)}(ok:SA P w H h)(e:H a=Qs (.dT Rh)):Rh.length<=Nn/\(a == sysModules)=Qf /\
  ∃xs,KT H Rh xs/\h.DictOfH (tupleKind (fh P w)) a xs:=CM ok (.inl e)
end
def DR(H:Hp)(a:U1)(y:V)(r:Qo V):Prop :=
 (∃Rh k,Rd H a (.dK Rh)/\y=kV k/\r=gh Rh k)\/∃Rh k b,Rd H a (.dT Rh)/\y=.ref b/\H b=Qs (.tup (k.map kV))/\r=gh Rh k
def XI(H:Hp)(a:U1)(y v:V)(H':Hp):Prop :=
 (∃Rh k,H a=Qs (.dK Rh)/\y=kV k/\Rh.length<Nn/\H'=upd H a (.dK (gn Rh k v))) \/
 ∃Rh k b,H a=Qs (.dT Rh)/\y=.ref b/\H b=Qs (.tup (k.map kV))/\Rh.length<Nn/\H'=upd H a (.dT (gn Rh k v))
theorem XI.k{H:Hp}{a:U1}{Rh:Ql (aK×V)}{k:aK}{v:V}(e:H a=Qs (.dK Rh))(hl:Rh.length<Nn):XI H a (kV k) v (upd H a (.dK (gn Rh k v))):=.inl ⟨Rh,k,e,rfl,hl,rfl⟩
section
variable {σ:St}{a:U1}{r:M6}{o:Qo V}{A:Ol}
theorem Inv.big(I:Inv X pins σ H s):sysModules<s.heap.objs.size:=by
 have h:mainGlobals<s.heap.objs.size:=(I.mod.glob.keeps I.bk).lt
 exact QY (by decide) h
theorem LK{Q:M6->M0->Prop}(hu:A.units+1<cLine)(I:Inv X pins σ H s)(g:DR H a y o)(ry:RelV y u)(h:∀s',Inv X pins σ H s'->Q (.bool o.isSome) s') :
  wpAny (model X.prog X.w) A (compareOp .In u (.ref a)) Q E s:=by
 rcases g with⟨Rh,k,e,ey,l⟩ | ⟨Rh,k,b,e,ey,eb,l⟩
 .subst ey
  obtain⟨z,hd,vs,rel,dd⟩:=xO I.Rw e
  refine wpAny_in_of (wG ry) hd dd.mapOf ?_
  rw[<-(rel.val k).YS, <-l]
  exact h _ (I.tok _)
 .subst ey
  cases(show u=M7 b from ry)
  obtain⟨z,hd,xs,rel,dd⟩:=CM I.Rw e
  refine wpAny_in_heap (tupleKind_room_in1 hu) (wC I.Rw eb) hd dd ?_
  have q:=(rel.val k).YS
  rw[QR]at q
  rw[<-q, <-l]
  exact h _ (I.tok _)
theorem CV{ob:HO}(I:Inv X pins σ H s)(mu:pQ (H a))(hs:Heap.SameBut a s.heap h')(he:∃q,h'.get? a=Qs q)(new:SJ X.prog X.w (upd H a ob) h' a ob) :
  Inv X pins σ (upd H a ob) { s with heap:=h',toks:=t' } :=
 I.write (x:=a) (e:=a) mu (.inl rfl) (λb q hb z=>(hs.2 b hb).trans z) he new
theorem LG{Rh:Ql (aK×V)}{vs:Ql (aK×M6)}(z:Rh.length<=Nn)(hd:(a == sysModules)=Qf)(rel:KV Rh vs)(dd:h'.DictOf (fh P w) a vs) :
  SJ P w H' h' a (.dK Rh):=⟨z,hd,vs,rel,dd⟩
theorem LJ{Q:Unit->M0->Prop}(hu:A.units+1<cLine)(I:Inv X pins σ H s)(g:XI H a y v H')(ry:RelV y u)(rv:RelV v r)(h:∀s',Inv X pins σ H' s'->Q () s') :
  wpAny (model X.prog X.w) A (setItem (.ref a) u r) Q E s:=by
 rcases g with⟨Rh,k,e,ey,l,eH⟩ | ⟨Rh,k,b,e,ey,eb,l,eH⟩
 .subst ey eH
  obtain⟨z,hd,vs,rel,dd⟩:=LF I.Rw e
  have hz:vs.length<=Nn:=by rw[<-rel.length];exact z
  have hl:(gn Rh k v).length<=Nn:=by have:=Bv Rh k v;lia
  refine wpAny_setItem_pairs (hsz:=hz) (wG ry) dd λh' Yf hs=>h _ ?_
  have he:∃q,h'.get? a=Qs q:=let ⟨q,_,_,hq,_⟩:=Yf;⟨q,hq⟩
  exact CV I (by rw[e];exact True.intro) hs he (LG hl hd (rel.put k rv) Yf)
 .subst ey eH
  cases(show u=M7 b from ry)
  obtain⟨z,hd,xs,rel,dd⟩:=LD I.Rw e
  have hz:xs.length<=Nn:=by rw[<-Paired.length rel];exact z
  have hl:(gn Rh k v).length<=Nn:=by have:=Bv Rh k v;lia
  refine wpAny_setItem_heap (hsz:=hz) (tupleKind_room_in1 hu) (wC I.Rw eb) dd λh' Yf hs=>h _ ?_
  obtain⟨q,es,ep,hq,h2,h3,h4,_,h5⟩:=Yf
  refine CV I (by rw[e];exact True.intro) hs ⟨q,hq⟩ ⟨hl,hd,_,(rel.put k eb rv).keeps λc ys ec=>?_,q,es,ep,hq,h2,h3,h4,h5⟩
  rw[aN (sO ec e (λz=>nomatch z))]
  exact ec
end
theorem LH (h:U2)(hb:sysModules<h.objs.size):SJ P w H (h.push { cls:=.type "dict",data:=.dict #[] }) h.objs.size (.dK []) :=
 ⟨OU _,beq_eq_false_iff_ne.mpr (Ne.symm (NC hb)),[],.nil,Heap.DictOf.new h⟩
def EV:TE:=λ_ H Q => ∀p,H p=Qn->Q (.ref p) (upd H p (.dK []))
theorem Ic:PE X (.Dict [] [] pos) EV:=λpins s σ H Q I h =>
 wpAny_Dict_empty ⟨.ref s.heap.objs.size,_,I.laid (a:=s.heap.objs.size) (o:=.dK []) (t':=s.toks) (λ_ _ q=>MV _ q) (MZ _) (LH s.heap I.big),rfl,h _ (I.Rw.fresh (MZ _))⟩
end L2
namespace DL
open PySem.Spec L2
def aB{α β:Type}{x:Qo α}{f:α->Qo β}{r:β}{G:Prop}(e:x.bind f=Qs r)(h:∀a,x=Qs a->f a=Qs r->G):G:=by
 cases x with
 |none=>cases e
 |some a=>exact h a rfl e
def bZ{c:Prop}[Decidable c]{β:Type}{x:Qo β}{r:β}{G:Prop}(e:(if c then x else Qn)=Qs r)(h:c->x=Qs r->G):G:=by
 by_cases z:c
 .exact h z ((QO z).symm.trans e)
 .cases(QU z).symm.trans e
inductive D where
 |Ri | bl (b:Bool) |int (i:Int) |str (x:Str) |tup (xs:List D) |lst (xs:List D) |RX (ks:List aK) (ds:List D) |Sw (ps:List (List Int×Int)) |Tx (ps:List (List Int×Int)) |adr (p:U1) |obj (C:U1) (ns:List Str) (ds:List D) |Rx (ks:List Int)
def d4(ks:Ql aK)(vs:Ql V):Ql (aK×V):=ks.zip vs
def vM(ps:Ql (Ql Int×Int)):Ql (Ql aK×V):=ps.map λq=>(q.1.map Sum.inl,V.int q.2)
def Tu(ks:Ql Int):Ql (aK×V):=ks.map λk=>(Sum.inl k,V.bl Qt)
mutual
inductive Rep(K:MK)(H:Hp):D->V->Prop
 |Ri:Rep K H .Ri .Ri
 |bl (b:Bool):Rep K H (.bl b) (.bl b)
 |int (i:Int):Rep K H (.int i) (.int i)
 |str (x:Str):Rep K H (.str x) (.str x)
 |tup {ds:List D}{p:U1}{vs:List V}:RQ K H p vs->QV K H ds vs->Rep K H (.tup ds) (.ref p)
 |lst {ds:List D}{p:U1}{vs:List V}:Rm K H p vs->QV K H ds vs->Rep K H (.lst ds) (.ref p)
 |RX {ks:List aK}{ds:List D}{p:U1}{vs:List V}:ks.length=vs.length->H p=Qs (.dK (d4 ks vs))->QV K H ds vs->Rep K H (.RX ks ds) (.ref p)
 |Sw {ps:List (List Int×Int)}{p:U1}:H p=Qs (.dT (vM ps))->Rep K H (.Sw ps) (.ref p)
 |Tx {ps:List (List Int×Int)}{p:U1}{o:Obj}:H p=Qs (.SW o (.dT (vM ps)))->Rep K H (.Tx ps) (.ref p)
 |adr (p:U1):Rep K H (.adr p) (.ref p)
 |Rx {ks:List Int}{p:U1}{o:Obj}:H p=Qs (.SW o (.dK (Tu ks)))->Rep K H (.Rx ks) (.ref p)
 |obj {C dx:U1}{ns:List Str}{ds:List D}{p:U1}{vs:List V}:ns.length=vs.length->H p=Qs (.ins C dx (ns.zip vs))->QV K H ds vs->Rep K H (.obj C ns ds) (.ref p)
inductive QV(K:MK)(H:Hp):List D->List V->Prop
 |nil:QV K H [] []
 |cons {d:D}{v:V}{ds:List D}{vs:List V}:Rep K H d v->QV K H ds vs->QV K H (d::ds) (v::vs)
end
def Rm.mono{a:U1}(e:QS H H')(h:Rm K H a xs):Rm K H' a xs:=e.seq h
def RQ.mono{a:U1}(e:QS H H')(h:RQ K H a xs):RQ K H' a xs:=by
 exact e _ _ h
mutual
def Rep.mono{K:MK}{H H':Hp}(e:QS H H'):∀{d:D}{v:V},Rep K H d v->Rep K H' d v
 |_,_,.Ri=>.Ri
 |_,_,.bl b=>.bl b
 |_,_,.int i=>.int i
 |_,_,.str x=>.str x
 |_,_,.tup h r=>.tup (RQ.mono e h) (QV.mono e r)
 |_,_,.lst h r=>.lst (Rm.mono e h) (QV.mono e r)
 |_,_,.RX l h r=>.RX l (e _ _ h) (QV.mono e r)
 |_,_,.Sw h=>.Sw (e _ _ h)
 |_,_,.Tx h=>.Tx (e _ _ h)
 |_,_,.adr p=>.adr p
 |_,_,.Rx h=>.Rx (e _ _ h)
 |_,_,.obj l h r=>.obj l (e _ _ h) (QV.mono e r)
def QV.mono{K:MK}{H H':Hp}(e:QS H H'):∀{ds:List D}{vs:List V},QV K H ds vs->QV K H' ds vs
 |_,_,.nil=>.nil
 |_,_,.cons h r=>.cons (Rep.mono e h) (QV.mono e r)
end
def QV.length{K:MK}{H:Hp}:∀{ds:Ql D}{vs:Ql V},QV K H ds vs->vs.length=ds.length
 |_,_,.nil=>rfl
 |_,_,.cons _ r=>by simp[QV.length r]
def QV.get{K:MK}{H:Hp}:∀{ds:Ql D}{vs:Ql V},QV K H ds vs->∀{i:Nat}{d:D},ds[i]?=Qs d->∃v,vs[i]?=Qs v/\Rep K H d v
 |_,_,.nil,i,d,e=>by simp at e
 |_,_,.cons (v:=v) h r,0,d,e=>by simp at e;subst e;exact⟨v,rfl,h⟩
 |_,_,.cons h r,i+1,d,e=>by
  obtain⟨v,a,b⟩:=QV.get r (i:=i) (d:=d) (by simpa using e)
  exact⟨v,by simpa using a,b⟩
def QV.UT{K:MK}{H:Hp}:∀{ds:Ql D}{vs:Ql V},QV K H ds vs->∀{i:Nat}{v:V},vs[i]?=Qs v->∃d,ds[i]?=Qs d/\Rep K H d v
 |_,_,.nil,i,d,e=>by simp at e
 |_,_,.cons (d:=d) h r,0,v,e=>by simp at e;subst e;exact⟨d,rfl,h⟩
 |_,_,.cons h r,i+1,v,e=>by
  obtain⟨d,a,b⟩:=QV.UT r (i:=i) (v:=v) (by simpa using e)
  exact⟨d,by simpa using a,b⟩
def QV.app{K:MK}{H:Hp}:∀{ds:Ql D}{vs:Ql V}{es:Ql D}{us:Ql V},QV K H ds vs->QV K H es us->QV K H (ds++es) (vs++us)
 |_,_,_,_,.nil,r=>r
 |_,_,_,_,.cons h r,q=>.cons h (QV.app r q)
def QV.set{K:MK}{H:Hp}{d:D}{v:V}(h:Rep K H d v):∀{ds:Ql D}{vs:Ql V} (i:Nat),QV K H ds vs->QV K H (ds.set i d) (vs.set i v)
 |_,_,_,.nil=>.nil
 |_,_,0,.cons _ r=>.cons h r
 |_,_,i+1,.cons q r=>.cons q (QV.set h i r)
def QV.one{d:D}(h:Rep K H d v):QV K H [d] [v]:=.cons h .nil
def QV.ints{K:MK}{H:Hp}:∀ns:Ql Int,QV K H (ns.map D.int) (ns.map V.int)
 |[]=>.nil
 |n::ns=>.cons (.int n) (QV.ints ns)
mutual
def flat:D->Bool
 |.lst _=>Qf
 |.RX _ _=>Qf
 |.Sw _=>Qf
 |.obj _ _ _=>Qf
 |.tup xs=>RB xs
 |_=>Qt
def RB:List D->Bool
 |[]=>Qt
 |d::ds=>flat d&&RB ds
end
def ah(P:Ql U1)(H:Hp):Hp:=λa=>if a∈P then Qn else H a
def aV(P:Ql U1)(H:Hp):QS (ah P H) H:=λb o e=>by
 unfold ah at e
 split at e
 .cases e
 .exact e
def bw{P:Ql U1}{a:U1}{o:HO}(h:H a=Qs o)(n:a∉P):ah P H a=Qs o:=by
 unfold ah;rw[QU n];exact h
def cD{P:Ql U1}{a:U1}{o:HO}(h:ah P H a=Qs o):a∉P/\H a=Qs o:=by
 unfold ah at h
 split at h
 .cases h
 .exact⟨by assumption,h⟩
def K5(H:Hp):ah [] H=H:=by funext a;simp[ah]
def aZ{P P':Ql U1}(H:Hp)(h:∀a∈P',a∈P):QS (ah P H) (ah P' H):=λb o e=>by
 obtain⟨n,e⟩:=cD e
 exact bw e λz=>n (h b z)
def sT:HO->Bool
 |.lst _=>Qt
 |.dK _=>Qt
 |.dT _=>Qt
 |.ins _ _ _=>Qt
 |.own _=>Qt
 |_=>Qf
abbrev MO:={o:HO // sT o=Qt}
def mL(vs:Ql V):MO:=⟨.lst vs,rfl⟩
def mD(Rh:Ql (aK×V)):MO:=⟨.dK Rh,rfl⟩
def mI(C dx:U1)(fs:Ql (Str×V)):MO:=⟨.ins C dx fs,rfl⟩
def mT(Rh:Ql (Ql aK×V)):MO:=⟨.dT Rh,rfl⟩
def RF(H:Hp)(P:Ql U1):Prop := ∀p∈P,∃o:MO,H p=Qs o.1
def RF.mono{P:Ql U1}(h:RF H P)(e:QS H H'):RF H' P:=λp hp=>let ⟨vs,q⟩:=h p hp;⟨vs,e _ _ q⟩
def RQ.RY{P:Ql U1}{a:U1}(m:RF H P)(h:RQ K H a xs):RQ K (ah P H) a xs:=by
 have h:H a=Qs (.tup xs):=h
 exact bw h λz=>by obtain⟨⟨vs,w⟩,q⟩:=m _ z;rw[q]at h;cases h;cases w
mutual
def Rep.RY{K:MK}{H:Hp}{P:List U1}(m:RF H P):∀{d:D}{v:V},flat d=Qt->Rep K H d v->Rep K (ah P H) d v
 |_,_,_,.Ri=>.Ri
 |_,_,_,.bl b=>.bl b
 |_,_,_,.int i=>.int i
 |_,_,_,.str x=>.str x
 |_,_,f,.tup h r=>.tup (RQ.RY m h) (QV.RY m (by simpa[flat] using f) r)
 |_,_,f,.lst h r=>by simp[flat]at f
 |_,_,f,.RX _ h r=>by simp[flat]at f
 |_,_,f,.Sw h=>by simp[flat]at f
 |_,_,f,.obj _ h r=>by simp[flat]at f
 |_,_,_,.adr p=>.adr p
 |_,_,_,.Rx h=>.Rx (bw h λz=>by obtain⟨⟨vs,w⟩,q⟩:=m _ z;rw[q]at h;cases h;cases w)
 |_,_,_,.Tx h=>.Tx (bw h λz=>by obtain⟨⟨vs,w⟩,q⟩:=m _ z;rw[q]at h;cases h;cases w)
def QV.RY{K:MK}{H:Hp}{P:List U1}(m:RF H P):∀{ds:List D}{vs:List V},RB ds=Qt->QV K H ds vs->QV K (ah P H) ds vs
 |_,_,_,.nil=>.nil
 |_,_,f,.cons h r=>by
  simp[RB]at f
  exact .cons (Rep.RY m f.1 h) (QV.RY m f.2 r)
end
mutual
inductive Rn(K:MK)(H0 H:Hp):D->V->List U1->Prop
 |flat {d:D}{v:V}:flat d=Qt->Rep K H0 d v->Rn K H0 H d v []
 |tup {ds:List D}{p:U1}{vs:List V}{B:List U1}:RQ K H0 p vs->Rg K H0 H ds vs B->Rn K H0 H (.tup ds) (.ref p) B
 |lst {ds:List D}{p:U1}{vs:List V}{B:List U1}:H p=Qs (.lst vs)->Rg K H0 H ds vs B->Rn K H0 H (.lst ds) (.ref p) (p::B)
 |RX {ks:List aK}{ds:List D}{p:U1}{vs:List V}{B:List U1}:ks.length=vs.length->H p=Qs (.dK (d4 ks vs))->Rg K H0 H ds vs B->Rn K H0 H (.RX ks ds) (.ref p) (p::B)
 |Sw {ps:List (List Int×Int)}{p:U1}:H p=Qs (.dT (vM ps))->Rn K H0 H (.Sw ps) (.ref p) [p]
 |obj {C dx:U1}{ns:List Str}{ds:List D}{p:U1}{vs:List V}{B:List U1}:ns.length=vs.length->H p=Qs (.ins C dx (ns.zip vs))->Rg K H0 H ds vs B->Rn K H0 H (.obj C ns ds) (.ref p) (p::B)
inductive Rg(K:MK)(H0 H:Hp):List D->List V->List U1->Prop
 |nil:Rg K H0 H [] [] []
 |cons {d:D}{v:V}{ds:List D}{vs:List V}{B C:List U1}:Rn K H0 H d v B->Rg K H0 H ds vs C->Rg K H0 H (d::ds) (v::vs) (B++C)
end
mutual
def Rn.mono{K:MK}{H0 H RJ H':Hp}(e:QS H0 RJ):∀{d:D}{v:V}{B:List U1},Rn K H0 H d v B->(∀p∈B,∀o,H p=Qs o->H' p=Qs o)->Rn K RJ H' d v B
 |_,_,_,.flat f r,_=>.flat f (Rep.mono e r)
 |_,_,_,.tup h r,k=>.tup (RQ.mono e h) (Rg.mono e r k)
 |_,_,_,.lst h r,k=>.lst (k _ (MN ..) _ h) (Rg.mono e r λp hp=>k p (MM _ hp))
 |_,_,_,.RX l h r,k=>.RX l (k _ (MN ..) _ h) (Rg.mono e r λp hp=>k p (MM _ hp))
 |_,_,_,.obj l h r,k=>.obj l (k _ (MN ..) _ h) (Rg.mono e r λp hp=>k p (MM _ hp))
 |_,_,_,.Sw h,k=>.Sw (k _ (MN ..) _ h)
def Rg.mono{K:MK}{H0 H RJ H':Hp}(e:QS H0 RJ):∀{ds:List D}{vs:List V}{B:List U1},Rg K H0 H ds vs B->(∀p∈B,∀o,H p=Qs o->H' p=Qs o)->Rg K RJ H' ds vs B
 |_,_,_,.nil,_=>.nil
 |_,_,_,.cons h r,k=>.cons (Rn.mono e h λp hp=>k p (MJ _ hp)) (Rg.mono e r λp hp=>k p (MI _ hp))
end
mutual
def Rn.rep{K:MK}{H0 H H1:Hp}(e:QS H0 H1):∀{d:D}{v:V}{B:List U1},Rn K H0 H d v B->(∀p∈B,∀o,H p=Qs o->H1 p=Qs o)->Rep K H1 d v
 |_,_,_,.flat f r,_=>Rep.mono e r
 |_,_,_,.tup h r,k=>.tup (RQ.mono e h) (Rg.rep e r k)
 |_,_,_,.lst h r,k=>.lst (Rm.of (k _ (MN ..) _ h)) (Rg.rep e r λp hp=>k p (MM _ hp))
 |_,_,_,.RX l h r,k=>.RX l (k _ (MN ..) _ h) (Rg.rep e r λp hp=>k p (MM _ hp))
 |_,_,_,.obj l h r,k=>.obj l (k _ (MN ..) _ h) (Rg.rep e r λp hp=>k p (MM _ hp))
 |_,_,_,.Sw h,k=>.Sw (k _ (MN ..) _ h)
def Rg.rep{K:MK}{H0 H H1:Hp}(e:QS H0 H1):∀{ds:List D}{vs:List V}{B:List U1},Rg K H0 H ds vs B->(∀p∈B,∀o,H p=Qs o->H1 p=Qs o)->QV K H1 ds vs
 |_,_,_,.nil,_=>.nil
 |_,_,_,.cons h r,k=>.cons (Rn.rep e h λp hp=>k p (MJ _ hp)) (Rg.rep e r λp hp=>k p (MI _ hp))
end
mutual
def Rn.lists{K:MK}{H0 H:Hp}:∀{d:D}{v:V}{B:List U1},Rn K H0 H d v B->RF H B
 |_,_,_,.flat f r=>λp hp=>by cases hp
 |_,_,_,.tup h r=>Rg.lists r
 |_,_,_,.lst h r=>λp hp=>by
  rcases MQ.mp hp with rfl | hp
  .exact⟨mL _,h⟩
  .exact Rg.lists r p hp
 |_,_,_,.obj _ h r=>λp hp=>by
  rcases MQ.mp hp with rfl | hp
  .exact⟨mI _ _ _,h⟩
  .exact Rg.lists r p hp
 |_,_,_,.RX _ h r=>λp hp=>by
  rcases MQ.mp hp with rfl | hp
  .exact⟨mD _,h⟩
  .exact Rg.lists r p hp
 |_,_,_,.Sw h=>λp hp=>by
  rw[MS]at hp
  subst hp
  exact⟨mT _,h⟩
def Rg.lists{K:MK}{H0 H:Hp}:∀{ds:List D}{vs:List V}{B:List U1},Rg K H0 H ds vs B->RF H B
 |_,_,_,.nil=>λp hp=>by cases hp
 |_,_,_,.cons h r=>λp hp=>(ML.mp hp).elim (Rn.lists h p) (Rg.lists r p)
end
mutual
def Rn.RY{K:MK}{H0 H:Hp}{P:List U1}(m:RF H P)(e:QS H0 H):∀{d:D}{v:V}{B:List U1},Rn K H0 H d v B->Rn K (ah P H) H d v B
 |_,_,_,.flat f r=>.flat f (Rep.RY m f (Rep.mono e r))
 |_,_,_,.tup h r=>.tup (RQ.RY m (RQ.mono e h)) (Rg.RY m e r)
 |_,_,_,.lst h r=>.lst h (Rg.RY m e r)
 |_,_,_,.RX l h r=>.RX l h (Rg.RY m e r)
 |_,_,_,.obj l h r=>.obj l h (Rg.RY m e r)
 |_,_,_,.Sw h=>.Sw h
def Rg.RY{K:MK}{H0 H:Hp}{P:List U1}(m:RF H P)(e:QS H0 H):∀{ds:List D}{vs:List V}{B:List U1},Rg K H0 H ds vs B->Rg K (ah P H) H ds vs B
 |_,_,_,.nil=>.nil
 |_,_,_,.cons h r=>.cons (Rn.RY m e h) (Rg.RY m e r)
end
def Rg.Xe{K:MK}{H0 H:Hp}:∀{ds:Ql D}{vs:Ql V},RB ds=Qt->QV K H0 ds vs->Rg K H0 H ds vs []
 |_,_,_,.nil=>.nil
 |_,_,f,.cons h r=>by
  simp[RB]at f
  exact .cons (B:=[]) (C:=[]) (.flat f.1 h) (Rg.Xe f.2 r)
def RF.app{P Q:Ql U1}(h:RF H P)(k:RF H Q):RF H (P++Q):=λp hp=>(ML.mp hp).elim (h p) (k p)
inductive Ev where
 |cl (d:D) |tm (d:D) |nw (xs:List D) |dn (d:D)
def Ev.d:Ev->D
 |.cl d=>d
 |.tm d=>d
 |.nw xs=>.lst xs
 |.dn d=>d
inductive zff(K:MK)(F A:List U1)(H H':Hp)(xs:List D)(v:V):Prop
 |mk (p:U1) (vs:List V) (h_0:v=.ref p) (h_1:H p=Qn) (h_2:H' p=Qs (.lst vs)) (h_3:QV K (ah (p ::(A++F)) H') xs vs)
inductive zfh(K:MK)(F A:List U1)(H H':Hp)(d:D)(v:V):Prop
 |mk (B:List U1) (h_0:B.Nodup) (h_1:∀b∈B,H b=Qn) (h_2:Rn K (ah (B++(A++F)) H') H' d v B)
def Rz(K:MK)(F A:Ql U1)(H H':Hp):Ev->V->Prop
 |.cl d,v=>Rep K (ah (A++F) H') d v
 |.tm d,v=>Rep K (ah F H') d v
 |.nw xs,v=>zff K F A H H' xs v
 |.dn d,v=>zfh K F A H H' d v
def cT{P:Ql U1}(e:QS H H'):QS (ah P H) (ah P H'):=λb o h=>by
 obtain⟨n,h⟩:=cD h
 exact bw (e _ _ h) n
def Rz.mono{K:MK}{F A:Ql U1}{H H1 H2:Hp}{r:Ev}{v:V}(h:Rz K F A H H1 r v)(e:QS H1 H2):Rz K F A H H2 r v:=by
 cases r with
 |cl d=>exact Rep.mono (cT e) h
 |tm d=>exact Rep.mono (cT e) h
 |nw xs =>
  obtain⟨p,vs,rfl,h1,h2,h3⟩:=h
  exact⟨p,vs,rfl,h1,e _ _ h2,QV.mono (cT e) h3⟩
 |dn d =>
  obtain⟨B,h1,h2,h3⟩:=h
  exact⟨B,h1,h2,Rn.mono (cT e) h3 λp _ o q=>e _ _ q⟩
def Rz.back{r:Ev}(h:Rz K F A H H1 r v)(e:QS H0 H):Rz K F A H0 H1 r v:=by
 cases r with
 |cl d=>exact h
 |tm d=>exact h
 |nw xs =>
  obtain⟨p,vs,rfl,h1,h2,h3⟩:=h
  refine⟨p,vs,rfl,?_,h2,h3⟩
  cases q:H0 p with
  |none=>rfl
  |some o=>rw[e _ _ q]at h1;cases h1
 |dn d =>
  obtain⟨B,h1,h2,h3⟩:=h
  exact⟨B,h1,λb hb=>QS.free e (h2 b hb),h3⟩
def Rz.full{r:Ev}(h:Rz K F A H H' r v):Rep K H' r.d v:=by
 cases r with
 |cl d=>exact Rep.mono (aV _ _) h
 |tm d=>exact Rep.mono (aV _ _) h
 |nw xs =>
  obtain⟨p,vs,rfl,h1,h2,h3⟩:=h
  exact .lst (Rm.of h2) (QV.mono (aV _ _) h3)
 |dn d =>
  obtain⟨B,h1,h2,h3⟩:=h
  exact h3.rep (aV _ _) λ_ _ _ q=>q
def dZ{P:Ql U1}(m:RF H P)(h:H p=Qn):p∉P:=λz=>by
 obtain⟨vs,q⟩:=m _ z
 rw[q]at h;cases h
def Rz.UB{r:Ev}(m:RF H (A++F))(h:Rz K F A H H' r v):Rep K (ah F H') r.d v:=by
 cases r with
 |cl d=>exact Rep.mono (aZ H' λa z=>MI _ z) h
 |tm d=>exact h
 |nw xs =>
  obtain⟨p,vs,rfl,h1,h2,h3⟩:=h
  have n:p∉F:=λz=>dZ m h1 (MI _ z)
  exact .lst (Rm.of (bw h2 n)) (QV.mono (aZ H' λa z=>MM _ (MI _ z)) h3)
 |dn d =>
  obtain⟨B,h1,h2,h3⟩:=h
  refine h3.rep (aZ H' λa z=>MI _ (MI _ z)) λb hb o q=>bw q λz=>?_
  exact dZ m (h2 b hb) (MI _ z)
def Ev.ok:Ev->Bool
 |.cl _=>Qt
 |.tm d=>flat d
 |.nw _=>Qt
 |.dn _=>Qt
def Rz.clean{r:Ev}(m:RF H (A++F))(e:QS H H')(h:Rz K F A H H' r v)(c:r.ok=Qt):Rep K (ah (A++F) H') r.d v:=by
 cases r with
 |cl d=>exact h
 |tm d =>
  have m':RF H' (A++F):=m.mono e
  exact Rep.RY m' c (Rep.mono (aV _ _) h)
 |nw xs =>
  obtain⟨p,vs,rfl,h1,h2,h3⟩:=h
  have n:p∉A++F:=dZ m h1
  exact .lst (Rm.of (bw h2 n)) (QV.mono (aZ H' λa z=>MM _ z) h3)
 |dn d =>
  obtain⟨B,h1,h2,h3⟩:=h
  exact h3.rep (aZ H' λa z=>MI _ z) λb hb o q=>bw q λz=>dZ m (h2 b hb) z
inductive Sl where
 |no | val (d:D) |own (xs:List D) |dp (d:D)
abbrev Th:=Ql Sl
inductive Rc(K:MK)(H0 H:Hp):Th->L2.St->List U1->Prop
 |nil:Rc K H0 H [] [] []
 |no {x:Option V}{t:Th}{σ:L2.St}{A:List U1}:Rc K H0 H t σ A->Rc K H0 H (.no::t) (x::σ) A
 |val {d:D}{v:V}{t:Th}{σ:L2.St}{A:List U1}:Rep K H0 d v->Rc K H0 H t σ A->Rc K H0 H (.val d::t) (Qs v::σ) A
 |own {p:U1}{vs:List V}{ds:List D}{t:Th}{σ:L2.St}{A:List U1}:H p=Qs (.lst vs)->QV K H0 ds vs->Rc K H0 H t σ A->Rc K H0 H (.own ds::t) (Qs (.ref p)::σ) (p::A)
 |dp {d:D}{v:V}{B:List U1}{t:Th}{σ:L2.St}{A:List U1}:Rn K H0 H d v B->Rc K H0 H t σ A->Rc K H0 H (.dp d::t) (Qs v::σ) (B++A)
structure RS(K:MK)(F:List U1)(H:Hp)(A:List U1)(t:Th)(σ:L2.St):Prop where
 mu:RF H (A++F)
 nd:A.Nodup
 dj:∀p∈A,p∉F
 rel:Rc K (ah (A++F) H) H t σ A
def Rc.mono{K:MK}{H0 H RJ H':Hp}(e0:QS H0 RJ):∀{t:Th}{σ:L2.St}{A:Ql U1},Rc K H0 H t σ A->(∀p∈A,∀o,H p=Qs o->H' p=Qs o)->Rc K RJ H' t σ A:=by
 intro _ _ _ h
 induction h with
 |nil =>
  intro w0
  exact .nil
 |@no _ _ _ _ r ih =>
  intro e
  exact .no (ih e)
 |@val _ _ _ _ _ h r ih =>
  intro e
  exact .val (Rep.mono e0 h) (ih e)
 |@own _ _ _ _ _ _ h1 h2 r ih =>
  intro e
  exact .own (e _ (MN ..) _ h1) (QV.mono e0 h2) (ih λp hp=>e p (MM _ hp))
 |@dp _ _ _ _ _ _ h r ih =>
  intro e
  exact .dp (Rn.mono e0 h λp hp=>e p (MJ _ hp)) (ih λp hp=>e p (MI _ hp))
def RS.grow{t:Th}(h:RS K F H A t σ)(e:QS H H'):RS K F H' A t σ :=
 ⟨h.mu.mono e,h.nd,h.dj,h.rel.mono (cT e) λp _ o q=>e _ _ q⟩
def Rc.len :∀{t:Th}{σ:L2.St}{A:Ql U1},Rc K H0 H t σ A->σ.length=t.length:=by
 intro _ _ _ h
 induction h with
 |nil =>
  exact rfl
 |@no _ _ _ _ r ih =>
  simp[ih]
 |@val _ _ _ _ _ _ r ih =>
  simp[ih]
 |@own _ _ _ _ _ _ _ _ r ih =>
  simp[ih]
 |@dp _ _ _ _ _ _ _ r ih =>
  simp[ih]
def Rc.Wn :∀{t:Th}{σ:L2.St}{A:Ql U1},Rc K H0 H t σ A->∀{i:Nat}{d:D},t[i]?=Qs (.val d)->∃v,σ[i]?=Qs (Qs v)/\Rep K H0 d v:=by
 intro _ _ _ h
 induction h with
 |nil =>
  intro i d e
  simp at e
 |@no _ _ _ _ r ih =>
  intro i d e
  cases i with
  |zero =>
   simp at e
  |succ i =>
   simpa using ih (i:=i) (by simpa using e)
 |@val _ v _ _ _ h r ih =>
  intro i d e
  cases i with
  |zero =>
   simp at e;subst e;exact⟨v,rfl,h⟩
  |succ i =>
   simpa using ih (i:=i) (by simpa using e)
 |@own _ _ _ _ _ _ _ _ r ih =>
  intro i d e
  cases i with
  |zero =>
   simp at e
  |succ i =>
   simpa using ih (i:=i) (by simpa using e)
 |@dp _ _ _ _ _ _ _ r ih =>
  intro i d e
  cases i with
  |zero =>
   simp at e
  |succ i =>
   simpa using ih (i:=i) (by simpa using e)
inductive zfv(K:MK)(H0 H:Hp)(σ:L2.St)(A:List U1)(i:Nat)(ds:List D):Prop
 |mk (p:_) (vs:_) (h_0:σ[i]?=Qs (Qs (.ref p))) (h_1:p∈A) (h_2:H p=Qs (.lst vs)) (h_3:QV K H0 ds vs)
def Rc.T7 :∀{t:Th}{σ:L2.St}{A:Ql U1},Rc K H0 H t σ A->∀{i:Nat}{ds:Ql D},t[i]?=Qs (.own ds)->zfv K H0 H σ A i ds:=by
 intro _ _ _ h
 induction h with
 |nil =>
  intro i d e
  simp at e
 |@no _ _ _ _ r ih =>
  intro i d e
  cases i with
  |zero =>
   simp at e
  |succ i =>
   obtain⟨p,vs,a,b,c,f⟩:=ih (i:=i) (ds:=d) (by simpa using e)
   exact⟨p,vs,a,b,c,f⟩
 |@val _ v _ _ _ h r ih =>
  intro i d e
  cases i with
  |zero =>
   simp at e
  |succ i =>
   obtain⟨p,vs,a,b,c,f⟩:=ih (i:=i) (ds:=d) (by simpa using e)
   exact⟨p,vs,a,b,c,f⟩
 |@own p vs _ _ _ _ h1 h2 r ih =>
  intro i d e
  cases i with
  |zero =>
   simp at e;subst e;exact⟨p,vs,rfl,MN ..,h1,h2⟩
  |succ i =>
   obtain⟨p,vs,a,b,c,f⟩:=ih (i:=i) (ds:=d) (by simpa using e)
   exact⟨p,vs,by simpa using a,MM _ b,c,f⟩
 |@dp _ _ _ _ _ _ _ r ih =>
  intro i d e
  cases i with
  |zero =>
   simp at e
  |succ i =>
   obtain⟨p,vs,a,b,c,f⟩:=ih (i:=i) (ds:=d) (by simpa using e)
   exact⟨p,vs,by simpa using a,MI _ b,c,f⟩
inductive GDp(K:MK)(H0 H:Hp)(σ:L2.St)(A:List U1)(i:Nat)(d:D):Prop
 |mk (v:_) (B:_) (h_0:σ[i]?=Qs (Qs v)) (h_1:(∀b∈B,b∈A)) (h_2:B.Nodup) (h_3:Rn K H0 H d v B)
def Rc.Ze :∀{t:Th}{σ:L2.St}{A:Ql U1},Rc K H0 H t σ A->A.Nodup->∀{i:Nat}{d:D},t[i]?=Qs (.dp d)->GDp K H0 H σ A i d:=by
 intro _ _ _ h
 induction h with
 |nil =>
  intro n i d e
  simp at e
 |@no _ _ _ _ r ih =>
  intro n i d e
  cases i with
  |zero =>
   simp at e
  |succ i =>
   obtain⟨v,B,a,b,n',c⟩:=ih n (i:=i) (d:=d) (by simpa using e)
   exact⟨v,B,a,b,n',c⟩
 |@val _ v _ _ _ h r ih =>
  intro n i d e
  cases i with
  |zero =>
   simp at e
  |succ i =>
   obtain⟨v,B,a,b,n',c⟩:=ih n (i:=i) (d:=d) (by simpa using e)
   exact⟨v,B,a,b,n',c⟩
 |@own _ _ _ _ _ _ _ _ r ih =>
  intro n i d e
  cases i with
  |zero =>
   simp at e
  |succ i =>
   obtain⟨v,B,a,b,n',c⟩:=ih (M3.mp n).2 (i:=i) (d:=d) (by simpa using e)
   exact⟨v,B,by simpa using a,λx hx=>MM _ (b x hx),n',c⟩
 |@dp _ v B _ _ _ h r ih =>
  intro n i d e
  cases i with
  |zero =>
   simp at e;subst e;exact⟨v,B,rfl,λx hx=>MJ _ hx,(MW.mp n).1,h⟩
  |succ i =>
   obtain⟨v,B,a,b,n',c⟩:=ih (MW.mp n).2.1 (i:=i) (d:=d) (by simpa using e)
   exact⟨v,B,by simpa using a,λx hx=>MI _ (b x hx),n',c⟩
structure Gr(A:List U1)(H:Hp)(A':List U1)(H':Hp):Prop where
 kp:∀b o,b∉A->H b=Qs o->H' b=Qs o
 al:∀b∈A,H' b≠Qn
 nw:∀b∈A',b∈A\/H b=Qn
def Gr.refl (m:RF H A):Gr A H A H:=⟨λ_ _ _ h=>h,λb hb=>by obtain⟨vs,q⟩:=m b hb;rw[q];simp,λb h=>.inl h⟩
def Gr.of_same (m:RF H A)(e:QS H H'):Gr A H A H':=⟨λ_ _ _ h=>e _ _ h,λb hb=>by obtain⟨vs,q⟩:=m b hb;rw[e _ _ q];simp,λb h=>.inl h⟩
def Gr.trans{A2:Ql U1}(a:Gr A H A1 H1)(b:Gr A1 H1 A2 H2):Gr A H A2 H2 where
 kp:=λx o n h=>b.kp x o (λz=>by rcases a.nw x z with q | q;exact n q;rw[q]at h;cases h) (a.kp x o n h)
 al:=λx hx=>by
  by_cases z:x∈A1
  .exact b.al x z
  .have:=a.al x hx
   cases q:H1 x with
   |none=>exact absurd q this
   |some o=>rw[b.kp x o z q];simp
 nw:=λx hx=>by
  rcases b.nw x hx with q | q
  .exact a.nw x q
  .by_cases z:x∈A
   .exact .inl z
   .refine .inr ?_
    cases w:H x with
    |none=>rfl
    |some o=>rw[a.kp x o z w]at q;cases q
def Gr.same (g:Gr A H A' H'):QS (ah (A++F) H) (ah (A'++F) H'):=λb o h=>by
 obtain⟨n,h⟩:=cD h
 have n1:b∉A:=λz=>n (MJ _ z)
 refine bw (g.kp b o n1 h) λz=>?_
 rcases ML.mp z with z | z
 .rcases g.nw b z with q | q
  .exact n1 q
  .rw[q]at h;cases h
 .exact n (MI _ z)
end DL
variable{kt:DL.D->DL.Th->Qo DL.Th}{t:DL.Th}{ds:Ql DL.D}{r:DL.Ev}{G:Ql DL.D->Qo DL.Ev}
namespace DL
open PySem.Spec L2
abbrev DE:=Th->Qo Ev
inductive dE(K:MK)(F:List U1)(f:DE)(σ:L2.St)(H:Hp)(Q:VK):Prop
 |mk (A:_) (t:_) (r:_) (h_0:RS K F H A t σ) (h_1:f t=Qs r) (h_2:∀v H',QS H H'->Rz K F A H H' r v->Q v H')
def PE.imp{t t':TE}(h:PE X e t)(i:∀σ H Q,t' σ H Q->t σ H Q):PE X e t':=λpins s σ H Q I q=>h pins s σ H Q I (i σ H Q q)
section
variable {fa fb fc:DE}
def ae(i:Nat):DE:=λt=>match t[i]? with
 |some (.val d)=>Qs (.cl d)
 |some (.own xs)=>Qs (.tm (.lst xs))
 |some (.dp d)=>Qs (.tm d)
 |_=>Qn
def aa(i:Nat) (hN:X.N[i]?=Qs x:=by rfl)(hv:dh X.env.scope x:=by first | exact Or.inl rfl | exact Or.inr (Or.inl rfl) |exact Or.inr (Or.inr rfl))(hd:Sv x:=by decide)
  (R9:Tj x:=by decide):PE X (.Name x pos) (dE X.K F (ae i)):=by
 refine PE.imp (dz (i:=i) hN hv hd R9) ?_
 rintro σ H Q ⟨A,t,r,R,e,h⟩
 unfold ae at e
 split at e
 .rename_i d q
  cases e
  obtain⟨v,h1,h2⟩:=R.rel.Wn q
  exact⟨v,h1,h v H (QS.refl H) h2⟩
 .rename_i ds q
  cases e
  obtain⟨p,vs,h1,h2,h3,h4⟩:=R.rel.T7 q
  refine⟨_,h1,h _ H (QS.refl H) ?_⟩
  exact .lst (Rm.of (bw h3 (R.dj p h2))) (QV.mono (aZ H λa z=>MI _ z) h4)
 .rename_i d q
  cases e
  obtain⟨v,B,h1,h2,h0,h3⟩:=R.rel.Ze R.nd q
  refine⟨_,h1,h _ H (QS.refl H) ?_⟩
  exact h3.rep (aZ H λa z=>MI _ z) λb hb o w=>bw w (R.dj b (h2 b hb))
 .cases e
def dC(d:D):DE:=λ_=>Qs (.cl d)
def aF{i j pos}:PE X (.Constant (.int i) j pos) (dE X.K F (dC (.int i))):=PE.imp vR λσ H Q ⟨A,t,r,R,e,h⟩=>by cases e;exact h _ H (QS.refl H) (.int i)
def nV{b j pos}:PE X (.Constant (.bool b) j pos) (dE X.K F (dC (.bl b))):=PE.imp Ig λσ H Q ⟨A,t,r,R,e,h⟩=>by cases e;exact h _ H (QS.refl H) (.bl b)
def nU{j pos}:PE X (.Constant .none j pos) (dE X.K F (dC .Ri)):=PE.imp HZ λσ H Q ⟨A,t,r,R,e,h⟩=>by cases e;exact h _ H (QS.refl H) .Ri
noncomputable def SX(X:Cx)(F:Ql U1)(f:M6->M6->Sem M6)(k:Ev->Ev->Qo Ev):Prop :=
 ∀(pins:Ql (U1×Obj)) (s:M0) (σ:L2.St) (H0 H:Hp) (A:Ql U1) (x y:V) (v u:M6) (Q:VK) (r1 r2 r:Ev),Inv X pins σ H s->RF H0 (A++F)->QS H0 H->RelV x v->RelV y u ->
  Rz X.K F A H0 H r1 x->Rz X.K F A H0 H r2 y->k r1 r2=Qs r->(∀z H',QS H H'->Rz X.K F A H0 H' r z->Q z H')->wpAny (model X.prog X.w) X.A (f v u) (EP X pins σ Q) X.xe s
def d2(k:Ev->Ev->Qo Ev)(fa fb:DE):DE:=λt=>(fa t).bind λr1=>(fb t).bind λr2=>k r1 r2
inductive T8(X:Cx)(F:List U1)(fa fb:DE)(k:Ev->Ev->Option Ev)(σ:L2.St)(H:Hp)(Q:VK):Prop
 |mk (A:_) (t:_) (r1:_) (r2:_) (r:_) (h_0:RS X.K F H A t σ) (h_1:fa t=Qs r1) (h_2:fb t=Qs r2) (h_3:k r1 r2=Qs r) (h_4:(∀v H',QS H H'->Rz X.K F A H H' r v->Q v H')) (h_5:dE X.K F fa σ H λx H1=>dE X.K F fb σ H1 λy H2=>QS H H2/\Rz X.K F A H H2 r1 x/\Rz X.K F A H H2 r2 y)
def two{k:Ev->Ev->Qo Ev}(h:dE X.K F (d2 k fa fb) σ H Q):T8 X F fa fb k σ H Q:=by
 obtain⟨A,t,r,R,e,h⟩:=h
 unfold d2 at e
 refine aB e λr1 e1 e=>?_
 refine aB e λr2 e2 e=>?_
 exact⟨A,t,r1,r2,r,R,e1,e2,e,h,A,t,r1,R,e1,λx H1 g1 q1=>⟨A,t,r2,R.grow g1,e2,λy H2 g2 q2=>⟨g1.trans g2,q1.mono g2,q2.back g1⟩⟩⟩
def bU{k:Ev->Ev->Qo Ev}(ho:SX X F (binaryOp op) k)(ha:PE X a (dE X.K F fa))(hb:PE X b (dE X.K F fb)):PE X (.BinOp a op b pos) (dE X.K F (d2 k fa fb)):=by
 intro pins s σ H Q I h
 obtain⟨A,t,r1,r2,r,R,e1,e2,e,h,w⟩:=two h
 refine wpAny_BinOp (pE ha hb I w λv u s2 x y H2 I2 rx ry q=>?_)
 obtain⟨g,q1,q2⟩:=q
 exact ho pins s2 σ H H2 A x y v u Q r1 r2 r I2 R.mu g rx ry q1 q2 e λz H' g'=>h z H' (g.trans g')
def HW{op:CmpOp}{k:Ev->Ev->Qo Ev}(ho:SX X F (compareOp op) k)(ha:PE X a (dE X.K F fa))(hb:PE X b (dE X.K F fb))(hm:behindInMarks op b=Qf:=by first | exact vZ _ | (with_unfolding_all rfl)) :
  PE X (.Compare a [op] [b] pos) (dE X.K F (d2 k fa fb)):=by
 intro pins s σ H Q I h
 obtain⟨A,t,r1,r2,r,R,e1,e2,e,h,w⟩:=two h
 refine wpAny_Compare1 (pE ha hb I w λv u s2 x y H2 I2 rx ry q=>?_) hm
 obtain⟨g,q1,q2⟩:=q
 exact ho pins s2 σ H H2 A x y v u Q r1 r2 r I2 R.mu g rx ry q1 q2 e λz H' g'=>h z H' (g.trans g')
def kI(C:Int->Int->Bool)(g:Int->Int->D):Ev->Ev->Qo Ev:=λr1 r2=>match r1.d,r2.d with
 |.int i,.int j=>if C i j then Qs (.cl (g i j)) else Qn
 |_,_=>Qn
def cC{i:Int}(h:Rep K H (.int i) v):v=.int i:=by cases h;rfl
def jf{f:M6->M6->Sem M6}{C:Int->Int->Prop}{g:Int->Int->V}{C':Int->Int->Bool}{g':Int->Int->D}(h:d8 X f (rI C g))(hc:∀i j,C' i j=Qt->C i j)
  (hg:∀H i j,Rep X.K H (g' i j) (g i j)):SX X F f (kI C' g'):=by
 intro pins s σ H0 H A x y v u Q r1 r2 r I m g0 rx ry q1 q2 e hq
 have p1:=q1.full
 have p2:=q2.full
 unfold kI at e
 split at e
 .rename_i i j d1 d2
  split at e
  .rename_i c
   cases e
   rw[d1]at p1;rw[d2]at p2
   cases cC p1;cases cC p2
   exact h pins s σ H _ _ v u Q I rx ry ⟨i,j,rfl,rfl,hc i j c,hq _ H (QS.refl H) (hg _ i j)⟩
  .cases e
 .cases e
def nR{f:M6->M6->Sem M6}{g:Int->Int->V}(h:d8 X f (jP g)):d8 X f (rI (λ_ _=>True) g):=λpins s σ H x y v u Q I rx ry ⟨i,j,e1,e2,_,q⟩=>h pins s σ H x y v u Q I rx ry ⟨i,j,e1,e2,q⟩
def gW:Int->Int->Bool:=λ_ _=>Qt
def T2:SX X F (binaryOp .Add) (kI gW λi j=>.int (i+j)):=jf (nR Iv) (λ_ _ _=>trivial) λ_ _ _=>.int _
def AB:SX X F (binaryOp .Sub) (kI gW λi j=>.int (i - j)):=jf (nR Ih) (λ_ _ _=>trivial) λ_ _ _=>.int _
def RN:Nat:=2 ^ 4096
def sm(i:Int):Bool:=decide (i.natAbs<RN)
def UY(i j:Int):Bool:=sm i&&sm j
def Vd(_ j:Int):Bool:=sm j&&decide (j≠0)
def Bp{k:Nat}(h:n<2 ^ k):n.log2<=k:=by
 by_cases z:n=0
 .subst z;simp
 .exact Px ((SM z).mpr h)
def UY.ok{i j:Int}(h:UY i j=Qt):IntMulOk i j:=by
 simp only[UY,sm,MX,SI]at h
 refine mulOk_of_bits (m:=4097) (n:=4097) ?_ ?_ (by decide)
 .exact intBits_le (Nb h.1 (by unfold RN;exact Oa (by decide) (by decide)))
 .exact intBits_le (Nb h.2 (by unfold RN;exact Oa (by decide) (by decide)))
def Ub:SX X F (binaryOp .Mult) (kI UY λi j=>.int (i*j)):=jf (C:=IntMulOk) (nX λ_ _ _ _ _ _ _ hc q=>mul_int q hc) (λ_ _ h=>UY.ok h) λ_ _ _=>.int _
def Vd.ok{i j:Int}(h:Vd i j=Qt):j≠0/\j.natAbs.log2<9000:=by
 simp only[Vd,sm,MX,SI]at h
 have:=Bp h.1
 exact⟨h.2,by lia⟩
def kB:SX X F (binaryOp .FloorDiv) (kI Vd λi j=>.int (i.fdiv j)):=jf (C:=λ_ j=>j≠0/\j.natAbs.log2<9000) (nX λ_ _ _ _ _ _ _ hc q=>floordiv_int hc.1 q (.inl (PyProof.noPylong_of_log2 hc.2))) (λ_ _ h=>Vd.ok h) λ_ _ _=>.int _
def jA(_ j:Int):Bool:=decide (j≠0)
def jg:SX X F (binaryOp .Mod) (kI jA λi j=>.int (i.fmod j)):=jf Im (λi j h=>by simpa[jA] using h) λ_ _ _=>.int _
def mS(i j:Int):Bool:=decide (0<=j/\j<=1000/\i.natAbs<18446744073709551616)
def vV:SX X F (binaryOp .Pow) (kI mS λi j=>.int (i ^ j.toNat)):=jf Ij (λi j h=>by
 simp only[mS,SI]at h
 exact⟨h.1,by lia,by show i.natAbs<2 ^ 64;lia⟩) λ_ _ _=>.int _
def nY:SX X F (compareOp .Lt) (kI gW λi j=>.bl (decide (i<j))):=jf (nR Io) (λ_ _ _=>trivial) λ_ _ _=>.bl _
def Ji:SX X F (compareOp .LtE) (kI gW λi j=>.bl (decide (i<=j))):=jf (nR Ip) (λ_ _ _=>trivial) λ_ _ _=>.bl _
def l8:SX X F (compareOp .Gt) (kI gW λi j=>.bl (decide (j<i))):=jf (nR Ir) (λ_ _ _=>trivial) λ_ _ _=>.bl _
def kK(k k':Ev->Ev->Qo Ev):Ev->Ev->Qo Ev:=λr1 r2=>match k r1 r2 with
 |some r=>Qs r
 |none=>k' r1 r2
def SX.or{f:M6->M6->Sem M6}{k k':Ev->Ev->Qo Ev}(h:SX X F f k)(h':SX X F f k'):SX X F f (kK k k'):=by
 intro pins s σ H0 H A x y v u Q r1 r2 r I m g0 rx ry q1 q2 e hq
 unfold kK at e
 split at e
 .rename_i z
  cases e
  exact h pins s σ H0 H A x y v u Q r1 r2 _ I m g0 rx ry q1 q2 z hq
 .exact h' pins s σ H0 H A x y v u Q r1 r2 _ I m g0 rx ry q1 q2 e hq
def d1(k:Ev->Qo Ev)(fa:DE):DE:=λt=>(fa t).bind k
def jk:Ev->Qo Ev:=λr=>match r.d with
 |.int i=>Qs (.cl (.int (-i)))
 |_=>Qn
def sH(ha:PE X a (dE X.K F fa)):PE X (.UnaryOp .USub a pos) (dE X.K F (d1 jk fa)):=by
 refine PE.imp (HY Ej ha) ?_
 rintro σ H Q ⟨A,t,r,R,e,h⟩
 unfold d1 at e
 refine aB e λr1 e1 e=>?_
 refine⟨A,t,r1,R,e1,λx H1 g1 q1=>?_⟩
 have e:jk r1=Qs r:=e
 unfold jk at e
 split at e
 .rename_i i z
  cases e
  have p:=q1.full
  rw[z]at p
  exact⟨i,cC p,h _ H1 g1 (.int _)⟩
 .cases e
end
end DL
variable{fa:DL.DE}{fb:DL.DE}{fc:DL.DE}{fo:DL.DE}{fe:DL.DE}
namespace DL
open PySem.Spec L2
inductive So(K:MK)(F A:List U1)(H H':Hp):List Ev->List V->Prop
 |nil:So K F A H H' [] []
 |cons {r:Ev}{v:V}{rs:List Ev}{vs:List V}:Rz K F A H H' r v->So K F A H H' rs vs->So K F A H H' (r::rs) (v::vs)
def So.back{K:MK}{F A:Ql U1}{H0 H H1:Hp}(e:QS H0 H):∀{rs:Ql Ev}{vs:Ql V},So K F A H H1 rs vs->So K F A H0 H1 rs vs
 |_,_,.nil=>.nil
 |_,_,.cons h r=>.cons (h.back e) (So.back e r)
def So.full{K:MK}{F A:Ql U1}{H H':Hp}:∀{rs:Ql Ev}{vs:Ql V},So K F A H H' rs vs->QV K H' (rs.map Ev.d) vs
 |_,_,.nil=>.nil
 |_,_,.cons h r=>.cons h.full (So.full r)
def So.UB{K:MK}{F A:Ql U1}{H H':Hp}(m:RF H (A++F)):∀{rs:Ql Ev}{vs:Ql V},So K F A H H' rs vs->QV K (ah F H') (rs.map Ev.d) vs
 |_,_,.nil=>.nil
 |_,_,.cons h r=>.cons (h.UB m) (So.UB m r)
def So.clean{K:MK}{F A:Ql U1}{H H':Hp}(m:RF H (A++F))(e:QS H H'):∀{rs:Ql Ev}{vs:Ql V},So K F A H H' rs vs->rs.all Ev.ok=Qt->QV K (ah (A++F) H') (rs.map Ev.d) vs
 |_,_,.nil,_=>.nil
 |_,_,.cons h r,c=>by
  simp only[NQ,MX]at c
  exact .cons (h.clean m e c.1) (So.clean m e r c.2)
abbrev DA:=Th->Qo (Ql Ev)
inductive dA(K:MK)(F:List U1)(f:DA)(σ:L2.St)(H:Hp)(Q:List V->Hp->Prop):Prop
 |mk (A:_) (t:_) (rs:_) (h_0:RS K F H A t σ) (h_1:f t=Qs rs) (h_2:∀vs H',QS H H'->So K F A H H' rs vs->Q vs H')
def PA.imp{e:Ql U3}{t t':TA}(h:PA X e t)(i:∀σ H Q,t' σ H Q->t σ H Q):PA X e t':=λpos pins s σ H Q I q=>h pos pins s σ H Q I (i σ H Q q)
def ao:DA:=λ_=>Qs []
def ag(f:DE)(g:DA):DA:=λt=>(f t).bind λr=>(g t).bind λrs=>Qs (r::rs)
section
variable {g:DA}
def aD:PA X [] (dA X.K F ao):=PA.imp gH λσ H Q ⟨A,t,rs,R,e,h⟩=>by cases e;exact h [] H (QS.refl H) .nil
def aq(ha:PE X a (dE X.K F fa))(hr:PA X es (dA X.K F g))(hs:Na (a::es) X.env=(Qf,eval a X.env)::Na es X.env:=by rfl):PA X (a::es) (dA X.K F (ag fa g)):=by
 refine PA.imp (gI ha hr hs) ?_
 rintro σ H Q ⟨A,t,rs,R,e,h⟩
 unfold ag at e
 refine aB e λr1 e1 e=>?_
 refine aB e λrs2 e2 e=>?_
 cases e
 exact⟨A,t,r1,R,e1,λx H1 g1 q1=>⟨A,t,rs2,R.grow g1,e2,λxs H2 g2 q2=>h _ _ (g1.trans g2) (.cons (q1.mono g2) (q2.back g1))⟩⟩
def cY:Ql Ev->Qo Ev:=λrs=>if rs.length<=1000 then(if rs.all Ev.ok then Qs (.cl (.tup (rs.map Ev.d))) else Qs (.tm (.tup (rs.map Ev.d)))) else Qn
def ai(k:Ql Ev->Qo Ev)(g:DA):DE:=λt=>(g t).bind k
def So.length{K:MK}{F A:Ql U1}{H H':Hp}:∀{rs:Ql Ev}{vs:Ql V},So K F A H H' rs vs->vs.length=rs.length
 |_,_,.nil=>rfl
 |_,_,.cons _ r=>by simp[So.length r]
def Uy (h:n<=100000):n<=Nn:=NG h (by rw[sizeLine_eq];decide)
def dW{o:HO}(h:H p=Qn):QS H (upd H p o):=λb u e=>by rw[aN (λz=>by rw[z,h]at e;cases e)];exact e
def iH{x1}(h:PA X es (dA X.K F g)):PE X (.Tuple es x1 pos) (dE X.K F (ai cY g)):=by
 refine PE.imp (sJ h) ?_
 rintro σ H Q ⟨A,t,r,R,e,h⟩
 unfold ai at e
 refine aB e λrs e1 e=>?_
 have e:cY rs=Qs r:=e
 unfold cY at e
 refine bZ e λhl e=>?_
 refine⟨A,t,rs,R,e1,λvs H1 g1 q1=>⟨by rw[q1.length];exact Uy (by lia),λp hp=>?_⟩⟩
 have s1:=dW (o:=HO.tup vs) hp
 refine h _ _ (g1.trans s1) ?_
 have np:p∉A++F:=dZ (R.mu.mono g1) hp
 split at e
 .rename_i c
  cases e
  exact .tup (RQ.of (bw bF np)) (QV.mono (cT s1) (q1.clean R.mu g1 c))
 .cases e
  exact .tup (RQ.of (bw bF λz=>np (MI _ z))) (QV.mono (cT s1) (q1.UB R.mu))
def cE:Ql Ev->Qo Ev:=λrs=>if rs.length<=1000/\rs.all Ev.ok then Qs (.nw (rs.map Ev.d)) else Qn
def jo{P:Ql U1}{o:HO}(h:H p=Qn):QS (ah P H) (ah (p::P) (upd H p o)):=λb u e=>by
 obtain⟨n,e⟩:=cD e
 have nb:b≠p:=λz=>by rw[z,h]at e;cases e
 refine bw (by rw[aN nb];exact e) λz=>?_
 rcases MQ.mp z with z | z
 .exact nb z
 .exact n z
def fB(h:PA X es (dA X.K F g)):PE X (.List es pos) (dE X.K F (ai cE g)):=by
 refine PE.imp (Au h) ?_
 rintro σ H Q ⟨A,t,r,R,e,h⟩
 unfold ai at e
 refine aB e λrs e1 e=>?_
 have e:cE rs=Qs r:=e
 unfold cE at e
 refine bZ e λhl e=>?_
 cases e
 refine⟨A,t,rs,R,e1,λvs H1 g1 q1=>⟨by rw[q1.length];exact Uy (by lia),λp hp=>?_⟩⟩
 have s1:=dW (o:=HO.lst vs) hp
 refine h _ _ (g1.trans s1) ⟨p,vs,rfl,?_,bF,QV.mono (jo hp) (q1.clean R.mu g1 hl.2)⟩
 exact QS.free g1 hp
inductive SO(K:MK)(G:List D->Option Ev)(vs:List V)(H:Hp)(Q:VK)(x_:XK):Prop
 |mk (Fo:_) (ds:_) (r:_) (h_0:RF H Fo) (h_1:QV K (ah Fo H) ds vs) (h_2:G ds=Qs r) (h_3:∀v H',QS H H'->Rz K Fo [] H H' r v->Q v H')
def gD(ok:Bool)(r:Ev):Ev:=if ok then(match r with
  |.cl d=>.cl d
  |.tm d=>.cl d
  |.nw xs=>.nw xs
  |.dn d=>.dn d) else match r with
  |.cl d=>if flat d then .cl d else .tm d
  |.tm d=>if flat d then .cl d else .tm d
  |.nw xs=>if RB xs then .nw xs else .tm (.lst xs)
  |.dn d=>.dn d
def aO(G:Ql D->Qo Ev):Ql Ev->Qo Ev:=λrs=>(G (rs.map Ev.d)).map (gD (rs.all Ev.ok))
def yj{rs:Ql Ev}{E:XK}(m:RF H0 (A++F))(g:QS H0 H)(q:So K F A H0 H rs vs)(e:aO G rs=Qs r)
  (h:∀v H',QS H H'->Rz K F A H0 H' r v->Q v H'):SO K G vs H Q E:=by
 unfold aO at e
 rcases e1:G (rs.map Ev.d) with _|r0
 .rw[e1]at e;cases e
 rw[e1]at e
 have e:gD (rs.all Ev.ok) r0=r:=by simpa using e
 have mH:=m.mono g
 by_cases c:rs.all Ev.ok=Qt
 .refine⟨A++F,rs.map Ev.d,r0,mH,q.clean m g c,e1,λv H' g' w=>h v H' g' ?_⟩
  rw[c]at e
  subst e
  cases r0 with
  |cl d=>exact w
  |tm d=>exact w
  |nw xs =>
   obtain⟨p,us,rfl,h1,h2,h3⟩:=w
   exact⟨p,us,rfl,QS.free g h1,h2,h3⟩
  |dn d =>
   obtain⟨B,h1,h2,h3⟩:=w
   exact⟨B,h1,λb hb=>QS.free g (h2 b hb),h3⟩
 .refine⟨F,rs.map Ev.d,r0,λp hp=>mH p (MI _ hp),q.UB m,e1,λv H' g' w=>h v H' g' ?_⟩
  have c:rs.all Ev.ok=Qf:=by simpa using c
  rw[c]at e
  subst e
  have m':=mH.mono g'
  cases r0 with
  |cl d =>
   show Rz K F A H0 H' (if flat d then .cl d else .tm d) v
   split
   .rename_i f;exact Rep.RY m' f (Rep.mono (aV _ _) w)
   .exact w
  |tm d =>
   show Rz K F A H0 H' (if flat d then .cl d else .tm d) v
   split
   .rename_i f;exact Rep.RY m' f (Rep.mono (aV _ _) w)
   .exact w
  |nw xs =>
   obtain⟨p,us,rfl,h1,h2,h3⟩:=w
   have np:p∉A++F:=dZ mH h1
   show Rz K F A H0 H' (if RB xs then .nw xs else .tm (.lst xs)) _
   split
   .rename_i f
    refine⟨p,us,rfl,QS.free g h1,h2,QV.RY (P:=p ::(A++F)) (λb hb=>?_) f (QV.mono (aV _ _) h3)⟩
    rcases MQ.mp hb with rfl | hb
    .exact⟨mL us,h2⟩
    .exact m' b hb
   .exact .lst (Rm.of (bw h2 λz=>np (MI _ z))) (QV.mono (aZ H' λb z=>MM _ z) h3)
  |dn d =>
   obtain⟨B,h1,h2,h3⟩:=w
   exact⟨B,h1,λb hb=>QS.free g (h2 b hb),h3.RY (h3.lists.app m') (aV _ _)⟩
def HX{k:Nat}{f:U1}{p:Pos}(Fn:RO X.prog X.w X.K X.mg X.base bz k f fd ps (SO X.K G))(hr:Sh k X.A)(hg:Gl X x)(hm:X.mg x=Qs (.ref f))(hk:N2 X.K (.ref f)=Qt)
  (hb:Binds X.K fd ps []) (ha:PA X (a::es) (dA X.K F g)) (TQ:Sv x:=by decide) (he:Na (a::es) X.env=(Qf,eval a X.env)::Na es X.env:=by rfl)
  (SQ:(OY pos (Na es X.env)).any (·.1)=Qf:=by rfl):PE X (.Call (.Name x p) (a::es) [] pos) (dE X.K F (ai (aO G) g)):=by
 refine PE.imp (vS Fn hr hg hm hk hb .nil (E:=E0) jR ha TQ he SQ) ?_
 rintro σ H Q ⟨A,t,r,R,e,h⟩
 unfold ai at e
 refine aB e λrs e1 e=>?_
 refine⟨A,t,rs,R,e1,λvs H1 g1 q1=>?_⟩
 show SO X.K G (vs++[]) H1 Q E0
 rw[Nt]
 exact yj R.mu g1 q1 e λv H' g' w=>h v H' (g1.trans g') w
def Tr(X:Cx)(F:Ql U1)(f:M6)(k:Ql Ev->Qo Ev):Prop :=
 ∀(pins:Ql (U1×Obj)) (s:M0) (σ:L2.St) (H0 H:Hp) (A:Ql U1) (xs:Ql V) (us:Ql M6) (Q:VK) (rs:Ql Ev) (r:Ev),Inv X pins σ H s->RF H0 (A++F)->QS H0 H->Vals xs us->So X.K F A H0 H rs xs->k rs=Qs r ->
  (∀z H',QS H H'->Rz X.K F A H0 H' r z->Q z H')->wpAny (model X.prog X.w) X.A (call f us) (EP X pins σ Q) X.xe s
def PA.run(ha:PA X es (dA X.K F g)){k:Ql Ev->Qo Ev}{f:M6}(hc:Tr X F f k) (p:Pos)(I:Inv X pins σ H s)(h:dE X.K F (ai k g) σ H Q) :
  wpAny (model X.prog X.w) X.A (spliced (OY p (Na es X.env))) (λus s1=>wpAny (model X.prog X.w) X.A (call f us) (EP X pins σ Q) X.xe s1) X.xe s:=by
 obtain⟨A,t,r,R,e,h⟩:=h
 unfold ai at e
 refine aB e λrs e1 e=>?_
 refine aG (ha p pins s σ H (λvs H1=>QS H H1/\So X.K F A H H1 rs vs) I ⟨A,t,rs,R,e1,λvs H1 g1 q1=>⟨g1,q1⟩⟩) λus s1 ⟨vs,H1,I1,r1,g1,q1⟩=>?_
 exact hc pins s1 σ H H1 A vs us Q rs r I1 R.mu g1 r1 q1 e λz H' g'=>h z H' (g1.trans g')
def dy{k:Ql Ev->Qo Ev}{p:Pos}{id:String}(hc:Tr X F (.builtin id) k)(hg:Gl X x)(hm:X.mg x=Qn)(hv:bootBuiltins x=Qs (.builtin id))(ha:PA X (a::es) (dA X.K F g))(hn:x≠"__name__":=by decide)(TQ:Sv x:=by decide)
  (he:Na (a::es) X.env=(Qf,eval a X.env)::Na es X.env:=by rfl) (SQ:(OY pos (Na es X.env)).any (·.1)=Qf:=by rfl):PE X (.Call (.Name x p) (a::es) [] pos) (dE X.K F (ai k g)):=by
 intro pins s σ H Q I h
 refine wpAny_Call_Name_kw (kJ I hg hm hv ?_ hn TQ)
 exact PyProof.Rows.callWith_builtin1 (PA.run ha hc pos I h) he SQ
def iI{k:Ql Ev->Qo Ev}{p:Pos}{T:String}(hc:Tr X F (.type T) k)(hg:Gl X x)(hm:X.mg x=Qn)(hv:bootBuiltins x=Qs (.type T))(ha:PA X (a::es) (dA X.K F g))(hn:x≠"__name__":=by decide)(TQ:Sv x:=by decide)
  (he:Na (a::es) X.env=(Qf,eval a X.env)::Na es X.env:=by rfl) (SQ:(OY pos (Na es X.env)).any (·.1)=Qf:=by rfl):PE X (.Call (.Name x p) (a::es) [] pos) (dE X.K F (ai k g)):=by
 intro pins s σ H Q I h
 refine wpAny_Call_Name_kw (kJ I hg hm hv ?_ hn TQ)
 exact PyProof.Rows.callWith_type1 (PA.run ha hc pos I h) he SQ
def Tr.of{f:M6}{r:Ql V->Hp->VK->Prop}{k:Ql Ev->Qo Ev}(h:iu X f r)
  (i:∀(H0 H:Hp) (A:Ql U1) (xs:Ql V) (rs:Ql Ev) (e:Ev) (Q:VK),RF H0 (A++F)->QS H0 H->So X.K F A H0 H rs xs->k rs=Qs e->(∀z H',QS H H'->Rz X.K F A H0 H' e z->Q z H')->r xs H Q):Tr X F f k :=
 λpins s σ H0 H A xs us Q rs e I m g v q ek hq=>h pins s σ H xs us Q I v (i H0 H A xs rs e Q m g q ek hq)
def j4:Ql Ev->Qo Ev:=λrs=>match rs with
 |[r]=>(match r.d with
  |.int i=>Qs (.cl (.int (if i<0 then -i else i)))
  |_=>Qn)
 |_=>Qn
def De:Tr X F (.builtin "abs") j4:=Tr.of Ma λH0 H A xs rs e Q m g q ek hq=>by
 unfold j4 at ek
 split at ek
 .rename_i r
  split at ek
  .rename_i i z
   cases ek
   cases q with
   |cons q1 q2 =>
    cases q2
    have p:=q1.full
    rw[z]at p
    cases cC p
    exact⟨i,rfl,hq _ H (QS.refl H) (.int _)⟩
  .cases ek
 .cases ek
def bV:Ql Ev->Qo Ev:=λrs=>match rs with
 |[r]=>(match r.d with
  |.lst xs=>Qs (.cl (.int xs.length))
  |.tup xs=>Qs (.cl (.int xs.length))
  |_=>Qn)
 |_=>Qn
def iT:Tr X F (.builtin "len") bV:=Tr.of L9 λH0 H A xs rs e Q m g q ek hq=>by
 unfold bV at ek
 split at ek
 .rename_i r
  cases q with
  |cons q1 q2 =>
   cases q2
   have p:=q1.full
   split at ek
   .rename_i ds z
    cases ek
    rw[z]at p
    cases p with
    |lst h1 h2=>exact⟨_,_,rfl,.inl h1,by rw[h2.length];exact hq _ H (QS.refl H) (.int _)⟩
   .rename_i ds z
    cases ek
    rw[z]at p
    cases p with
    |tup h1 h2=>exact⟨_,_,rfl,.inr h1,by rw[h2.length];exact hq _ H (QS.refl H) (.int _)⟩
   .cases ek
 .cases ek
end
end DL
variable{ga:DL.DA}
namespace DL
open PySem.Spec L2
abbrev DT:=Th->Qo Bool
inductive dT(K:MK)(F:List U1)(f:DT)(σ:L2.St)(H:Hp)(Q:Bool->Hp->Prop):Prop
 |mk (A:_) (t:_) (b:_) (h_0:RS K F H A t σ) (h_1:f t=Qs b) (h_2:∀H',QS H H'->Q b H')
def PT.imp{t t':TT}(h:PT X e t)(i:∀σ H Q,t' σ H Q->t σ H Q):PT X e t':=λpins s σ H Q I q=>h pins s σ H Q I (i σ H Q q)
def PW.imp{t t':TT}(h:PW X e t)(i:∀σ H Q,t' σ H Q->t σ H Q):PW X e t':=λw pins s σ H Q I q=>h w pins s σ H Q I (i σ H Q q)
def uN:D->Qo Bool
 |.Ri=>Qs Qf
 |.bl b=>Qs b
 |.int i=>Qs (i != 0)
 |.tup xs=>Qs (!xs.isEmpty)
 |.lst xs=>Qs (!xs.isEmpty)
 |.RX ks _=>Qs (!ks.isEmpty)
 |.Sw _=>Qn
 |.Tx _=>Qn
 |.adr _=>Qn
 |.Rx _=>Qn
 |.obj _ _ _=>Qn
 |.str y=>if y.length<=100000 then Qs ((y.length:Int) != 0) else Qn
def wQ{α β:Type}{xs:Ql α}{ys:Ql β}(h:xs.length=ys.length):xs.isEmpty=ys.isEmpty:=by
 cases xs<;>cases ys<;>simp_all
def Ew{d:D}{b:Bool}(r:Rep K H d v)(e:uN d=Qs b):yv K v H b:=by
 cases r with
 |Ri=>cases e;rfl
 |bl b=>cases e;rfl
 |int i=>cases e;rfl
 |str x =>
  simp only[uN]at e
  split at e
  .cases e;exact⟨Uy (by assumption),rfl⟩
  .cases e
 |tup h1 h2=>cases e;exact .inr (.inl ⟨_,h1,by rw[wQ h2.length]⟩)
 |lst h1 h2=>cases e;exact .inl ⟨_,h1,by rw[wQ h2.length]⟩
 |@RX ks ds p vs l h1 h2 =>
  cases e
  have e1:(d4 ks vs).length=ks.length:=by unfold d4;rw[Qm];lia
  exact .inr (.inr ⟨_,h1,by rw[wQ e1]⟩)
 |Sw h=>cases e
 |Tx h=>cases e
 |adr _=>cases e
 |Rx _=>cases e
 |obj _ _ _=>cases e
def xQ(f:DE):DT:=λt=>(f t).bind λr=>uN r.d
def aI(f:DE):DT:=λt=>(f t).bind λr=>match r.d with
 |.bl b=>Qs b
 |_=>Qn
def oW(c:DT)(fa fb:DE):DE:=λt=>(c t).bind λb=>if b then fa t else fb t
def ij(f g:DT):DT:=λt=>(f t).bind λb=>if b then g t else Qs Qf
section
variable {g g':DA}{ft fu:DT}{rest:Ql U3}
def GS(ha:PE X a (dE X.K F fa))(he:∀whole,isTrue a X.env whole=(do let v <-whole;standAt a.pos;holding [v] (truthy v)):=by intro _;rfl):PT X a (dT X.K F (xQ fa)):=by
 refine PT.imp (GX ha he) ?_
 rintro σ H Q ⟨A,t,r,R,e,h⟩
 unfold xQ at e
 refine aB e λr1 e1 e=>?_
 exact⟨A,t,r1,R,e1,λv H' g' q=>⟨r,Ew q.full e,h H' g'⟩⟩
def cA{op:CmpOp}{k:Ev->Ev->Qo Ev}(ho:SX X F (compareOp op) k)(ha:PE X a (dE X.K F fa))(hb:PE X b (dE X.K F fb))(hm:behindInMarks op b=Qf:=by first | exact vZ _ | (with_unfolding_all rfl)) :
  PT X (.Compare a [op] [b] pos) (dT X.K F (aI (d2 k fa fb))):=by
 intro pins s σ H Q I h
 obtain⟨A,t,b',R,e,h⟩:=h
 unfold aI at e
 refine aB e λr0 e1 e=>?_
 have w0:dE X.K F (d2 k fa fb) σ H (λz H'=>QS H H'/\Rep X.K H' r0.d z):=⟨A,t,r0,R,e1,λv H' g q=>⟨g,q.full⟩⟩
 obtain⟨A2,t2,r1,r2,r,R2,VX,XB,e3,h3,w⟩:=two w0
 refine wpAny_isTrue_Compare1 (pE ha hb I w λv u s2 x y H2 I2 rx ry q=>?_) hm
 obtain⟨g,q1,q2⟩:=q
 refine aG (ho pins s2 σ H H2 A2 x y v u (λz H'=>QS H H'/\Rep X.K H' r0.d z) r1 r2 r I2 R2.mu g rx ry q1 q2 e3 λz H' g'=>h3 z H' (g.trans g')) λcc s3 ⟨z,H3,I3,r3,g3,q3⟩=>?_
 have e:(match r0.d with | .bl b=>Qs b | _=>Qn)=Qs b':=e
 split at e
 .rename_i b2 z2
  cases e
  rw[z2]at q3
  cases q3
  cases r3
  exact wpAny_truthy_bool ⟨H3,I3,h H3 g3⟩
 .cases e
def rY(ha:PT X a (dT X.K F ft)):PW X (.BoolOp .And [a] pos) (dT X.K F ft):=zX ha
def rZ(ha:PT X a (dT X.K F ft))(hb:PW X (.BoolOp .And (b::rest) pos) (dT X.K F fu)):PW X (.BoolOp .And (a::b::rest) pos) (dT X.K F (ij ft fu)):=by
 refine PW.imp (GL ha hb) ?_
 rintro σ H Q ⟨A,t,r,R,e,h⟩
 unfold ij at e
 refine aB e λr1 e1 e=>?_
 refine⟨A,t,r1,R,e1,λH1 g1=>?_⟩
 cases r1 with
 |true=>exact⟨A,t,r,R.grow g1,e,λH2 g2=>h H2 (g1.trans g2)⟩
 |false=>cases e;exact h H1 g1
def HR(hc:PT X c (dT X.K F ft))(ha:PE X a (dE X.K F fa))(hb:PE X b (dE X.K F fb)):PE X (.IfExp c a b pos) (dE X.K F (oW ft fa fb)):=by
 refine PE.imp (Ib hc ha hb) ?_
 rintro σ H Q ⟨A,t,r,R,e,h⟩
 unfold oW at e
 refine aB e λr1 e1 e=>?_
 refine⟨A,t,r1,R,e1,λH1 g1=>?_⟩
 cases r1 with
 |true=>exact⟨A,t,r,R.grow g1,e,λv2 H2 g2 q2=>h v2 H2 (g1.trans g2) (q2.back g1)⟩
 |false=>exact⟨A,t,r,R.grow g1,e,λv2 H2 g2 q2=>h v2 H2 (g1.trans g2) (q2.back g1)⟩
end
inductive Out where
 |nx (t:Th) |rt (r:Ev) |bk (t:Th) |ct (t:Th)
abbrev DS:=Th->Qo Out
def After(K:MK)(F A:Ql U1)(H:Hp)(N:L2.St->Hp->Prop)(t:Th):Prop := ∀σ' H' A',Gr A H A' H'->RS K F H' A' t σ'->N σ' H'
inductive zfc(K:MK)(F A:List U1)(H H':Hp)(xs:List D)(v:V):Prop
 |mk (p:U1) (vs:List V) (h_0:v=.ref p) (h_1:p∈A\/H p=Qn) (h_2:p∉F) (h_3:H' p=Qs (.lst vs)) (h_4:QV K (ah (p::F) H') xs vs)
inductive zfd(K:MK)(F A:List U1)(H H':Hp)(d:D)(v:V):Prop
 |mk (B:List U1) (h_0:B.Nodup) (h_1:∀b∈B,(b∈A\/H b=Qn)/\b∉F) (h_2:Rn K (ah (B++F) H') H' d v B)
def T9(K:MK)(F A:Ql U1)(H H':Hp):Ev->V->Prop
 |.cl d,v=>Rep K (ah F H') d v
 |.tm d,v=>Rep K (ah F H') d v
 |.nw xs,v=>zfc K F A H H' xs v
 |.dn d,v=>zfd K F A H H' d v
def Back(K:MK)(F A:Ql U1)(H:Hp)(N:VK)(r:Ev):Prop := ∀v H' A',Gr A H A' H'->T9 K F A H H' r v->N v H'
inductive dS(K:MK)(F:List U1)(g:DS)(E:Ends)(σ:L2.St)(H:Hp):Prop
 |mk (A:List U1) (t:Th) (o:Out) (h_0:RS K F H A t σ) (h_1:g t=Qs o) (h_2:match o with
 |.nx t'=>After K F A H E.nx t'
 |.bk t'=>After K F A H E.bk t'
 |.ct t'=>After K F A H E.ct t'
 |.rt r=>Back K F A H E.rt r)
end DL
variable{g:DL.DS}{ft:DL.DT}{g1:DL.DS}{g2:DL.DS}{fu:DL.DT}
namespace DL
open PySem.Spec L2
def T9.back (g:Gr A H A1 H1)(h:T9 K F A1 H1 H' r v):T9 K F A H H' r v:=by
 cases r with
 |cl d=>exact h
 |tm d=>exact h
 |nw xs =>
  obtain⟨p,vs,rfl,h1,h2,h3,h4⟩:=h
  refine⟨p,vs,rfl,?_,h2,h3,h4⟩
  rcases h1 with h1 | h1
  .exact g.nw p h1
  .by_cases z:p∈A
   .exact .inl z
   .refine .inr ?_
    cases w:H p with
    |none=>rfl
    |some o=>rw[g.kp p o z w]at h1;cases h1
 |dn d =>
  obtain⟨B,h0,h1,h2⟩:=h
  refine⟨B,h0,λp hp=>⟨?_,(h1 p hp).2⟩,h2⟩
  rcases(h1 p hp).1 with h1 | h1
  .exact g.nw p h1
  .by_cases z:p∈A
   .exact .inl z
   .refine .inr ?_
    cases w:H p with
    |none=>rfl
    |some o=>rw[g.kp p o z w]at h1;cases h1
def After.back{N:L2.St->Hp->Prop}(h:After K F A H N t)(g:Gr A H A1 H1):After K F A1 H1 N t:=λσ' H' A' g' R=>h σ' H' A' (g.trans g') R
def Back.back{K:MK}{F A A1:Ql U1}{H H1:Hp}{N:VK}{r:Ev}(h:Back K F A H N r)(g:Gr A H A1 H1):Back K F A1 H1 N r:=λv H' A' g' R=>h v H' A' (g.trans g') (R.back g)
def PS.imp{e:U4}{t t':TS}(h:PS X e t)(i:∀E σ H,t' E σ H->t E σ H):PS X e t':=λpins s σ H D I q=>h pins s σ H D I (i D σ H q)
def RU.imp{e:Ql U4}{t t':TS}(h:RU X e t)(i:∀E σ H,t' E σ H->t E σ H):RU X e t':=λpins s σ H D I q=>h pins s σ H D I (i D σ H q)
def RF.left (h:RF H (A++F)):RF H A:=λp hp=>h p (MJ _ hp)
def cM:DS:=λt=>Qs (.nx t)
def aE(g1 g2:DS):DS:=λt=>(g1 t).bind λo=>match o with
 |.nx t'=>g2 t'
 |.rt r=>Qs (.rt r)
 |.bk t'=>Qs (.bk t')
 |.ct t'=>Qs (.ct t')
section
variable {rest:Ql U4}
def fA:RU X [] (dS X.K F cM):=RU.imp Aa λE σ H ⟨A,t,o,R,e,h⟩=>by cases e;exact h σ H A (Gr.refl R.mu.left) R
def bC(h1:PS X st (dS X.K F g1))(h2:RU X rest (dS X.K F g2)):RU X (st::rest) (dS X.K F (aE g1 g2)):=by
 refine RU.imp (vA h1 h2) ?_
 rintro E σ H ⟨A,t,o,R,e,h⟩
 unfold aE at e
 refine aB e λo1 e1 e=>?_
 refine⟨A,t,o1,R,e1,?_⟩
 cases o1 with
 |nx t' =>
  intro σ' H' A' g' R'
  refine⟨A',t',o,R',e,?_⟩
  cases o with
  |nx t2=>exact After.back h g'
  |bk t2=>exact After.back h g'
  |ct t2=>exact After.back h g'
  |rt r=>exact Back.back h g'
 |rt r=>cases e;exact h
 |bk t2=>cases e;exact h
 |ct t2=>cases e;exact h
def bH(h1:PS X st (dS X.K F g1)):RU X [st] (dS X.K F g1):=sj h1
def bY(c:DT)(g1 g2:DS):DS:=λt=>(c t).bind λb=>if b then g1 t else g2 t
def e8{s1 s2:Ql U4}(hc:PT X c (dT X.K F ft))(ha:RU X s1 (dS X.K F g1))(hb:RU X s2 (dS X.K F g2)):PS X (.If c s1 s2 pos) (dS X.K F (bY ft g1 g2)):=by
 refine PS.imp (Ac hc ha hb) ?_
 rintro E σ H ⟨A,t,o,R,e,h⟩
 unfold bY at e
 refine aB e λr1 e1 e=>?_
 refine⟨A,t,r1,R,e1,λH1 gs=>?_⟩
 have gr:Gr A H A H1:=Gr.of_same R.mu.left gs
 cases r1 with
 |true =>
  refine⟨A,t,o,R.grow gs,e,?_⟩
  cases o with
  |nx t2=>exact After.back h gr
  |bk t2=>exact After.back h gr
  |ct t2=>exact After.back h gr
  |rt r=>exact Back.back h gr
 |false =>
  refine⟨A,t,o,R.grow gs,e,?_⟩
  cases o with
  |nx t2=>exact After.back h gr
  |bk t2=>exact After.back h gr
  |ct t2=>exact After.back h gr
  |rt r=>exact Back.back h gr
def cx(f:DE):DS:=λt=>(f t).bind λr=>Qs (.rt r)
def T9.of{F:Ql U1}(m:RF H (A++F))(h:Rz K F A H H' r v):T9 K F A H H' r v:=by
 cases r with
 |cl d=>exact Rep.mono (aZ H' λa z=>MI _ z) h
 |tm d=>exact h
 |nw xs =>
  obtain⟨p,vs,rfl,h1,h2,h3⟩:=h
  have np:p∉A++F:=dZ m h1
  refine⟨p,vs,rfl,.inr h1,λz=>np (MI _ z),h2,QV.mono (aZ H' λa z=>?_) h3⟩
  rcases MQ.mp z with z | z
  .rw[z];exact MN ..
  .exact MM _ (MI _ z)
 |dn d =>
  obtain⟨B,h1,h2,h3⟩:=h
  refine⟨B,h1,λb hb=>⟨.inr (h2 b hb),λz=>dZ m (h2 b hb) (MI _ z)⟩,Rn.mono (aZ H' λa z=>?_) h3 λ_ _ _ q=>q⟩
  rcases ML.mp z with z | z
  .exact MJ _ z
  .exact MI _ (MI _ z)
def dX(ha:PE X a (dE X.K F fa)):PS X (.Return (Qs a) pos) (dS X.K F (cx fa)):=by
 refine PS.imp (sr ha) ?_
 rintro E σ H ⟨A,t,o,R,e,h⟩
 unfold cx at e
 refine aB e λr1 e1 e=>?_
 cases e
 exact⟨A,t,r1,R,e1,λv H' gs q=>h v H' A (Gr.of_same R.mu.left gs) (T9.of R.mu q)⟩
def fj(i:Nat):DS:=λt=>match t[i]? with
 |some (.own xs)=>Qs (.rt (.nw xs))
 |some (.val d)=>Qs (.rt (.cl d))
 |some (.dp d)=>Qs (.rt (.dn d))
 |_=>Qn
def jQ(i:Nat) (hN:X.N[i]?=Qs x:=by rfl)(hv:dh X.env.scope x:=by first | exact Or.inl rfl | exact Or.inr (Or.inl rfl) |exact Or.inr (Or.inr rfl))(hd:Sv x:=by decide)
  (R9:Tj x:=by decide):PS X (.Return (Qs (.Name x pos')) pos) (dS X.K F (fj i)):=by
 refine PS.imp (sr (dz (i:=i) hN hv hd R9)) ?_
 rintro E σ H ⟨A,t,o,R,e,h⟩
 unfold fj at e
 split at e
 .rename_i ds q
  cases e
  obtain⟨p,vs,h1,h2,h3,h4⟩:=R.rel.T7 q
  refine⟨_,h1,h _ H A (Gr.refl R.mu.left) ⟨p,vs,rfl,.inl h2,R.dj p h2,h3,QV.mono (aZ H λa z=>?_) h4⟩⟩
  rcases MQ.mp z with z | z
  .rw[z];exact MJ _ h2
  .exact MI _ z
 .rename_i d q
  cases e
  obtain⟨v,h1,h2⟩:=R.rel.Wn q
  exact⟨v,h1,h v H A (Gr.refl R.mu.left) (Rep.mono (aZ H λa z=>MI _ z) h2)⟩
 .rename_i d q
  cases e
  obtain⟨v,B,h1,h2,h0,h3⟩:=R.rel.Ze R.nd q
  refine⟨v,h1,h v H A (Gr.refl R.mu.left) ⟨B,h0,λb hb=>⟨.inl (h2 b hb),R.dj b (h2 b hb)⟩,Rn.mono (aZ H λa z=>?_) h3 λ_ _ _ q=>q⟩⟩
  rcases ML.mp z with z | z
  .exact MJ _ (h2 a z)
  .exact MI _ z
 .cases e
end
def Rc.Xb{K:MK}{H0 H:Hp}{d:D}{v:V}(h:Rep K H0 d v):∀{t:Th}{σ:L2.St}{A:Ql U1} (i:Nat),Rc K H0 H t σ A->i<t.length->∃A',Rc K H0 H (t.set i (.val d)) (σ.set i (Qs v)) A'/\List.Sublist A' A
 |_,_,_,_,.nil,l=>by simp at l
 |_,_,_,0,.no r,_=>⟨_,.val h r,Np _⟩
 |_,_,_,0,.val _ r,_=>⟨_,.val h r,Np _⟩
 |_,_,_,0,.own _ _ r,_=>⟨_,.val h r,OR _ _⟩
 |_,_,_,0,.dp _ r,_=>⟨_,.val h r,O5 _ _⟩
 |_,_,_,i+1,.no r,l=>let ⟨A',a,b⟩:=Rc.Xb h i r (by simpa using l);⟨A',.no a,b⟩
 |_,_,_,i+1,.val q r,l=>let ⟨A',a,b⟩:=Rc.Xb h i r (by simpa using l);⟨A',.val q a,b⟩
 |_,_,_,i+1,.own q1 q2 r,l=>let ⟨A',a,b⟩:=Rc.Xb h i r (by simpa using l);⟨_,.own q1 q2 a,b.cons₂ _⟩
 |_,_,_,i+1,.dp q r,l=>let ⟨A',a,b⟩:=Rc.Xb h i r (by simpa using l);⟨_,.dp q a,N4 (Np _) b⟩
def Rc.WD{K:MK}{H0 H:Hp}{s:Sl}{v:V}{B:Ql U1}(h:∀{t:Th}{σ:L2.St}{A:Ql U1},Rc K H0 H t σ A->Rc K H0 H (s::t) (Qs v::σ) (B++A)):∀{t:Th}{σ:L2.St}{A:Ql U1} (i:Nat),Rc K H0 H t σ A->i<t.length ->
  ∃A',Rc K H0 H (t.set i s) (σ.set i (Qs v)) A'/\(∀x∈A',x∈B\/x∈A)/\(A.Nodup->B.Nodup->(∀b∈B,b∉A)->A'.Nodup)
 |_,_,_,_,.nil,l=>by simp at l
 |_,_,A,0,.no r,_=>⟨_,h r,λx hx=>ML.mp hx,λn1 n2 d=>MW.mpr ⟨n2,n1,λa ha b hb e=>d a ha (e ▸ hb)⟩⟩
 |_,_,A,0,.val _ r,_=>⟨_,h r,λx hx=>ML.mp hx,λn1 n2 d=>MW.mpr ⟨n2,n1,λa ha b hb e=>d a ha (e ▸ hb)⟩⟩
 |_,_,_,0,.own _ _ r,_=>⟨_,h r,λx hx=>(ML.mp hx).imp id (MM _),λn1 n2 d=>MW.mpr ⟨n2,(M3.mp n1).2,λa ha b hb e=>d a ha (e ▸ MM _ hb)⟩⟩
 |_,_,_,0,.dp _ r,_=>⟨_,h r,λx hx=>(ML.mp hx).imp id (MI _),λn1 n2 d=>MW.mpr ⟨n2,(MW.mp n1).2.1,λa ha b hb e=>d a ha (e ▸ MI _ hb)⟩⟩
 |_,_,_,i+1,.no r,l=>let ⟨A',a,b,c⟩:=Rc.WD h i r (by simpa using l);⟨A',.no a,b,c⟩
 |_,_,_,i+1,.val q r,l=>let ⟨A',a,b,c⟩:=Rc.WD h i r (by simpa using l);⟨A',.val q a,b,c⟩
 |_,_,_,i+1,.own (p:=p2) q1 q2 r,l=>by
  obtain⟨A',a,b,c⟩:=Rc.WD h i r (by simpa using l)
  refine⟨_,.own q1 q2 a,λx hx=>?_,λnd nb np=>?_⟩
  .rcases MQ.mp hx with z | z
   .exact .inr (z ▸ MN ..)
   .exact(b x z).imp id (MM _)
  .have n1:=M3.mp nd
   refine M3.mpr ⟨λz=>?_,c n1.2 nb λx hx z=>np x hx (MM _ z)⟩
   rcases b _ z with z | z
   .exact np _ z (MN ..)
   .exact n1.1 z
 |_,_,_,i+1,.dp (B:=C) q r,l=>by
  obtain⟨A',a,b,c⟩:=Rc.WD h i r (by simpa using l)
  refine⟨_,.dp q a,λx hx=>?_,λnd nb np=>?_⟩
  .rcases ML.mp hx with z | z
   .exact .inr (MJ _ z)
   .exact(b x z).imp id (MI _)
  .have n1:=MW.mp nd
   refine MW.mpr ⟨n1.1,c n1.2.1 nb λx hx z=>np x hx (MI _ z),λx hx y hy e=>?_⟩
   subst e
   rcases b _ hy with z | z
   .exact np _ z (MJ _ hx)
   .exact n1.2.2 _ hx _ z rfl
def RS.Z7{s:Sl}(R:RS K F H A t σ)(g:QS H H')(fr:∀b∈B,H b=Qn)(nb:B.Nodup)(lb:RF H' B)
  (mk:∀{t:Th}{σ:L2.St}{A':Ql U1},Rc K (ah (B++(A++F)) H') H' t σ A'->Rc K (ah (B++(A++F)) H') H' (s::t) (Qs v::σ) (B++A')) (hi:i<t.length) :
  ∃A',Gr A H A' H'/\RS K F H' A' (t.set i s) (σ.set i (Qs v)):=by
 have R':=R.grow g
 have np:∀b∈B,b∉A++F:=λb hb=>dZ R.mu (fr b hb)
 have r0:Rc K (ah (B++(A++F)) H') H' t σ A:=Rc.mono (λb o h=>by
  obtain⟨n,h⟩:=cD h
  refine bw (g _ _ h) λz=>?_
  rcases ML.mp z with z | z
  .rw[fr b z]at h;cases h
  .exact n z) R.rel λb _ o h=>g _ _ h
 obtain⟨A',r1,sub,nd⟩:=Rc.WD mk i r0 hi
 refine⟨A',⟨λb o _ h=>g b o h,λb hb=>by obtain⟨ws,z⟩:=R.mu b (MJ _ hb);rw[g _ _ z];simp,λb hb=>?_⟩,?_,nd R.nd nb λb hb z=>np b hb (MJ _ z),λb hb=>?_,?_⟩
 .rcases sub b hb with z | z
  .exact .inr (fr b z)
  .exact .inl z
 .intro b hb
  rcases ML.mp hb with z | z
  .rcases sub b z with z | z
   .exact lb b z
   .exact R'.mu b (MJ _ z)
  .exact R'.mu b (MI _ z)
 .rcases sub b hb with z | z
  .exact λw=>np b z (MI _ w)
  .exact R.dj b z
 .refine Rc.mono (aZ H' λb z=>?_) r1 λ_ _ _ h=>h
  rcases ML.mp z with z | z
  .rcases sub b z with z | z
   .exact MJ _ z
   .exact MI _ (MJ _ z)
  .exact MI _ (MI _ z)
def cJ(t:Th)(i:Nat)(r:Ev):Qo Th:=if i<t.length then(match r with
 |.cl d=>Qs (t.set i (.val d))
 |.tm d=>if flat d then Qs (t.set i (.val d)) else Qn
 |.nw xs=>Qs (t.set i (.own xs))
 |.dn d=>Qs (t.set i (.dp d))) else Qn
def RS.put{t':Th}(R:RS K F H A t σ)(g:QS H H')(q:Rz K F A H H' r v)(e:cJ t i r=Qs t') :
  ∃A',Gr A H A' H'/\RS K F H' A' t' (σ.set i (Qs v)):=by
 have R':=R.grow g
 have val:∀d,Rep K (ah (A++F) H') d v->i<t.length->∃A',Gr A H A' H'/\RS K F H' A' (t.set i (.val d)) (σ.set i (Qs v)):=λd hd hi=>by
  obtain⟨A',r1,sub⟩:=Rc.Xb hd i R'.rel hi
  have XU:∀x∈A',x∈A:=λx hx=>sub.subset hx
  refine⟨A',⟨λb o _ h=>g b o h,λb hb=>by obtain⟨vs,z⟩:=R.mu b (MJ _ hb);rw[g _ _ z];simp,λb hb=>.inl (XU b hb)⟩,?_,R.nd.sublist sub,λp hp=>R.dj p (XU p hp),?_⟩
  .intro p hp
   rcases ML.mp hp with z | z
   .exact R'.mu p (MJ _ (XU p z))
   .exact R'.mu p (MI _ z)
  .refine Rc.mono (aZ H' λa z=>?_) r1 λ_ _ _ h=>h
   rcases ML.mp z with z | z
   .exact MJ _ (XU a z)
   .exact MI _ z
 unfold cJ at e
 refine bZ e λhi e=>?_
 cases r with
 |cl d=>cases e;exact val d q hi
 |tm d =>
  simp only at e
  split at e
  .rename_i f
   cases e
   exact val d (Rep.RY R'.mu f (Rep.mono (aV _ _) q)) hi
  .cases e
 |nw xs =>
  cases e
  obtain⟨p,vs,rfl,h1,h2,h3⟩:=q
  exact R.Z7 (B:=[p]) g (λb hb=>by simp at hb;subst hb;exact h1) (by simp) (λb hb=>by simp at hb;subst hb;exact⟨mL vs,h2⟩) (λr=>.own h2 h3 r) hi
 |dn d =>
  cases e
  obtain⟨B,h1,h2,h3⟩:=q
  exact R.Z7 (B:=B) g h2 h1 h3.lists (λr=>.dp h3 r) hi
section
variable {rest:Ql U4}
def aM(i:Nat)(f:DE):DS:=λt=>(f t).bind λr=>(cJ t i r).map Out.nx
def ck (hN:X.N.Nodup)(hi:X.N[i]?=Qs x)(hx:Loc X.env.scope x)(he:PE X a (dE X.K F fa))(hs:swapsWith a (Qs (.Name x pos')) pos.line X.env=pure Qf:=by rfl)(hf:X.fn x=Qt\/X.env.scope.names.lookup x=Qs .local:=by first | exact .inl rfl | exact .inr rfl | assumption) :
  PS X (.Assign [.Name x pos'] a pos) (dS X.K F (aM i fa)):=by
 refine PS.imp (vG hN hi hx he hs hf) ?_
 rintro E σ H ⟨A,t,o,R,e,h⟩
 unfold aM at e
 refine aB e λr1 e1 e=>?_
 have e:(cJ t i r1).map Out.nx=Qs o:=e
 rcases e2:cJ t i r1 with _|t'
 .rw[e2]at e;cases e
 rw[e2]at e
 cases e
 refine⟨A,t,r1,R,e1,λv H' gs q=>?_⟩
 obtain⟨A',g',R'⟩:=R.put gs q e2
 exact h _ _ _ g' R'
end
def c8(K:MK)(F:Ql U1)(g:TG)(k:D->Th->Qo Th):Prop :=
 ∀σ H A t t' d x (Q:L2.St->Hp->Prop),RS K F H A t σ->Rep K (ah (A++F) H) d x->k d t=Qs t'->(∀σ2 A2,Gr A H A2 H->RS K F H A2 t' σ2->Q σ2 H)->g x σ H Q
def pK(K:MK)(F:Ql U1)(g:eV)(k:Ql D->Th->Qo Th):Prop :=
 ∀σ H A t t' ds xs (Q:L2.St->Hp->Prop),RS K F H A t σ->QV K (ah (A++F) H) ds xs->k ds t=Qs t'->(∀σ2 A2,Gr A H A2 H->RS K F H A2 t' σ2->Q σ2 H)->g xs σ H Q
def cb(i:Nat):D->Th->Qo Th:=λd t=>cJ t i (.cl d)
def gN:Ql D->Th->Qo Th:=λds t=>match ds with
 |[]=>Qs t
 |_=>Qn
def dg(k:D->Th->Qo Th)(k':Ql D->Th->Qo Th):Ql D->Th->Qo Th:=λds t=>match ds with
 |d::r=>(k d t).bind (k' r)
 |[]=>Qn
def cK(n:Nat)(k:Ql D->Th->Qo Th):D->Th->Qo Th:=λd t=>match d with
 |.tup ds=>if ds.length=n then k ds t else Qn
 |_=>Qn
def bq (i:Nat):c8 K F (kU i) (cb i):=by
 intro σ H A t t' d x Q R r e h
 obtain⟨A',g,R'⟩:=R.put (i:=i) (r:=.cl d) (QS.refl H) r e
 exact h _ _ g R'
def gi :pK K F xt gN:=by
 intro σ H A t t' ds xs Q R r e h
 cases r with
 |nil=>cases e;exact⟨rfl,h σ A (Gr.refl R.mu.left) R⟩
 |cons _ _=>cases e
def cR{g:TG}{g':eV}{k:D->Th->Qo Th}{k':Ql D->Th->Qo Th}(h1:c8 K F g k)(h2:pK K F g' k'):pK K F (xw g g') (dg k k'):=by
 intro σ H A t t' ds xs Q R r e h
 cases r with
 |nil=>cases e
 |@cons d v ds vs r1 r2 =>
  unfold dg at e
  cases e1:k d t with
  |none=>simp only[e1]at e;cases e
  |some t1 =>
   simp only[e1]at e
   refine⟨v,vs,rfl,h1 σ H A t t1 d v _ R r1 e1 λσ2 A2 g2 R2=>?_⟩
   exact h2 σ2 H A2 t1 t' ds vs Q R2 (QV.mono g2.same r2) e λσ3 A3 g3 R3=>h σ3 A3 (g2.trans g3) R3
def iA{g':eV}{k':Ql D->Th->Qo Th}(h2:pK K F g' k'):c8 K F (xp K n g') (cK n k'):=by
 intro σ H A t t' d x Q R r e h
 unfold cK at e
 split at e
 .rename_i ds
  split at e
  .rename_i hl
   cases r with
   |@tup _ p vs h1 hr=>exact⟨p,vs,rfl,RQ.mono (aV _ _) h1,by rw[hr.length];exact hl,h2 σ H A t t' ds vs Q R hr e h⟩
  .cases e
 .cases e
def dv(k:D->Th->Qo Th)(f:DE):DS:=λt=>(f t).bind λr=>if r.ok then(k r.d t).map Out.nx else Qn
section
variable {rest:Ql U4}
def nT(he:PE X a (dE X.K F fa))(hg:PG X tg gt)(ht:c8 X.K F gt kt)(hs:swapsWithSole [tg] a pos.line X.env=pure Qf:=by rfl)(hw:swappedStores [tg] a X.env=pure Qn:=by rfl)
  (h1:(assignEach [tg] X.env).map (·.2)=[assign tg X.env]:=by rfl):PS X (.Assign [tg] a pos) (dS X.K F (dv kt fa)):=by
 refine PS.imp (su he hg hs hw h1) ?_
 rintro E σ H ⟨A,t,o,R,e,h⟩
 unfold dv at e
 refine aB e λr1 e1 e=>?_
 have e:(if r1.ok then(kt r1.d t).map Out.nx else Qn)=Qs o:=e
 refine bZ e λok e=>?_
 rcases e2:kt r1.d t with _|t'
 .rw[e2]at e;cases e
 rw[e2]at e
 cases e
 refine⟨A,t,r1,R,e1,λv H' gs q=>?_⟩
 exact ht σ H' A t t' r1.d v E.nx (R.grow gs) (q.clean R.mu gs ok) e2 λσ2 A2 g2 R2=>h σ2 H' A2 ((Gr.of_same R.mu.left gs).trans g2) R2
def wJ(t:Th)(i j:Nat):Ql Ev->Qo Out
 |[r1,r2]=>if r1.ok&&r2.ok then((cJ t i (.cl r1.d)).bind λt1=>cJ t1 j (.cl r2.d)).map Out.nx else Qn
 |_=>Qn
def iP(i j:Nat)(f:DA):DS:=λt=>(f t).bind (wJ t i j)
def vE{y:Str}{px pt:Pos}{kt k2 Ux}(hc:X.calm=Qt)(hN:X.N.Nodup)(hi:X.N[i]?=Qs x)(hj:X.N[j]?=Qs y)(VO:i≠j)
  (hx:X.env.scope.names.lookup x=Qs .local) (hy:X.env.scope.names.lookup y=Qs .local) (ha:PA X [a,b] (dA X.K F ga))
  (hw:swappedStores [.Tuple [.Name x px,.Name y py] kt pt] (.Tuple [a,b] k2 Ux) X.env=pure (Qs [x,y]))
  (hs:swapsWithSole [.Tuple [.Name x px,.Name y py] kt pt] (.Tuple [a,b] k2 Ux) pos.line X.env=pure Qf:=by rfl) :
  PS X (.Assign [.Tuple [.Name x px,.Name y py] kt pt] (.Tuple [a,b] k2 Ux) pos) (dS X.K F (iP i j ga)):=by
 refine PS.imp (G7 hc hN hi hj VO hx hy ha hw hs) ?_
 rintro E σ H ⟨A,t,o,R,e,h⟩
 unfold iP at e
 rcases e1:ga t with _|rs
 .rw[e1]at e;cases e
 rw[e1]at e
 refine⟨A,t,rs,R,e1,λvs H' gs q=>?_⟩
 have e:wJ t i j rs=Qs o:=e
 cases q with
 |nil=>cases e
 |@cons r1 _ _ _ q1 q' =>
  cases q' with
  |nil=>cases e
  |@cons r2 _ _ _ q2 q3 =>
  cases q3 with
  |cons _ _=>cases e
  |nil =>
   simp only[wJ]at e
   replace e:=S0 e
   obtain⟨ok,e⟩:=e
   simp only[MX]at ok
   refine⟨_,_,rfl,?_⟩
   rcases e2:cJ t i (.cl r1.d) with _|t1
   .rw[e2]at e;cases e
   rw[e2]at e
   have e:(cJ t1 j (.cl r2.d)).map Out.nx=Qs o:=e
   rcases e3:cJ t1 j (.cl r2.d) with _|t2
   .rw[e3]at e;cases e
   rw[e3]at e
   cases e
   have c2:=q2.clean R.mu gs ok.2
   obtain⟨A1,g1,R1⟩:=(R.grow gs).put (i:=i) (r:=.cl r1.d) (QS.refl H') (q1.clean R.mu gs ok.1) e2
   obtain⟨A2,g2,R2⟩:=R1.put (i:=j) (r:=.cl r2.d) (QS.refl H') (Rep.mono g1.same c2) e3
   exact h _ _ _ (((Gr.of_same R.mu.left gs).trans g1).trans g2) R2
end
def bQ(k:D->Th->Qo Th)(body:DS):Ql D->Th->Qo Out
 |[],t=>Qs (.nx t)
 |d::ds,t=>(k d t).bind λt1=>(body t1).bind λo=>match o with
  |.nx t'=>bQ k body ds t'
  |.ct t'=>bQ k body ds t'
  |.bk t'=>Qs (.nx t')
  |.rt r=>Qs (.rt r)
def eF(c:DT)(body:DS):Nat->Th->Qo Out
 |0,_=>Qn
 |n+1,t=>(c t).bind λb=>if b then(body t).bind λo=>match o with
  |.nx t'=>eF c body n t'
  |.ct t'=>eF c body n t'
  |.bk t'=>Qs (.nx t')
  |.rt r=>Qs (.rt r) else Qs (.nx t)
def iO(fu:Th->Nat)(c:DT)(body:DS):DS:=λt=>eF c body (fu t) t
def UZ(K:MK)(F A:Ql U1)(H:Hp)(E:Ends):Out->Prop
 |.nx t'=>After K F A H E.nx t'
 |.bk t'=>After K F A H E.bk t'
 |.ct t'=>After K F A H E.ct t'
 |.rt r=>Back K F A H E.rt r
def UZ.back{K:MK}{F A A1:Ql U1}{H H1:Hp}{E:Ends}{o:Out}(h:UZ K F A H E o)(g:Gr A H A1 H1):UZ K F A1 H1 E o:=by
 cases o with
 |nx t2=>exact After.back h g
 |bk t2=>exact After.back h g
 |ct t2=>exact After.back h g
 |rt r=>exact Back.back h g
def j9{E:Ends}{o:Out}(R:RS K F H A t σ)(e:g t=Qs o)(p:UZ K F A H E o):dS K F g E σ H:=⟨A,t,o,R,e,by cases o<;>exact p⟩
def j8{E:Ends}(h:dS K F g E σ H):∃A t o,RS K F H A t σ/\g t=Qs o/\UZ K F A H E o:=by
 obtain⟨A,t,o,R,e,h⟩:=h
 exact⟨A,t,o,R,e,by cases o<;>exact h⟩
section
variable {rest:Ql U4}
def sk (m:Th->Nat)(hp:PassesOwn (model X.prog X.w) X.A X.env X.xe)(hc:PT X c (dT X.K F ft))(hb:RU X body (dS X.K F g)):PS X (.While c body [] pos) (dS X.K F (iO m ft g)):=by
 refine PS.imp (G6 hp hc hb) ?_
 intro E σ H hh
 obtain⟨A,t,o,R,e,h⟩:=j8 hh
 refine⟨λn σ H => ∃A t o,eF ft g n t=Qs o/\RS X.K F H A t σ/\UZ X.K F A H E o,⟨m t,A,t,o,e,R,h⟩,?_⟩
 rintro n σ H ⟨A,t,o,e,R,h⟩
 cases n with
 |zero=>cases e
 |succ n =>
  simp only[eF]at e
  refine aB e λb e1 e=>?_
  refine⟨A,t,b,R,e1,λH1 gs=>?_⟩
  have gr:Gr A H A H1:=Gr.of_same R.mu.left gs
  cases b with
  |false =>
   have e:Qs (Out.nx t)=Qs o:=e
   cases e
   exact oA (h σ H1 A gr (R.grow gs))
  |true =>
   have e:((g t).bind λo=>match o with
    |.nx t'=>eF ft g n t'
    |.ct t'=>eF ft g n t'
    |.bk t'=>Qs (.nx t')
    |.rt r=>Qs (.rt r))=Qs o:=e
   refine oz ⟨λσ' H' => ∃A t o,eF ft g n t=Qs o/\RS X.K F H' A t σ'/\UZ X.K F A H' E o,λσ' H' q=>⟨n,NP n,q⟩,?_⟩
   refine aB e λo2 e2 e=>?_
   refine j9 (R.grow gs) e2 ?_
   cases o2 with
   |nx t'=>exact λσ' H' A' g' R'=>⟨A',t',o,e,R',h.back (gr.trans g')⟩
   |ct t'=>exact λσ' H' A' g' R'=>⟨A',t',o,e,R',h.back (gr.trans g')⟩
   |bk t'=>cases e;exact λσ' H' A' g' R'=>h σ' H' A' (gr.trans g') R'
   |rt r=>cases e;exact Back.back h gr
def xA{E:Ends}{o:Out}(Good:Ql U1->Hp->Prop)(ht:c8 K F gt kt)(R:RS K F H A t σ)(e:bQ kt g ds t=Qs o)(h:UZ K F A H E o)(g0:Good A H)
  (keep:∀A H A' H',Good A H->Gr A H A' H'->Good A' H') (stop:∀A H,Good A H->J.stop ds.length H) (go:∀A H i,Good A H->i<ds.length->J.go i H)
  (Td:∀A H i x H',Good A H->RF H (A++F)->J.Td i H x H'->i<ds.length->QS H H'/\∃d,ds[i]?=Qs d/\Rep K (ah (A++F) H') d x) :
  ∃W:Nat->Nat->L2.St->Hp->Prop,(∃m,W 0 m σ H)/\∀i m σ H,W i m σ H ->
   (J.stop i H/\E.nx σ H)\/(J.go i H/\∃N:L2.St->Hp->Prop,(∀σ' H',N σ' H'->∃m',m' < m/\W (i+1) m' σ' H')/\∀x H',J.Td i H x H'->gt x σ H' λσ2 H2=>dS K F g { E with nx:=N,ct:=N,bk:=E.nx } σ2 H2):=by
 refine⟨λi m σ H=>i+m=ds.length/\∃A t o,bQ kt g (ds.drop i) t=Qs o/\RS K F H A t σ/\UZ K F A H E o/\Good A H,⟨ds.length,by lia,A,t,o,by simpa using e,R,h,g0⟩,?_⟩
 rintro i m σ H ⟨hm,A,t,o,e,R,h,gd⟩
 cases m with
 |zero =>
  have z:i=ds.length:=by lia
  subst z
  rw[OG]at e
  cases e
  exact .inl ⟨stop A H gd,h σ H A (Gr.refl R.mu.left) R⟩
 |succ m =>
  have hi:i<ds.length:=by lia
  refine .inr ⟨go A H i gd hi,λσ' H'=>i+1+m=ds.length/\∃A t o,bQ kt g (ds.drop (i+1)) t=Qs o/\RS K F H' A t σ'/\UZ K F A H' E o/\Good A H',λσ' H' q=>⟨m,NP m,q⟩,λx H' y=>?_⟩
  obtain⟨gs,d,hd,rd⟩:=Td A H i x H' gd R.mu y hi
  have ed:ds.drop i=d::ds.drop (i+1):=by
   have Uq:ds[i]=d:=by
    rw[MR hi]at hd
    exact Ni hd
   rw[<-Uq]
   exact NO hi
  rw[ed]at e
  simp only[bQ]at e
  refine aB e λt1 e1 e=>?_
  refine ht σ H' A t t1 d x _ (R.grow gs) rd e1 λσ2 A2 US R2=>?_
  have S8:Gr A H A2 H':=(Gr.of_same R.mu.left gs).trans US
  have e:((g t1).bind λo=>match o with
    |.nx t'=>bQ kt g (ds.drop (i+1)) t'
    |.ct t'=>bQ kt g (ds.drop (i+1)) t'
    |.bk t'=>Qs (.nx t')
    |.rt r=>Qs (.rt r))=Qs o:=e
  refine aB e λo2 e2 e=>?_
  refine j9 R2 e2 ?_
  cases o2 with
  |nx t'=>exact λσ' H' A' g' R'=>⟨by lia,A',t',o,e,R',h.back (S8.trans g'),keep _ _ _ _ gd (S8.trans g')⟩
  |ct t'=>exact λσ' H' A' g' R'=>⟨by lia,A',t',o,e,R',h.back (S8.trans g'),keep _ _ _ _ gd (S8.trans g')⟩
  |bk t'=>cases e;exact λσ' H' A' g' R'=>h σ' H' A' (S8.trans g') R'
  |rt r=>cases e;exact Back.back h S8
def fX(k:D->Th->Qo Th)(f:DE)(body:DS):DS:=λt=>(f t).bind λr=>match r.d with
 |.lst ds=>if r.ok then bQ k body ds t else Qn
 |_=>Qn
def sq (hp:PassesOwn (model X.prog X.w) X.A X.env X.xe)(hc:X.calm=Qt)(hl:PE X a (dE X.K F fa))(hg:PG X tg gt)(ht:c8 X.K F gt kt)(hb:RU X body (dS X.K F g))
  (hs:∀x,foldedSetIterable a X.env x=pure x:=by intro _;rfl):PS X (.For tg a body [] pos) (dS X.K F (fX kt fa g)):=by
 refine PS.imp (ku hp hc (sE hl) hg hb hs) ?_
 intro E σ H hh
 obtain⟨A,t,o,R,e,h⟩:=j8 hh
 unfold fX at e
 refine aB e λr e1 e=>?_
 refine⟨A,t,r,R,e1,λv H1 gs q=>?_⟩
 have e:(match r.d with
  |.lst ds=>if r.ok then bQ kt g ds t else Qn
  |_=>Qn)=Qs o:=e
 split at e
 case h_2=>cases e
 rename_i ds z
 refine bZ e λok e=>?_
 have cl:=q.clean R.mu gs ok
 rw[z]at cl
 cases cl with
 |@lst _ p vs h1 h2 =>
  refine⟨p,rfl,⟨vs,Rm.mono (aV _ _) h1⟩,?_⟩
  refine xA (λA H=>Rm X.K (ah (A++F) H) p vs/\QV X.K (ah (A++F) H) ds vs) ht (R.grow gs) e (h.back (Gr.of_same R.mu.left gs)) ⟨h1,h2⟩ (λA H A' H' q gr=>⟨Rm.mono gr.same q.1,QV.mono gr.same q.2⟩)
   (λA H q=>⟨vs,Rm.mono (aV _ _) q.1,by rw[h2.length];exact MZ _⟩) (λA H i q hi=>?_) (λA H i x H' q _ y hi=>?_)
  .have VP:i<vs.length:=by rw[h2.length];exact hi
   exact⟨vs,vs[i],Rm.mono (aV _ _) q.1,MR VP⟩
  .obtain⟨e1,e2⟩:=y
   have z:=e2 vs (Rm.mono (aV _ _) q.1)
   subst e1
   exact⟨QS.refl _,q.2.UT z⟩
def cU(lo:Int)(n:Nat):Ql D:=(NI n).map λ(i:Nat)=>D.int (lo+(i:Int))
def c7(i:Int):Bool:=decide (-1000000000000<=i/\i<=1000000000000)
def jy(k:D->Th->Qo Th)(f:DE)(body:DS):DS:=λt=>(f t).bind λr=>match r.d with
 |.int n=>if c7 n then bQ k body (cU 0 n.toNat) t else Qn
 |_=>Qn
def lT(lo:Int)(n:Nat):(cU lo n).length=n:=by simp[cU]
def Gg{lo:Int}{E:Ends}{o:Out}(ht:c8 K F gt kt)(R:RS K F H A t σ)(e:bQ kt g (cU lo n) t=Qs o)(h:UZ K F A H E o) :
  ∃W:Nat->Nat->L2.St->Hp->Prop,(∃m,W 0 m σ H)/\∀i m σ H,W i m σ H ->
   ((kj lo n).stop i H/\E.nx σ H)\/((kj lo n).go i H/\∃N:L2.St->Hp->Prop,(∀σ' H',N σ' H'->∃m',m' < m/\W (i+1) m' σ' H')/\∀x H',(kj lo n).Td i H x H'->gt x σ H' λσ2 H2=>dS K F g { E with nx:=N,ct:=N,bk:=E.nx } σ2 H2):=by
 refine xA (λ_ _=>True) ht R e h trivial (λ_ _ _ _ _ _=>trivial) (λA H _=>?_) (λA H i _ hi=>?_) (λA H i x H' _ _ y hi=>?_)
 .rw[lT];exact MZ n
 .rw[lT]at hi;exact hi
 .rw[lT]at hi
  obtain⟨e1,e2⟩:=y
  subst e1
  refine⟨QS.refl _,.int (lo+i),by simp[cU,hi],?_⟩
  rw[e2];exact .int _
def Ab (hp:PassesOwn (model X.prog X.w) X.A X.env X.xe)(hc:X.calm=Qt)(Vt:Gl X "range")(hm:X.mg "range"=Qn)(ha:PE X a (dE X.K F fa))(hg:PG X tg gt)(ht:c8 X.K F gt kt)(hb:RU X body (dS X.K F g))
  (Sf:Na [a] X.env=[(Qf,eval a X.env)]:=by rfl) (hs:∀x,foldedSetIterable (.Call (.Name "range" p1) [a] [] p2) X.env x=pure x:=by intro _;rfl):PS X (.For tg (.Call (.Name "range" p1) [a] [] p2) body [] pos) (dS X.K F (jy kt fa g)):=by
 refine PS.imp (ku hp hc (vO Vt hm (gI ha gH Sf) Sf) hg hb hs) ?_
 intro E σ H hh
 obtain⟨A,t,o,R,e,h⟩:=j8 hh
 unfold jy at e
 refine aB e λr e1 e=>?_
 refine⟨A,t,r,R,e1,λv H1 gs q=>?_⟩
 have e:(match r.d with
  |.int n=>if c7 n then bQ kt g (cU 0 n.toNat) t else Qn
  |_=>Qn)=Qs o:=e
 split at e
 case h_2=>cases e
 rename_i n z
 refine bZ e λok e=>?_
 simp only[c7,SI]at ok
 have p:=q.full
 rw[z]at p
 cases cC p
 exact⟨n,rfl,by lia,by lia,Gg ht (R.grow gs) e (h.back (Gr.of_same R.mu.left gs))⟩
end
def Rc.upd{K:MK}{H0 H H':Hp}{ds es:Ql D}{ws:Ql V}{p:U1}(hp:H' p=Qs (.lst ws))(he:QV K H0 es ws):∀{t:Th}{σ:L2.St}{A:Ql U1} (i:Nat),Rc K H0 H t σ A->A.Nodup->t[i]?=Qs (.own ds)->σ[i]?=Qs (Qs (.ref p)) ->
  (∀q∈A,q≠p->H' q=H q)->Rc K H0 H' (t.set i (.own es)) σ A
 |_,_,_,i,.nil,_,e,_,_=>by simp at e
 |_,_,_,0,.no r,_,e,_,_=>by simp at e
 |_,_,_,0,.val _ r,_,e,_,_=>by simp at e
 |_,_,_,0,.dp _ r,_,e,_,_=>by simp at e
 |_,_,_,i+1,.dp (B:=B) h1 r,nd,e,e2,k=>by
  have n:=MW.mp nd
  obtain⟨p3,vs3,a1,a2,_⟩:=Rc.T7 r (i:=i) (ds:=ds) (by simpa using e)
  have:p3=p:=by simpa[a1] using e2
  subst this
  refine .dp (Rn.mono (QS.refl _) h1 λq hq o w=>?_) (Rc.upd hp he i r n.2.1 (by simpa using e) (by simpa using e2) λq hq=>k q (MI _ hq))
  rw[k q (MJ _ hq) (λz=>n.2.2 q hq p3 a2 z)];exact w
 |_,_,_,0,.own (p:=p2) (A:=A) h1 h2 r,nd,e,e2,k=>by
  simp at e2
  subst e2
  exact .own hp he (Rc.mono (QS.refl _) r λq hq o h=>by
   have n:q≠p2:=λz=>(M3.mp nd).1 (z ▸ hq)
   rw[k q (MM _ hq) n];exact h)
 |_,_,_,i+1,.no r,nd,e,e2,k=>.no (Rc.upd hp he i r nd (by simpa using e) (by simpa using e2) k)
 |_,_,_,i+1,.val h r,nd,e,e2,k=>.val h (Rc.upd hp he i r nd (by simpa using e) (by simpa using e2) k)
 |_,_,_,i+1,.own (p:=p2) h1 h2 r,nd,e,e2,k=>by
  have n:=M3.mp nd
  have XB:=(show _ from e2)
  obtain⟨p3,vs3,a1,a2,_⟩:=Rc.T7 r (i:=i) (ds:=ds) (by simpa using e)
  have:p3=p:=by simpa[a1] using e2
  subst this
  have np:p2≠p3:=λz=>n.1 (z ▸ a2)
  refine .own (by rw[k p2 (MN ..) np];exact h1) h2 (Rc.upd hp he i r n.2 (by simpa using e) (by simpa using e2) λq hq=>k q (MM _ hq))
def RS.write{es:Ql D}(R:RS K F H A t σ)(e:t[i]?=Qs (.own ds))(e2:σ[i]?=Qs (Qs (.ref p)))(h:QV K (ah (A++F) H) es ws) :
  RS K F (L2.upd H p (.lst ws)) A (t.set i (.own es)) σ/\Gr A H A (L2.upd H p (.lst ws)):=by
 obtain⟨p',vs,a1,a2,a3,a4⟩:=R.rel.T7 e
 have:p'=p:=by simpa[a1] using e2
 subst this
 have hh:QS (ah (A++F) H) (ah (A++F) (L2.upd H p' (.lst ws))):=λb o q=>by
  obtain⟨n,q⟩:=cD q
  have nb:b≠p':=λz=>n (MJ _ (z ▸ a2))
  exact bw (by rw[aN nb];exact q) n
 have mu:RF (L2.upd H p' (.lst ws)) (A++F):=λq hq=>by
  by_cases z:q=p'
  .exact⟨mL ws,by rw[z];exact bF⟩
  .obtain⟨us,w⟩:=R.mu q hq
   exact⟨us,by rw[aN z];exact w⟩
 refine⟨⟨mu,R.nd,R.dj,Rc.upd bF (QV.mono hh h) i (Rc.mono hh R.rel (H':=H) λ_ _ _ h=>h) R.nd e e2 λq _ n=>aN n⟩,?_⟩
 refine⟨λb o n q=>?_,λb hb=>?_,λb hb=>.inl hb⟩
 .rw[aN (λz=>n (by rw[z];exact a2))];exact q
 .obtain⟨us,w⟩:=mu b (MJ _ hb)
  rw[w];simp
def tL(t:Th)(i:Nat)(r:Ev):Qo Out:=match t[i]? with
 |some (.own xs)=>if r.ok&&decide (xs.length<100000) then Qs (.nx (t.set i (.own (xs++[r.d])))) else Qn
 |_=>Qn
def fH(i:Nat)(f:DE):DS:=λt=>(f t).bind (tL t i)
section
variable {rest:Ql U4}
def lU(i:Nat) (he:PE X a (dE X.K F fa))(hN:X.N[i]?=Qs x:=by rfl)(hv:dh X.env.scope x:=by first | exact Or.inl rfl | exact Or.inr (Or.inl rfl) |exact Or.inr (Or.inr rfl))(hd:Sv x:=by decide)
  (R9:Tj x:=by decide) (Sf:Na [a] X.env=[(Qf,eval a X.env)]:=by rfl)
  (UR:attributeBase (.Name x p0) "append" X.env (eval (.Name x p0) X.env)=eval (.Name x p0) X.env:=by rfl)
  (Wg:((OY R6 (Na [a] X.env)).all (λx=>!x.1)&&(backToKw R6 (keywordEach [] X.env)).all (λx=>x.1.isSome)
   && decide ([a].length+([]:Ql QX).length+(if([]:Ql QX).isEmpty then 0 else 1)<30))=Qt:=by rfl)
  (UP:(apos.endLine == R6.line)=Qt:=by rfl) (Wa:(OY R6 (Na [] X.env)).any (·.1)=Qf:=by rfl)
  (Tv:swapsWith (.Call (.Attribute (.Name x p0) "append" apos) [a] [] R6) Qn pos.line X.env=pure Qf:=by rfl) :
  PS X (.Expr (.Call (.Attribute (.Name x p0) "append" apos) [a] [] R6) pos) (dS X.K F (fH i fa)):=by
 refine PS.imp (lV (vT OO O8 O9 sU (dz (i:=i) hN hv hd R9) (gI he gH Sf) UR Wg UP Sf Wa) Tv) ?_
 rintro E σ H ⟨A,t,o,R,e,h⟩
 unfold fH at e
 refine aB e λr e1 e=>?_
 have e:tL t i r=Qs o:=e
 unfold tL at e
 split at e
 case h_2=>cases e
 rename_i xs z
 refine bZ e λok e=>?_
 simp only[MX,SI]at ok
 cases e
 obtain⟨p,vs,a1,a2,a3,a4⟩:=R.rel.T7 z
 refine⟨_,a1,.inl ⟨rfl,vs,Rm.of a3⟩,A,t,r,R,e1,λy H1 gs q=>⟨p,vs,y,rfl,rfl,gs _ _ a3,?_,?_⟩⟩
 .have:vs.length<100000:=by rw[a4.length];exact ok.2
  exact Nb this (by rw[sizeLine_eq];decide)
 .obtain⟨R',g'⟩:=(R.grow gs).write (es:=xs++[r.d]) (ws:=vs++[y]) z a1 ((QV.mono (cT gs) a4).app (QV.one (q.clean R.mu gs ok.1)))
  exact h _ _ _ ((Gr.of_same R.mu.left gs).trans g') R'
def az:Ev->Ev->Qo Ev:=λr1 r2=>match r1.d,r2.d with
 |.lst ds,.int i=>(RP ds i).map λd=>if r1.ok||flat d then .cl d else .tm d
 |.tup ds,.int i=>(RP ds i).map λd=>if r1.ok||flat d then .cl d else .tm d
 |_,_=>Qn
def QV.RP{K:MK}{H:Hp}{ds:Ql D}{vs:Ql V}(r:QV K H ds vs){i:Int}{d:D}(e:L2.RP ds i=Qs d):∃v,L2.RP vs i=Qs v/\Rep K H d v:=by
 unfold L2.RP at e ⊢
 rw[r.length]
 cases e1:Sz ds.length i with
 |none=>rw[e1]at e;cases e
 |some j=>rw[e1]at e;exact r.get e
def bI(ha:PE X a (dE X.K F fa))(hb:PE X b (dE X.K F fb))(hs:mX b:=by intro _ _;rfl):PE X (.Subscript a b pos) (dE X.K F (d2 az fa fb)):=by
 refine PE.imp (nW (Xm.or tO) ha hb hs) ?_
 intro σ H Q h
 obtain⟨A,t,r1,r2,r,R,e1,e2,e,h,w⟩:=two h
 refine⟨A,t,r1,R,e1,λx H1 T6 q1=>⟨A,t,r2,R.grow T6,e2,λy H2 RZ q2=>?_⟩⟩
 have q1:=q1.mono RZ
 have gs:=T6.trans RZ
 have p2:=q2.full
 have m2:=R.mu.mono gs
 have key:∀(P:Ql U1),Rep X.K (ah P H2) r1.d x->(∀d v,Rep X.K (ah P H2) d v->Rz X.K F A H H2 (if r1.ok||flat d then Ev.cl d else Ev.tm d) v)->nO X.K x y H2 Q\/rV X.K x y H2 Q:=λP hP fin=>by
  unfold az at e
  split at e
  .rename_i ds i z1 z2
   rw[z2]at p2
   cases cC p2
   rw[z1]at hP
   cases hP with
   |@lst _ p vs h1 h2 =>
    rcases e4:RP ds i with _|d
    .rw[e4]at e;cases e
    rw[e4]at e
    have e:(if r1.ok||flat d then Ev.cl d else Ev.tm d)=r:=by simpa using e
    obtain⟨v,e5,rv⟩:=QV.RP h2 e4
    exact .inl ⟨p,vs,i,v,rfl,rfl,Rm.mono (aV _ _) h1,e5,h v H2 gs (e ▸ fin d v rv)⟩
  .rename_i ds i z1 z2
   rw[z2]at p2
   cases cC p2
   rw[z1]at hP
   cases hP with
   |@tup _ p vs h1 h2 =>
    rcases e4:RP ds i with _|d
    .rw[e4]at e;cases e
    rw[e4]at e
    have e:(if r1.ok||flat d then Ev.cl d else Ev.tm d)=r:=by simpa using e
    obtain⟨v,e5,rv⟩:=QV.RP h2 e4
    exact .inr ⟨p,vs,i,v,rfl,rfl,RQ.mono (aV _ _) h1,e5,h v H2 gs (e ▸ fin d v rv)⟩
  .cases e
 by_cases c:r1.ok=Qt
 .refine key (A++F) (q1.clean R.mu gs c) λd v rv=>?_
  rw[c,Qv,QO rfl]
  exact rv
 .refine key F (q1.UB R.mu) λd v rv=>?_
  have c:r1.ok=Qf:=by simpa using c
  rw[c,Pe]
  split
  .rename_i f;exact Rep.RY m2 f (Rep.mono (aV _ _) rv)
  .exact rv
def kQ:Ev->Ev->Qo Ev:=λr1 r2=>match r1.d,r2.d with
 |.lst ds,.lst es=>if(r1.ok||RB ds)&&(r2.ok||RB es)&&decide (ds.length+es.length<=100000) then Qs (.nw (ds++es)) else Qn
 |_,_=>Qn
def Rz.items{F:Ql U1}(m:RF H (A++F))(gs:QS H H')(q:Rz K F A H H' r v)(z:r.d=.lst ds)(c:(r.ok||RB ds)=Qt) :
  ∃p vs,v=.ref p/\Rm K H' p vs/\QV K (ah (A++F) H') ds vs:=by
 rcases PR _ _ ▸ c with c | c
 .have w:=q.clean m gs c
  rw[z]at w
  cases w with
  |@lst _ p vs h1 h2=>exact⟨p,vs,rfl,Rm.mono (aV _ _) h1,h2⟩
 .have w:=q.full
  rw[z]at w
  cases w with
  |@lst _ p vs h1 h2=>exact⟨p,vs,rfl,h1,QV.RY (m.mono gs) c h2⟩
def L1{A:Ol}{b:U1}{vs ws:Ql M6}{Q:M6->M0->Prop}(hl:PlainL s.heap l vs.toArray)(hb:PlainL s.heap b ws.toArray)
  (h:Q (.ref s.heap.objs.size) { s with heap:=s.heap.push { cls:=.type "list",data:=.seq (vs++ws).toArray } }) (hsz:vs.length+ws.length<=Nn) :
  wpAny (model prog w) A (binaryOp .Add (.ref l) (.ref b)) Q E s:=by
 obtain⟨⟨cls,dd,data,sl⟩,n,ho,hc,hdd,hd⟩:=id hl
 obtain⟨⟨zeL,VY,data2,VH⟩,n2,Vr,Wi,zgp,hd2⟩:=id hb
 simp only at hc hd Wi hd2
 subst hc hd Wi hd2
 have e:vs.toArray++ws.toArray=(vs++ws).toArray:=by simp
 refine concat_meets ⟨_,ho,rfl⟩ ⟨_,Vr,rfl⟩ noFill_list_add seq_list_add PySem.F.slot_list_add PySem.F.entry_list_add (PySem.F.args_list_add_2 _ _) (list_addW l b vs.toArray ws.toArray n n2 dd VY sl VH (by simpa using hsz)) ⟨ho,Vr,?_⟩
 rw[e]
 exact h
def fD:SX X F (binaryOp .Add) kQ:=by
 intro pins s σ H0 H A x y v u Q r1 r2 r I m g0 rx ry q1 q2 e hq
 unfold kQ at e
 split at e
 case h_2=>cases e
 rename_i ds Sk z1 z2
 refine bZ e λc e=>?_
 simp only[MX,SI]at c
 cases e
 obtain⟨p,vs,rfl,h1,h2⟩:=q1.items m g0 z1 c.1.1
 obtain⟨p',ws,rfl,T5,SH⟩:=q2.items m g0 z2 c.1.2
 cases rx
 cases ry
 obtain⟨Q7,w1,w2,w3⟩:=I.list h1
 obtain⟨its',Ta,TU,w3'⟩:=I.list T5
 have l1:=h2.length
 have l2:=SH.length
 have l3:=w1.length
 have l4:=Ta.length
 have hz:vs.length+ws.length<=Nn:=Uy (by lia)
 refine L1 w2 TU ⟨.ref _,_,I.YN (t':=s.toks) (w1.append Ta) (by rw[Nl];exact hz),rfl,?_⟩ (by lia)
 refine hq _ _ (dW I.fresh) ⟨_,_,rfl,QS.free g0 I.fresh,bF,QV.mono (jo I.fresh) (h2.app SH)⟩
mutual
def cg:D->D->Bool
 |.Ri,e=>(match e with | .Ri=>Qt | _=>Qf)
 |.bl a,e=>(match e with | .bl b=>decide (a=b) |_=>Qf)
 |.int a,e=>(match e with | .int b=>decide (a=b) |_=>Qf)
 |.str a,e=>(match e with | .str b=>decide (a=b) |_=>Qf)
 |.tup a,e=>(match e with | .tup b=>UW a b | _=>Qf)
 |.lst a,e=>(match e with | .lst b=>UW a b | _=>Qf)
 |.RX ks a,e=>(match e with | .RX YR b=>decide (ks=YR)&&UW a b | _=>Qf)
 |.Sw a,e=>(match e with | .Sw b=>decide (a=b) |_=>Qf)
 |.Tx a,e=>(match e with | .Tx b=>decide (a=b) |_=>Qf)
 |.adr a,e=>(match e with | .adr b=>decide (a=b) |_=>Qf)
 |.Rx a,e=>(match e with | .Rx b=>decide (a=b) |_=>Qf)
 |.obj C ks a,e=>(match e with | .obj C' YR b=>decide (C=C')&&(decide (ks=YR)&&UW a b) |_=>Qf)
def UW:List D->List D->Bool
 |[],e=>(match e with | []=>Qt | _=>Qf)
 |a::as,e=>(match e with | b::bs=>cg a b&&UW as bs | _=>Qf)
end
def aP(d:D):Bool:=match d with
 |.Ri=>Qt
 |.bl _=>Qt
 |.int _=>Qt
 |.str _=>Qt
 |_=>Qf
def AA(d e:D):Bool:=match d with
 |.bl _=>(match e with | .int _=>Qf | .str _=>Qf | _=>Qt)
 |.int _=>(match e with | .bl _=>Qf | _=>Qt)
 |.str _=>(match e with | .bl _=>Qf | _=>Qt)
 |_=>Qt
@[simp] def Yz (d e:D):Bool:=aP d&&(aP e&&AA d e)
def aS:Nat->D->D->Bool
 |0,d,e=>Yz d e
 |n+1,d,e=>(match d with
  |.tup xs=>(match e with | .tup ys=>(xs.zip ys).all λp=>aS n p.1 p.2 | _=>Qf)
  |.lst xs=>(match e with | .lst ys=>(xs.zip ys).all λp=>aS n p.1 p.2 | _=>Qf)
  |d=>Yz d e)
def gY{P:D->Prop}{d:D}(s:aP d=Qt)(a:P .Ri)(b:∀x,P (.bl x))(c:∀x,P (.int x))(f:∀x,P (.str x)):P d:=by
 cases d with
 |Ri=>exact a
 |bl x=>exact b x
 |int x=>exact c x
 |str x=>exact f x
 |_=>exact absurd (show Qf=Qt from s) MU
def dV:D->V
 |.bl b=>.bl b
 |.int i=>.int i
 |.str x=>.str x
 |_=>.Ri
def vD:V->D
 |.bl b=>.bl b
 |.int i=>.int i
 |.str x=>.str x
 |_=>.Ri
def gS{d:D}(s:aP d=Qt)(r:Rep K H d v):v=dV d:=by
 cases r<;>first | rfl | exact absurd (show Qf=Qt from s) MU
def lL{d:D}(s:aP d=Qt):vD (dV d)=d:=gY (P:=λd=>vD (dV d)=d) s rfl (λ_=>rfl) (λ_=>rfl) λ_=>rfl
inductive Okv(n:Nat)(d e:D):Prop
 |sc (a:aP d=Qt) (b:aP e=Qt)
 |tp (m:Nat) (xs ys:List D) (h:n=m+1) (a:d=.tup xs) (b:e=.tup ys) (k:((xs.zip ys).all λp=>aS m p.1 p.2)=Qt)
 |ls (m:Nat) (xs ys:List D) (h:n=m+1) (a:d=.lst xs) (b:e=.lst ys) (k:((xs.zip ys).all λp=>aS m p.1 p.2)=Qt)
def sM{d e:D}(h:Yz d e=Qt):aP d=Qt/\aP e=Qt:=⟨(Ng.mp h).1,(Ng.mp (Ng.mp h).2).1⟩
def l7{d e:D}(ok:aS n d e=Qt):Okv n d e:=by
 cases n with
 |zero=>exact .sc (sM ok).1 (sM ok).2
 |succ m =>
  cases d with
  |tup xs =>
   cases e with
   |tup ys=>exact .tp m xs ys rfl rfl rfl ok
   |_=>exact absurd (show Qf=Qt from ok) MU
  |lst xs =>
   cases e with
   |lst ys=>exact .ls m xs ys rfl rfl rfl ok
   |_=>exact absurd (show Qf=Qt from ok) MU
  |_=>exact .sc (sM ok).1 (sM ok).2
inductive zfe(K:MK)(H:Hp)(xs:List D)(v:V):Prop
 |mk (p:U1) (vs:List V) (a:v=.ref p) (b:RQ K H p vs) (c:QV K H xs vs)
inductive zfg(K:MK)(H:Hp)(xs:List D)(v:V):Prop
 |mk (p:U1) (vs:List V) (a:v=.ref p) (b:Rm K H p vs) (c:QV K H xs vs)
def Rep.Vh{xs:Ql D}(r:Rep K H (.tup xs) v):zfe K H xs v:=by
 cases r with
 |tup a b=>exact⟨_,_,rfl,a,b⟩
def Rep.Vm{xs:Ql D}(r:Rep K H (.lst xs) v):zfg K H xs v:=by
 cases r with
 |lst a b=>exact⟨_,_,rfl,a,b⟩
def vp{n:Nat}{H:Hp}(h:∀(d e:D) (v:V),aS n d e=Qt->Rep X.K H d v->Rep X.K H e v->d=e):∀{ds es:Ql D}{vs:Ql V},((ds.zip es).all λp=>aS n p.1 p.2)=Qt->QV X.K H ds vs->QV X.K H es vs->ds=es
 |_,_,_,_,.nil,.nil=>rfl
 |_,_,_,ok,.cons a r,.cons b q=>by
  simp only[Nu,NQ,MX]at ok
  rw[h _ _ _ ok.1 a b,vp h ok.2 r q]
def Rep.inj (I:Inv X pins σ H s):∀(n:Nat) (d e:D) (v:V),aS n d e=Qt->Rep X.K H d v->Rep X.K H e v->d=e:=by
 intro n
 induction n with
 |zero =>
  intro d e v ok r q
  cases l7 ok with
  |sc a b=>rw[<-lL a, <-lL b, <-gS a r, <-gS b q]
  |tp _ _ _ h=>cases h
  |ls _ _ _ h=>cases h
 |succ n ih =>
  intro d e v ok r q
  cases l7 ok with
  |sc a b=>rw[<-lL a, <-lL b, <-gS a r, <-gS b q]
  |tp m xs ys h a b k =>
   cases h
   subst a b
   obtain⟨p,vs,rfl,h1,r1⟩:=r.Vh
   obtain⟨p',Tf,z,h2,r2⟩:=q.Vh
   cases z
   have ev:=I.ZR h1 h2
   subst ev
   rw[vp ih k r1 r2]
  |ls m xs ys h a b k =>
   cases h
   subst a b
   obtain⟨p,vs,rfl,h1,r1⟩:=r.Vm
   obtain⟨p',Tf,z,h2,r2⟩:=q.Vm
   cases z
   have ev:=I.YO h1 h2
   subst ev
   rw[vp ih k r1 r2]
mutual
def CL:∀{a b:D},cg a b=Qt->a=b
 |.Ri,b=>by cases b<;>intro h<;>first | rfl | exact absurd (show Qf=Qt from h) MU
 |.bl x,b=>by cases b<;>intro h<;>first | exact congrArg D.bl (of_decide_eq_true h) |exact absurd (show Qf=Qt from h) MU
 |.int x,b=>by cases b<;>intro h<;>first | exact congrArg D.int (of_decide_eq_true h) |exact absurd (show Qf=Qt from h) MU
 |.str x,b=>by cases b<;>intro h<;>first | exact congrArg D.str (of_decide_eq_true h) |exact absurd (show Qf=Qt from h) MU
 |.Sw x,b=>by cases b<;>intro h<;>first | exact congrArg D.Sw (of_decide_eq_true h) |exact absurd (show Qf=Qt from h) MU
 |.Tx x,b=>by cases b<;>intro h<;>first | exact congrArg D.Tx (of_decide_eq_true h) |exact absurd (show Qf=Qt from h) MU
 |.adr x,b=>by cases b<;>intro h<;>first | exact congrArg D.adr (of_decide_eq_true h) |exact absurd (show Qf=Qt from h) MU
 |.Rx x,b=>by cases b<;>intro h<;>first | exact congrArg D.Rx (of_decide_eq_true h) |exact absurd (show Qf=Qt from h) MU
 |.tup xs,b=>by cases b<;>intro h<;>first | exact congrArg D.tup (WU h) |exact absurd (show Qf=Qt from h) MU
 |.lst xs,b=>by cases b<;>intro h<;>first | exact congrArg D.lst (WU h) |exact absurd (show Qf=Qt from h) MU
 |.RX ks xs,b=>by cases b<;>intro h<;>first | (rw[of_decide_eq_true (Ng.mp h).1,WU (Ng.mp h).2]) |exact absurd (show Qf=Qt from h) MU
 |.obj C ks xs,b=>by cases b<;>intro h<;>first | (rw[of_decide_eq_true (Ng.mp h).1,of_decide_eq_true (Ng.mp (Ng.mp h).2).1,WU (Ng.mp (Ng.mp h).2).2]) |exact absurd (show Qf=Qt from h) MU
def WU:∀{a b:List D},UW a b=Qt->a=b
 |[],b=>by cases b<;>intro h<;>first | rfl | exact absurd (show Qf=Qt from h) MU
 |x::xs,b=>by cases b<;>intro h<;>first | (rw[CL (Ng.mp h).1,WU (Ng.mp h).2]) |exact absurd (show Qf=Qt from h) MU
end
mutual
def CK:∀a:D,cg a a=Qt
 |.Ri=>rfl
 |.bl _=>RC rfl
 |.int _=>RC rfl
 |.str _=>RC rfl
 |.Sw _=>RC rfl
 |.Tx _=>RC rfl
 |.adr _=>RC rfl
 |.Rx _=>RC rfl
 |.tup xs=>WR xs
 |.lst xs=>WR xs
 |.RX _ xs=>Ng.mpr ⟨RC rfl,WR xs⟩
 |.obj _ _ xs=>Ng.mpr ⟨RC rfl,Ng.mpr ⟨RC rfl,WR xs⟩⟩
def WR:∀a:List D,UW a a=Qt
 |[]=>rfl
 |x::xs=>Ng.mpr ⟨CK x,WR xs⟩
end
def Ly{a b:D}:cg a b=Qt↔a=b:=⟨CL,λe=>e ▸ CK a⟩
def zeA{a b:Ql D}:UW a b=Qt↔a=b:=⟨WU,λe=>e ▸ WR a⟩
def Ug{a b:D}:cg a b=Qt↔a=b:=Ly
def zba{a b:D}:cg a b=Qf↔¬ a=b:=by rw[<-Ug];simp
def ic(xs ys:Ql D)(j:Nat):Bool:=match xs[j]?,ys[j]? with
 |some a,Qs b=>cg a b
 |_,_=>Qt
end
def PlainL.Tt{a:U1}{Q7:Array M6}(p:PlainL h a Q7):h.IsList a Q7:=by
 obtain⟨o,n,e,c,_,d⟩:=p
 exact⟨o,e,c,n,d⟩
section
variable {rest:Ql U4}
def xD{d e:D}{u:V}(r:Rep K H d v)(q:Rep K H e u)(s1:aP d=Qt)(s2:aP e=Qt)(ok:aS n d e=Qt):du v=Qt/\du u=Qt/\fU v u=cg d e:=by
 rw[gS s1 r,gS s2 q]
 clear r q
 revert s2 ok
 refine gY (P:=λd=>aP e=Qt->aS n d e=Qt->du (dV d)=Qt/\du (dV e)=Qt/\fU (dV d) (dV e)=cg d e) s1 ?_ ?_ ?_ ?_
 .exact λs2 _=>gY (P:=λe=>du V.Ri=Qt/\du (dV e)=Qt/\fU V.Ri (dV e)=cg .Ri e) s2 ⟨rfl,rfl,rfl⟩ (λ_=>⟨rfl,rfl,rfl⟩) (λ_=>⟨rfl,rfl,rfl⟩) λ_=>⟨rfl,rfl,rfl⟩
 .exact λx s2=>gY (P:=λe=>aS n (.bl x) e=Qt->du (V.bl x)=Qt/\du (dV e)=Qt/\fU (V.bl x) (dV e)=cg (.bl x) e) s2 (λ_=>⟨rfl,rfl,rfl⟩) (λ_ _=>⟨rfl,rfl,by rw[NT];exact beq_iff_eq.trans decide_eq_true_iff.symm⟩) (λ_ z=>absurd (show Qf=Qt by cases n<;>exact z) MU) λ_ _=>⟨rfl,rfl,rfl⟩
 .exact λx s2=>gY (P:=λe=>aS n (.int x) e=Qt->du (V.int x)=Qt/\du (dV e)=Qt/\fU (V.int x) (dV e)=cg (.int x) e) s2 (λ_=>⟨rfl,rfl,rfl⟩) (λ_ z=>absurd (show Qf=Qt by cases n<;>exact z) MU) (λ_ _=>⟨rfl,rfl,by rw[NT];exact beq_iff_eq.trans decide_eq_true_iff.symm⟩) λ_ _=>⟨rfl,rfl,rfl⟩
 .exact λx s2 _=>gY (P:=λe=>du (V.str x)=Qt/\du (dV e)=Qt/\fU (V.str x) (dV e)=cg (.str x) e) s2 ⟨rfl,rfl,rfl⟩ (λ_=>⟨rfl,rfl,rfl⟩) (λ_=>⟨rfl,rfl,rfl⟩) λ_=>⟨rfl,rfl,by rw[NT];exact beq_iff_eq.trans decide_eq_true_iff.symm⟩
def uD{xs ys:Ql D}(h:xs.length=ys.length):(NI xs.length).all (ic xs ys)=cg (.lst xs) (.lst ys):=by
 rw[NT,Ug,NJ]
 constructor
 .intro hh
  congr 1
  apply QZ h
  intro i h1 h2
  have:=hh i (O6.mpr h1)
  simp only[ic,MR h1,MR h2]at this
  exact Ug.mp this
 .intro hh i hi
  injection hh with hh
  subst hh
  simp only[ic]
  split
  .rename_i a b z1 z2
   rw[z1]at z2;cases z2
   exact Ug.mpr rfl
  .rfl
def yr{xs ys:Ql D}:((NI (min xs.length ys.length)).all (ic xs ys)&&xs.length == ys.length)=cg (.tup xs) (.tup ys):=by
 by_cases h:xs.length=ys.length
 .have e:min xs.length ys.length=xs.length:=by lia
  rw[e,uD h,beq_iff_eq.mpr h,Qb]
  rw[NT,Ug,Ug]
  simp
 .have e:(xs.length == ys.length)=Qf:=by simpa using h
  rw[e,Bool.and_false]
  symm
  rw[zba]
  intro z
  injection z with z
  exact h (by rw[z])
def yJ{xs ys:Ql D}(h:((xs.zip ys).all λp=>aS n p.1 p.2)=Qt){x y:D}(hx:xs[j]?=Qs x)(hy:ys[j]?=Qs y):aS n x y=Qt:=by
 rw[NJ]at h
 refine h (x,y) (Pz (i:=j) ?_)
 rw[List.getElem?_zip_eq_some]
 exact⟨hx,hy⟩
def BO{A:Ol}:A.in1.units=A.units+1:=rfl
def Vals.getL (h:Vals vs us) (hj:j<us.toArray.size):∃v,vs[j]?=Qs v/\RelV v us.toArray[j]:=by
 have Yb:j<vs.length:=by rw[h.length];simpa using hj
 obtain⟨u,e,r⟩:=Vals.get h (MR Yb)
 refine⟨_,MR Yb,?_⟩
 have:us.toArray[j]=u:=by
  have hj2:j<us.length:=by simpa using hj
  have:=MR hj2
  rw[e]at this
  simpa using(Ni this).symm
 rw[this];exact r
def gE{xs:Ql D}(w:Vals vs Q7)(h:QV K H xs vs):Q7.toArray.size=xs.length:=by
 rw[Nd, <-w.length,h.length]
def wb{xs ys:Ql D}(h : ¬ xs.length=ys.length):cg (.lst xs) (.lst ys)=Qf:=zba.mpr λz=>h (by injection z with z;rw[z])
def LA (I:Inv X pins σ H s):∀(n:Nat) (A:Ol) (d e:D) (v u:V) (y z:M6),A.units+n<cLine->aS n d e=Qt->Rep X.K H d v->Rep X.K H e u->RelV v y->RelV u z->SeqAt.EqAt A s y z (cg d e):=by
 intro n
 induction n with
 |zero =>
  intro A d e v u y z hu ok r q ry rz
  cases l7 ok with
  |sc s1 s2 =>
   obtain⟨f1,f2,ee⟩:=xD r q s1 s2 ok
   rw[<-ee]
   exact xG ry rz f1 f2
  |tp _ _ _ h=>cases h
  |ls _ _ _ h=>cases h
 |succ n ih =>
  intro A d e v u y z hu ok r q ry rz
  have YX:A.in1.units+n<cLine:=ND (by rw[BO,Nat.add_right_comm];exact MZ _) hu
  have UN:A.units<cLine:=ND (Qc _ _) hu
  have itm:∀{xs ys:Ql D}{vs ws:Ql V}{Q7 its':Ql M6},((xs.zip ys).all λp=>aS n p.1 p.2)=Qt->QV X.K H xs vs->QV X.K H ys ws->Vals vs Q7->Vals ws its'->∀j (g1:j<Q7.toArray.size) (g2:j<its'.toArray.size),SeqAt.EqAt A.in1 s Q7.toArray[j] its'.toArray[j] (ic xs ys j):=λk h2 SH w1 Ta j g1 g2=>by
   obtain⟨v1,a1,a2⟩:=Vals.getL w1 g1
   obtain⟨v2,b1,b2⟩:=Vals.getL Ta g2
   obtain⟨x1,c1,c2⟩:=h2.UT a1
   obtain⟨x2,d1,d2⟩:=SH.UT b1
   have t:=ih A.in1 x1 x2 v1 v2 _ _ YX (yJ k c1 d1) c2 d2 a2 b2
   unfold ic
   rw[c1,d1]
   exact t
  cases l7 ok with
  |sc s1 s2 =>
   obtain⟨f1,f2,ee⟩:=xD r q s1 s2 ok
   rw[<-ee]
   exact xG ry rz f1 f2
  |tp m xs ys h a b k =>
   cases h
   subst a b
   by_cases z:v=u
   .subst z
    rw[Ug.mpr (Rep.inj I _ _ _ _ ok r q)]
    obtain⟨p,vs,rfl,_,_⟩:=r.Vh
    cases ry;cases rz
    exact SeqAt.EqAt.same _
   .obtain⟨p,vs,rfl,h1,h2⟩:=r.Vh
    obtain⟨p',ws,rfl,T5,SH⟩:=q.Vh
    cases ry;cases rz
    obtain⟨Q7,w1,w2,_⟩:=I.tuple h1
    obtain⟨its',Ta,TU,_⟩:=I.tuple T5
    refine SeqAt.EqAt.of_refs (λy=>z (by rw[y])) ?_
    have k:=SeqAt.RcAt.tuples (A:=A) (e:=ic xs ys) w2 TU UN (itm k h2 SH w1 Ta)
    rw[gE w1 h2,gE Ta SH,yr]at k
    exact k
  |ls m xs ys h a b k =>
   cases h
   subst a b
   by_cases z:v=u
   .subst z
    rw[Ug.mpr (Rep.inj I _ _ _ _ ok r q)]
    obtain⟨p,vs,rfl,_,_⟩:=r.Vm
    cases ry;cases rz
    exact SeqAt.EqAt.same _
   .obtain⟨p,vs,rfl,h1,h2⟩:=r.Vm
    obtain⟨p',ws,rfl,T5,SH⟩:=q.Vm
    cases ry;cases rz
    obtain⟨Q7,w1,w2,_⟩:=I.list h1
    obtain⟨its',Ta,TU,_⟩:=I.list T5
    refine SeqAt.EqAt.of_refs (λy=>z (by rw[y])) ?_
    have l1:=gE w1 h2
    have l2:=gE Ta SH
    by_cases hl:xs.length=ys.length
    .have k:=SeqAt.RcAt.lists (A:=A) (e:=ic xs ys) (PlainL.Tt w2) (PlainL.Tt TU) (by rw[l1,l2];exact hl) UN (itm k h2 SH w1 Ta)
     rw[l1,uD hl]at k
     exact k
    .rw[wb hl]
     exact SeqAt.RcAt.lists_lengths (PlainL.Tt w2) (PlainL.Tt TU) (by rw[l1,l2];exact bne_iff_ne.mpr hl) UN
def qU (I:Inv X pins σ H s){A:Ol}{xs ys:Ql D}{its':Ql M6}(hu:A.units+n+1<cLine)(ok:((xs.zip ys).all λp=>aS n p.1 p.2)=Qt)
  (h2:QV X.K H xs vs) (SH:QV X.K H ys ws) (w1:Vals vs Q7) (Ta:Vals ws its'):∀j (g1:j<Q7.toArray.size) (g2:j<its'.toArray.size),SeqAt.EqAt A.in1 s Q7.toArray[j] its'.toArray[j] (ic xs ys j):=λj g1 g2=>by
 obtain⟨v1,a1,a2⟩:=Vals.getL w1 g1
 obtain⟨v2,b1,b2⟩:=Vals.getL Ta g2
 obtain⟨x1,c1,c2⟩:=h2.UT a1
 obtain⟨x2,d1,d2⟩:=SH.UT b1
 have:=LA I n A.in1 x1 x2 v1 v2 _ _ (by rw[BO];lia) (yJ ok c1 d1) c2 d2 a2 b2
 have ee:ic xs ys j=cg x1 x2:=by simp only[ic,c1,d1]
 rw[ee];exact this
def d5:Ev->Ev->Qo Ev:=λr1 r2=>if aS 6 r1.d r2.d then Qs (.cl (.bl (cg r1.d r2.d))) else Qn
def dU:Ev->Ev->Qo Ev:=λr1 r2=>if aS 6 r1.d r2.d then Qs (.cl (.bl (!cg r1.d r2.d))) else Qn
def zv{d e:D}{u:V}(r:Rep K H d v)(q:Rep K H e u)(s1:aP d=Qt)(s2:aP e=Qt)(ok:aS n d e=Qt):jM v u=Qt/\decide (v=u)=cg d e:=by
 refine⟨?_,?_⟩
 .rw[gS s1 r,gS s2 q]
  clear r q
  revert s2 ok
  refine gY (P:=λd=>aP e=Qt->aS n d e=Qt->jM (dV d) (dV e)=Qt) s1 ?_ ?_ ?_ ?_
  .exact λs2 _=>gY (P:=λe=>jM V.Ri (dV e)=Qt) s2 rfl (λ_=>rfl) (λ_=>rfl) λ_=>rfl
  .exact λx s2=>gY (P:=λe=>aS n (.bl x) e=Qt->jM (V.bl x) (dV e)=Qt) s2 (λ_=>rfl) (λ_ _=>rfl) (λ_ z=>absurd (show Qf=Qt by cases n<;>exact z) MU) λ_ _=>rfl
  .exact λx s2=>gY (P:=λe=>aS n (.int x) e=Qt->jM (V.int x) (dV e)=Qt) s2 (λ_=>rfl) (λ_ z=>absurd (show Qf=Qt by cases n<;>exact z) MU) (λ_ _=>rfl) λ_ _=>rfl
  .exact λx s2=>gY (P:=λe=>aS n (.str x) e=Qt->jM (V.str x) (dV e)=Qt) s2 (λ_=>rfl) (λ_ z=>absurd (show Qf=Qt by cases n<;>exact z) MU) (λ_ _=>rfl) λ_ _=>rfl
 .rw[NT,Ug]
  refine decide_eq_true_iff.trans ⟨λz=>?_,λz=>?_⟩
  .rw[<-lL s1, <-lL s2, <-gS s1 r, <-gS s2 q,z]
  .rw[gS s1 r,gS s2 q,z]
def jT(hu:X.A.units+64<cLine):SX X F (compareOp .Eq) d5:=by
 intro pins s σ H0 H A x y v u Q r1 r2 r I m g0 rx ry q1 q2 e hq
 refine bZ e λok e=>?_
 cases e
 have p1:=q1.full
 have p2:=q2.full
 have UN:X.A.units<cLine:=ND (Qc _ _) hu
 have Xq:X.A.units+5+1<cLine:=ND (QE (by decide:6<=64) _) hu
 cases l7 ok with
 |sc s1 s2 =>
  obtain⟨a1,a2⟩:=zv p1 p2 s1 s2 ok
  exact Iu pins s σ H x y v u Q I rx ry ⟨a1,by rw[a2];exact hq _ H (QS.refl H) (.bl _)⟩
 |tp m' xs ys h a b k =>
  cases h
  rw[a]at p1 hq
  rw[b]at p2 hq
  obtain⟨p,vs,rfl,h1,h2⟩:=p1.Vh
  obtain⟨p',ws,rfl,T5,SH⟩:=p2.Vh
  cases rx;cases ry
  obtain⟨Q7,w1,w2,_⟩:=I.tuple h1
  obtain⟨its',Ta,TU,_⟩:=I.tuple T5
  refine SeqAt.eq_tupleAt w2 TU UN (qU I (n:=5) Xq k h2 SH w1 Ta) ?_
  rw[gE w1 h2,gE Ta SH,yr]
  exact⟨.bl _,H,I,rfl,hq _ H (QS.refl H) (.bl _)⟩
 |ls m' xs ys h a b k =>
  cases h
  rw[a]at p1 hq
  rw[b]at p2 hq
  obtain⟨p,vs,rfl,h1,h2⟩:=p1.Vm
  obtain⟨p',ws,rfl,T5,SH⟩:=p2.Vm
  cases rx;cases ry
  obtain⟨Q7,w1,w2,_⟩:=I.list h1
  obtain⟨its',Ta,TU,_⟩:=I.list T5
  have l1:=gE w1 h2
  have l2:=gE Ta SH
  by_cases hl:xs.length=ys.length
  .refine SeqAt.eq_listAt (PlainL.Tt w2) (PlainL.Tt TU) (by rw[l1,l2];exact hl) UN (qU I (n:=5) Xq k h2 SH w1 Ta) ?_
   rw[l1,uD hl]
   exact⟨.bl _,H,I,rfl,hq _ H (QS.refl H) (.bl _)⟩
  .rw[wb hl]at hq
   exact SeqAt.eq_list_lengthsAt (PlainL.Tt w2) (PlainL.Tt TU) (by rw[l1,l2];exact bne_iff_ne.mpr hl) UN ⟨.bl _,H,I,rfl,hq _ H (QS.refl H) (.bl _)⟩
def jS(hu:X.A.units+64<cLine):SX X F (compareOp .NotEq) dU:=by
 intro pins s σ H0 H A x y v u Q r1 r2 r I m g0 rx ry q1 q2 e hq
 refine bZ e λok e=>?_
 cases e
 have p1:=q1.full
 have p2:=q2.full
 have UN:X.A.units<cLine:=ND (Qc _ _) hu
 have Xq:X.A.units+5+1<cLine:=ND (QE (by decide:6<=64) _) hu
 cases l7 ok with
 |sc s1 s2 =>
  obtain⟨a1,a2⟩:=zv p1 p2 s1 s2 ok
  exact Il pins s σ H x y v u Q I rx ry ⟨a1,by rw[a2];exact hq _ H (QS.refl H) (.bl _)⟩
 |tp m' xs ys h a b k =>
  cases h
  rw[a]at p1 hq
  rw[b]at p2 hq
  obtain⟨p,vs,rfl,h1,h2⟩:=p1.Vh
  obtain⟨p',ws,rfl,T5,SH⟩:=p2.Vh
  cases rx;cases ry
  obtain⟨Q7,w1,w2,_⟩:=I.tuple h1
  obtain⟨its',Ta,TU,_⟩:=I.tuple T5
  have k:=SeqAt.RcNeAt.tuples (A:=X.A) w2 TU UN (qU I (n:=5) Xq k h2 SH w1 Ta)
  rw[gE w1 h2,gE Ta SH,yr]at k
  exact k _ _ _ _ ⟨.bl _,H,I,rfl,hq _ H (QS.refl H) (.bl _)⟩
 |ls m' xs ys h a b k =>
  cases h
  rw[a]at p1 hq
  rw[b]at p2 hq
  obtain⟨p,vs,rfl,h1,h2⟩:=p1.Vm
  obtain⟨p',ws,rfl,T5,SH⟩:=p2.Vm
  cases rx;cases ry
  obtain⟨Q7,w1,w2,_⟩:=I.list h1
  obtain⟨its',Ta,TU,_⟩:=I.list T5
  have l1:=gE w1 h2
  have l2:=gE Ta SH
  by_cases hl:xs.length=ys.length
  .have k:=SeqAt.RcNeAt.lists (A:=X.A) (PlainL.Tt w2) (PlainL.Tt TU) (by rw[l1,l2];exact hl) UN (qU I (n:=5) Xq k h2 SH w1 Ta)
   rw[l1,uD hl]at k
   exact k _ _ _ _ ⟨.bl _,H,I,rfl,hq _ H (QS.refl H) (.bl _)⟩
  .rw[wb hl]at hq
   exact SeqAt.RcNeAt.lists_lengths (A:=X.A) (PlainL.Tt w2) (PlainL.Tt TU) (by rw[l1,l2];exact bne_iff_ne.mpr hl) UN _ _ _ _ ⟨.bl _,H,I,rfl,hq _ H (QS.refl H) (.bl _)⟩
def yY:D->String
 |.Ri => "NoneType"
 |.bl _ => "bool"
 |.int _ => "int"
 |.str _ => "str"
 |.tup _ => "tuple"
 |.lst _ => "list"
 |.RX _ _ => "dict"
 |.Sw _ => "dict"
 |.Tx _ => "dict"
 |.adr _ => "NoneType"
 |.Rx _ => "NoneType"
 |.obj _ _ _ => "NoneType"
def MG(d:D)(T:String):Bool:=yY d == T||(yY d == "bool"&&T == "int")
def MH:D->Bool
 |.adr _=>Qt
 |.Rx _=>Qt
 |.obj _ _ _=>Qt
 |_=>Qf
end
def lP(N:Ql Str)(ds:Ql D):Th:=ds.map Sl.val++M8 (N.length - ds.length) Sl.no
def Rc.X0{K:MK}{H0 H:Hp}:∀n,Rc K H0 H (M8 n Sl.no) (M8 n Qn) []
 |0=>.nil
 |n+1=>.no (Rc.X0 n)
def Rc.start{K:MK}{H0 H:Hp}{t:Th}{σ:L2.St}(r0:Rc K H0 H t σ []):∀{ds:Ql D}{vs:Ql V},QV K H0 ds vs->Rc K H0 H (ds.map Sl.val++t) (vs.map Qs++σ) []
 |_,_,.nil=>r0
 |_,_,.cons h r=>.val h (Rc.start r0 r)
def dD:Out->Qo Ev
 |.rt r=>Qs r
 |.nx _=>Qs (.cl .Ri)
 |_=>Qn
def eR{mg:Str->Qo M6}{f:U1}{k:Nat}(Fn:L2.R8 K x qual st f fd)(S:Sr N ps (bp st))
  (hlen:∀ds r,G ds=Qs r->ds.length=ps.length) (g:DS) (hG:∀ds r,G ds=Qs r->∃o,g (lP N ds)=Qs o/\dD o=Qs r)
  (Vv:∀(Ru:M6) (A:Ol) (outer:Ql Env) (s:M0) (H:Hp) (E:XK) (F:Ql U1),Sh k (A.deeper (envOfC qual (bp st) s.heap.objs.size f Ru)) ->
   RU (jz bz P w K mg base N qual (bp st) f Ru A outer s H E).V4 (fW st) (dS K F g)):RO P w K mg base bz (k+1) f fd ps (SO K G):=by
 refine Fn.ok S (λvs H Q E h=>?_) (λRu A outer s H vs Q E hr h=>?_)
 .obtain⟨Fo,ds,r,_,hr,hg,_⟩:=h
  rw[hr.length];exact hlen ds r hg
 .obtain⟨Fo,ds,r,hl,Vq,hg,cont⟩:=h
  obtain⟨o,ho,X9⟩:=hG ds r hg
  refine⟨_,Vv Ru A outer s H E Fo hr,j9 (A:=[]) (t:=lP N ds) ⟨hl,NM,λp hp=>(by cases hp),?_⟩ ho ?_⟩
  .unfold lP L2.start
   rw[Vq.length]
   exact Rc.start (Rc.X0 _) Vq
  .have sm:∀{A' H'},Gr [] H A' H'->QS H H':=λg b o q=>g.kp b o (by simp) q
   cases o with
   |nx t' =>
    cases X9
    exact λσ' H' A' g' R'=>cont .Ri H' (sm g') .Ri
   |bk t'=>cases X9
   |ct t'=>cases X9
   |rt r' =>
    cases X9
    intro v H' A' g' q
    refine cont v H' (sm g') ?_
    cases r with
    |cl d=>exact q
    |tm d=>exact q
    |nw xs =>
     obtain⟨p,Tf,rfl,h1,h2,h3,h4⟩:=q
     rcases h1 with h1 | h1
     .cases h1
     .exact⟨p,Tf,rfl,h1,h3,h4⟩
    |dn d =>
     obtain⟨B,h1,h2,h3⟩:=q
     exact⟨B,h1,λb hb=>by rcases(h2 b hb).1 with z | z;cases z;exact z,h3⟩
structure Ua(P:NA)(w:OX)(K:MK)(mg:Str->Option M6)(base:TL)(x:Str)(k:Nat)(G:List D->Option Ev):Prop where
 ex:∃(a:U1) (fd:N8) (ps:List Str),mg x=Qs (.ref a)/\N2 K (.ref a)=Qt/\L2.Binds K fd ps []/\RO P w K mg base bz k a fd ps (SO K G)
def e9{k:Nat}{p:Pos}(c:Ua X.prog X.w X.K X.mg X.base x k G)(hr:Sh k X.A)(ha:PA X (a::es) (dA X.K F ga))(hg:Gl X x:=by rfl)(TQ:Sv x:=by decide)
  (he:Na (a::es) X.env=(Qf,eval a X.env)::Na es X.env:=by rfl) (SQ:(OY pos (Na es X.env)).any (·.1)=Qf:=by rfl):PE X (.Call (.Name x p) (a::es) [] pos) (dE X.K F (ai (aO G) ga)):=by
 obtain⟨f,fd,ps,h1,h2,h3,h4⟩:=c.ex
 exact HX h4 hr hg h1 h2 h3 ha TQ he SQ
structure Df(K:MK)(mg:Str->Option M6)(x:Str)(st:U4)(ps:List Str)(a:U1)(fd:N8):Prop where
 fn:L2.R8 K x x st a fd
 mgx:mg x=Qs (.ref a)
 bd:L2.Binds K fd ps []
def Df.UC{mg:Str->Qo M6}{a:U1}{k:Nat}(d:Df K mg x st ps a fd)(h:RO P w K mg base bz k a fd ps (SO K G)):Ua P w K mg base x k G :=
 ⟨a,fd,ps,d.mgx,d.fn.kp,d.bd,h⟩
def iU:bootBuiltins "list"=Qs (.type "list"):=by decide +kernel
def Di:bootBuiltins "abs"=Qs (.builtin "abs"):=by decide +kernel
def mO :∀{us:Ql M6},us.length=n+1->∃a t,us=a::t/\t.length=n
 |a::t,h=>⟨a,t,rfl,Nat.succ.inj h⟩
def uu{f:U1}{p0:Str}(F:L2.R8 K x qual st f fd)(h:∀(kV doc pm:M6) (an:Qo U1) (Ru ct:M6),∀a0:M6,bindArgs (Ov x qual (iN st) (fW st) (bp st) .none kV doc pm an Ru ct) ⟨[a0],[]⟩=pure [(p0,a0)]):Binds K fd [p0] [] :=
 F.binds λkV doc pm an Ru ct u0 h0=>by
  obtain⟨a0,u1,rfl,h1⟩:=mO h0
  cases OP.mp h1
  exact h kV doc pm an Ru ct a0
def fY{f:U1}{p0 p1:Str}(F:L2.R8 K x qual st f fd)(h:∀(kV doc pm:M6) (an:Qo U1) (Ru ct:M6),∀a0 a1:M6,bindArgs (Ov x qual (iN st) (fW st) (bp st) .none kV doc pm an Ru ct) ⟨[a0,a1],[]⟩=pure [(p0,a0),(p1,a1)]):Binds K fd [p0,p1] [] :=
 F.binds λkV doc pm an Ru ct u0 h0=>by
  obtain⟨a0,u1,rfl,h1⟩:=mO h0
  obtain⟨a1,u2,rfl,h2⟩:=mO h1
  cases OP.mp h2
  exact h kV doc pm an Ru ct a0 a1
def jB{f:U1}{p0 p1 p2:Str}(F:L2.R8 K x qual st f fd)(h:∀(kV doc pm:M6) (an:Qo U1) (Ru ct:M6),∀a0 a1 a2:M6,bindArgs (Ov x qual (iN st) (fW st) (bp st) .none kV doc pm an Ru ct) ⟨[a0,a1,a2],[]⟩=pure [(p0,a0),(p1,a1),(p2,a2)]):Binds K fd [p0,p1,p2] [] :=
 F.binds λkV doc pm an Ru ct u0 h0=>by
  obtain⟨a0,u1,rfl,h1⟩:=mO h0
  obtain⟨a1,u2,rfl,h2⟩:=mO h1
  obtain⟨a2,u3,rfl,h3⟩:=mO h2
  cases OP.mp h3
  exact h kV doc pm an Ru ct a0 a1 a2
inductive Hv(K:MK)(x:Str)(st:U4)(f:U1):Prop
 |mk {od an:Option U1}{sl:Array (Option M6)}{oc kV dc pm cd ct:M6} (a:OJ K mainGlobals x=Qs (Qs (.ref f))) (l:K.lookup f=Qs ⟨oc,od,.func (Ov x x (iN st) (fW st) (bp st) .none kV dc pm an cd ct),sl⟩) (c:Pr K cd x=Qt) (k:N2 K (.ref f)=Qt):Hv K x st f
def Hv.fn{f:U1}(h:Hv K x st f):∃fd,L2.R8 K x x st f fd:=by
 cases h with
 |mk a l c k=>exact⟨_,Cj l c k⟩
def Hv.mg{K:MK}{x:Str}{st:U4}{f:U1}{hp:U2}{mg:Str->Qo M6}(h:Hv K x st f)(X:K.In hp)(G:hp.Ns mainGlobals mg):mg x=Qs (.ref f):=by
 cases h with
 |mk a l c k=>exact RK X G a
def cO{P:Ql Str}{sc:QP}(h1:sc.kind=.function)(h2:sc.isCoroutine=Qf)(h3:sc.isGenerator=Qf)(h5:N.take P.length=P)(h:(decide N.Nodup&&(decide (∀x∈P,sc.names.lookup x=Qs .local\/sc.names.lookup x=Qs .cell)&&decide (∀y∈sc.names,y.2≠.free)))=Qt):Sr N P sc:=by
 rw[MX,MX,SI,SI,SI]at h
 exact⟨h1,h2,h3,h.1,h5,h.2.1,h.2.2⟩
def Hv.bt{f:U1}{p:Str}(F:L2.R8 K x x st f fd)(h:∀(kV doc pm:M6) (an:Qo U1) (Ru ct:M6) (v:M6),bindArgs (Ov x x (iN st) (fW st) (bp st) .none kV doc pm an Ru ct) ⟨[v],[]⟩=pure [(p,v)])(s:M0)(v:M6):BindsTo s fd ⟨[v],[]⟩ [(p,v)]:=by
 obtain⟨oc,od,kV,doc,pm,an,Ru,ct,UK,rfl,lk,R9⟩:=F.ex
 exact .of_eq (h ..)
def Bs(sc:QP)(x:Str):Bool:=match sc.names.lookup x with
 |some .local=>Qt
 |some .cell=>Qt
 |_=>Qf
def aC{sc:QP}(h:Bs sc x=Qt):L2.Loc sc x:=by
 unfold Bs at h
 unfold L2.Loc
 cases e:sc.names.lookup x with
 |none=>rw[e]at h;cases h
 |some k=>rw[e]at h;cases k<;>first | exact .inl rfl | exact .inr rfl | cases h
end DL
namespace L2
open PySem.Spec
theorem Inv.zbN{fp:Ql U1}{a:U1}{o:HO}(I:Inv X pins σ H s)(k:∀b u,b∉fp->s.heap.get? b=Qs u->h'.get? b=Qs u)(hf:∀b∈fp,fK X pins H b)(hp:s.heap.objs.size<=a)
  (new:SJ X.prog X.w (upd H a o) h' a o):Inv X pins σ (upd H a o) { s with heap:=h',toks:=t' }:=by
 have ha:H a=Qn:=I.Rw.fresh hp
 have sm:∀b u,H b=Qs u->upd H a o b=Qs u:=λb u e=>by rw[aN (λz=>by rw[z,ha]at e;cases e)];exact e
 have Xg:∀b u,H b=Qs u->b∉fp:=λb u e z=>by rw[(hf b z).1]at e;cases e
 refine I.step (g':=s.gens) (d':=s.drawn) (ch:=fp) (λb hb=>?_) (λb u _ _ hc e _=>k b u hc e) (λb u _ _ hc e _=>⟨u.slots,k b u hc e⟩) (λb u _ e n=>?_)
  (λb u hc e=>⟨u,k b u hc e⟩) (λb xs e=>sm b _ e) (λb q u e=>sm b _ e) (λb ps e=>sm b _ e) (λm hm=>?_) (λb u e=>?_) I.bare
 .obtain⟨f0,f1,f2,f3,f4,f5⟩:=hf b hb
  exact⟨f3,f1,f4,f5⟩
 .rw[aN (NC (Nb (Nf e) hp))];exact n
 .obtain⟨q,es,ep,ho,r⟩:=hm
  exact⟨q,es,ep,k _ q (λz=>(hf _ z).2.1 rfl) ho,r⟩
 .by_cases z:b=a
  .subst z
   rw[bF]at e
   cases e
   exact new
  .rw[aN z]at e
   refine(I.Rw b u e).Vj (λc v hc q=>k c v ?_ q) (λc q=>sm c _ q) (λc xs q=>sm c _ q) λc o u q=>sm c _ q
   rcases hc with w | w
   .rw[w];exact Xg b u e
   .exact Xg c _ w
theorem Inv.zbO{fp:Ql U1}(I:Inv X pins σ H s)(k:∀b u,b∉fp->s.heap.get? b=Qs u->h'.get? b=Qs u)(hf:∀b∈fp,fK X pins H b):Inv X pins σ H { s with heap:=h',toks:=t' }:=by
 have Xg:∀b u,H b=Qs u->b∉fp:=λb u e z=>by rw[(hf b z).1]at e;cases e
 refine I.step (g':=s.gens) (d':=s.drawn) (ch:=fp) (λb hb=>?_) (λb u _ _ hc e _=>k b u hc e) (λb u _ _ hc e _=>⟨u.slots,k b u hc e⟩) (λb u _ e n=>n)
  (λb u hc e=>⟨u,k b u hc e⟩) (λb xs e=>e) (λb q u e=>e) (λb ps e=>e) (λm hm=>?_) (λb u e=>?_) I.bare
 .obtain⟨f0,f1,f2,f3,f4,f5⟩:=hf b hb
  exact⟨f3,f1,f4,f5⟩
 .obtain⟨q,es,ep,ho,r⟩:=hm
  exact⟨q,es,ep,k _ q (λz=>(hf _ z).2.1 rfl) ho,r⟩
 .refine(I.Rw b u e).Vj (λc v hc q=>k c v ?_ q) (λc q=>q) (λc xs q=>q) λc o u q=>q
  rcases hc with w | w
  .rw[w];exact Xg b u e
  .exact Xg c _ w
def pT(K:MK)(a:U1):It :=
 ⟨λi H => ∃xs x,Rm K H a xs/\xs[i]?=Qs x,λi H x H' => ∃p v,H p=Qn/\x=.ref p/\H'=upd H p (.tup [.int i,v])/\∀xs,Rm K H a xs->xs[i]?=Qs v,λi H => ∃xs,Rm K H a xs/\xs.length<=i⟩
def DQ(e it a:U1)(i:Nat)(h:U2):Prop:=(∃old,IsEnum h e it (i:Int) old)/\h.IsListIter it a i/\e≠it
theorem Eo{elts:Ql U3}{k:Nat}(a e it:U1):Turn P w K (.Tuple elts k pos) (pT K a) [e,it] e (DQ e it a) where
 mem:=by simp
 obj:=λi h st b hb=>by
  obtain⟨⟨old,h1⟩,h2,_⟩:=st
  rcases(by simpa using hb:b=e\/b=it) with rfl | rfl
  .exact⟨_,h1,λv z=>by cases z⟩
  .obtain⟨o,e1,c,d⟩:=h2
   exact⟨o,e1,λv z=>by rw[d]at z;cases z⟩
 keep:=λi h h' st kk=>by
  obtain⟨⟨old,h1⟩,h2,ne⟩:=st
  exact⟨⟨old,kk e (by simp) _ h1⟩,h2.at λo q=>kk it (by simp) o q,ne⟩
 item:=by
  intro X hP hw hK hc i pins s σ H E I hf st hg
  subst hP hw hK
  obtain⟨xs,x,hq,hx⟩:=hg
  obtain⟨Q7,rv,p,hz⟩:=I.list hq
  obtain⟨u,hu,ru⟩:=rv.get hx
  obtain⟨⟨old,h1⟩,h2,ne⟩:=st
  refine wpAny_pyNext_enum_item h1 h2 p.isList (x:=u) (by simpa using hu) ne λT5 VR zdF ht1 hz1 hk1=>?_
  refine⟨_,rfl,wpAny_letOwnedTupleGo_enum VR λSH he2 UO=>?_⟩
  replace UO:Heap.SameBut e T5 SH:=UO
  have es:e<s.heap.objs.size:=Nf h1
  have kp:∀b o,b∉[e,it]->s.heap.get? b=Qs o->SH.get? b=Qs o:=λb o nb q=>by
   have n1:b≠e:=λz=>nb (by simp[z])
   have n2:b≠it:=λz=>nb (by simp[z])
   exact(UO.2 b n1).trans (hk1 b o n1 n2 q)
  have X7:SH.get? s.heap.objs.size=Qs { cls:=.type "tuple",data:=.seq #[.int i s.toks,u] }:=(UO.2 _ (Py es)).trans ht1
  have I2:Inv X pins σ (upd H s.heap.objs.size (.tup [.int i,x])) { s with heap:=SH,toks:=s.toks+1 }:=I.zbN (t':=s.toks+1) kp hf (MZ _)
   ⟨by show 2<=Nn;decide,[.int i s.toks,u],.cons ⟨_,rfl⟩ (.cons ru .nil),⟨_,X7,rfl,_,rfl⟩⟩
  refine⟨.ref s.heap.objs.size,_,I2,rfl,⟨s.heap.objs.size,x,I.Rw.fresh (MZ _),rfl,rfl,λys hy=>by rw[I.YO hy hq];exact hx⟩,⟨⟨u,?_⟩,?_,ne⟩,λb hb=>?_⟩
  .exact he2
  .exact zdF.extBut UO.extBut (Ne.symm ne)
  .rw[aN (λz=>?_)]
   .exact(hf b hb).1
   .rcases(by simpa using hb:b=e\/b=it) with w' |w'
    .rw[<-z,w']at es;exact absurd es (Oo _)
    .obtain⟨o,e1,_⟩:=h2
     have:=Nf e1
     rw[<-w',z]at this;exact absurd this (Oo _)
 done:=by
  intro X hP hw hK hc i pins s σ H E I hf st hg
  subst hP hw hK
  obtain⟨xs,hq,hx⟩:=hg
  obtain⟨Q7,rv,p,hz⟩:=I.list hq
  obtain⟨⟨old,h1⟩,h2,ne⟩:=st
  have hl:=rv.length
  refine wpAny_pyNext_enum_end (I.ok.hd hc) h1 h2 p.isList (by simp;lia) λh' eb=>⟨rfl,I.zbO (t':=s.toks) (λb o nb q=>eb b o (λz=>nb (by simp[z])) q) hf⟩
 self:=λ_ _ _ _ _ st h=>by
  obtain⟨⟨old,h1⟩,_,_⟩:=st
  exact wpAny_pyIter_enum h1 h
def K1(K:MK)(tl:TE):TI:=λσ H R=>tl σ H λx H1 => ∃a,x=.ref a/\(∃xs,Rm K H1 a xs)/\R (pT K a) H1
theorem Mc:bootBuiltins "enumerate"=Qs (.type "enumerate"):=by decide +kernel
theorem Al{l:U3}{tl:TE}{elts:Ql U3}{k:Nat}{tp p:Pos}(hg:Gl X "enumerate")(hm:X.mg "enumerate"=Qn)(hl:PE X l tl)(hs:Na [l] X.env=[(Qf,eval l X.env)]:=by rfl) :
  PI X (.Tuple elts k tp) (.Call (.Name "enumerate" p) [l] [] pos) (K1 X.K tl):=by
 intro pins s σ H R I h
 refine Call_ (kJ I hg hm Mc (PyProof.Rows.callWith_type1 (aG ((gI hl gH hs) pos pins s σ H (λvs H1=>match vs with | [x] => ∃a,x=.ref a/\(∃xs,Rm X.K H1 a xs)/\R (pT X.K a) H1 | _=>False) I h) λus s1 ⟨vs,H1,I1,r1,q1⟩=>?_) hs rfl))
 cases r1 with
 |nil=>exact q1.elim
 |@cons x u xr ur ru rr =>
  cases rr with
  |cons _ _=>exact q1.elim
  |nil =>
  obtain⟨a,rfl,⟨xs,hq⟩,q⟩:=q1
  cases ru
  obtain⟨Q7,rv,p,hz⟩:=I1.list hq
  refine call_enumerate_list p.isList λh' he hit V8 hk=>?_
  have I2:Inv X pins σ H1 { s1 with heap:=h' }:=I1.kept (t':=s1.toks) hk
  refine wpAny_pyIter_enum he ?_
  refine⟨s1.heap.objs.size+1,[s1.heap.objs.size+1,s1.heap.objs.size],DQ (s1.heap.objs.size+1) s1.heap.objs.size a,pT X.K a,H1,rfl,I2,Eo a _ _,⟨⟨_,he⟩,hit,Nat.succ_ne_self _⟩,λb hb=>?_,q⟩
  rcases(by simpa using hb:b=s1.heap.objs.size+1\/b=s1.heap.objs.size) with rfl | rfl
  .exact I1.Wo (QI _) (I1.Rw.fresh (QI _))
  .exact I1.Wo (MZ _) (I1.Rw.fresh (MZ _))
end L2
namespace DL
open PySem.Spec L2
def cP(i:Nat):Ql D->Ql D
 |[]=>[]
 |d::ds=>.tup [.int i,d]::cP (i+1) ds
def kY:∀(i:Nat) (ds:Ql D),(cP i ds).length=ds.length
 |_,[]=>rfl
 |i,d::ds=>by simp[cP,kY (i+1) ds]
def xH:∀(i:Nat) (ds:Ql D) (j:Nat) (d:D),ds[j]?=Qs d->(cP i ds)[j]?=Qs (.tup [.int ((i+j:Nat):Int),d])
 |_,[],j,d,h=>by simp at h
 |i,e::ds,0,d,h=>by simp at h;subst h;simp[cP]
 |i,e::ds,j+1,d,h=>by
  have:=xH (i+1) ds j d (by simpa using h)
  simp only[cP,Ow,this]
  rw[show i+1+j=i+(j+1) by lia]
def o8(k:D->Th->Qo Th)(f:DE)(body:DS):DS:=λt=>(f t).bind λr=>match r.d with
 |.lst ds=>if r.ok then bQ k body (cP 0 ds) t else Qn
 |_=>Qn
def G4{elts:Ql U3}{kk:Nat}{tp:Pos}(hp:PassesOwn (model X.prog X.w) X.A X.env X.xe)(hc:X.calm=Qt)(Va:Gl X "enumerate")(hm:X.mg "enumerate"=Qn)(hl:PE X a (dE X.K F fa))(hg:PG X (.Tuple elts kk tp) gt)(ht:c8 X.K F gt kt)(hb:RU X body (dS X.K F g))
  (Sf:Na [a] X.env=[(Qf,eval a X.env)]:=by rfl) (hs:∀x,foldedSetIterable (.Call (.Name "enumerate" p1) [a] [] p2) X.env x=pure x:=by intro _;rfl):PS X (.For (.Tuple elts kk tp) (.Call (.Name "enumerate" p1) [a] [] p2) body [] pos) (dS X.K F (o8 kt fa g)):=by
 refine PS.imp (ku hp hc (Al Va hm hl Sf) hg hb hs) ?_
 intro E σ H hh
 obtain⟨A,t,o,R,e,h⟩:=j8 hh
 unfold o8 at e
 refine aB e λr e1 e=>?_
 refine⟨A,t,r,R,e1,λv H1 gs q=>?_⟩
 have e:(match r.d with
  |.lst ds=>if r.ok then bQ kt g (cP 0 ds) t else Qn
  |_=>Qn)=Qs o:=e
 split at e
 case h_2=>cases e
 rename_i ds z
 refine bZ e λok e=>?_
 have cl:=q.clean R.mu gs ok
 rw[z]at cl
 cases cl with
 |@lst _ p vs h1 h2 =>
  refine⟨p,rfl,⟨vs,Rm.mono (aV _ _) h1⟩,?_⟩
  refine xA (λA H=>Rm X.K (ah (A++F) H) p vs/\QV X.K (ah (A++F) H) ds vs) ht (R.grow gs) e (h.back (Gr.of_same R.mu.left gs)) ⟨h1,h2⟩ (λA H A' H' q gr=>⟨Rm.mono gr.same q.1,QV.mono gr.same q.2⟩)
   (λA H q=>⟨vs,Rm.mono (aV _ _) q.1,by rw[h2.length,kY];exact MZ _⟩) (λA H i q hi=>?_) (λA H i x H' q mu y hi=>?_)
  .have VP:i<vs.length:=by rw[h2.length];rw[kY]at hi;exact hi
   exact⟨vs,vs[i],Rm.mono (aV _ _) q.1,MR VP⟩
  .obtain⟨l,v,Wd,rfl,rfl,hv⟩:=y
   have zz:=hv vs (Rm.mono (aV _ _) q.1)
   obtain⟨d,hd,rd⟩:=q.2.UT zz
   have sm:=dW (o:=HO.tup [.int i,v]) Wd
   refine⟨sm,_,xH 0 ds i d hd,?_⟩
   rw[O4]
   exact .tup (RQ.of (bw bF (dZ mu Wd))) (.cons (.int _) (.cons (Rep.mono (cT sm) rd) .nil))
end DL
namespace L2
open PySem.Spec
def d7(cells:Ql (Str×U1)):Ql (Str×Ou)->Ql (Str×U1)->Ql (Str×U1)
 |[],acc=>acc
 |(n,k)::r,acc=>if k == .free then d7 cells r ((n,(cells.lookup n).getD 0)::acc) else d7 cells r acc
theorem x8{cells:Ql (Str×U1)}:∀{names:Ql (Str×Ou)}{acc:Ql (Str×U1)}{x:Str}{c:U1},(∀y∈names,y.2=.free->∃c,cells.lookup y.1=Qs c)->(d7 cells names acc).lookup x=Qs c->acc.lookup x=Qs c\/cells.lookup x=Qs c
 |[],acc,x,c,_,h=>.inl h
 |(n,k)::r,acc,x,c,hy,h=>by
  unfold d7 at h
  have hr:∀y∈r,y.2=.free->∃c,cells.lookup y.1=Qs c:=λy h1=>hy y (MM _ h1)
  split at h
  .rename_i hk
   rcases x8 hr h with z | z
   .rw[NB]at z
    split at z
    .rename_i e
     have e:x=n:=by simpa using e
     obtain⟨c',Ud⟩:=hy (n,k) (MN ..) (by simpa using hk)
     simp only[Ud,Q0]at z
     cases z
     rw[e];exact .inr Ud
    .exact .inl z
   .exact .inr z
  .exact x8 hr h
theorem x6{cells:Ql (Str×U1)}:∀{names:Ql (Str×Ou)}{acc:Ql (Str×U1)}{x:Str},(∃c,acc.lookup x=Qs c)->∃c,(d7 cells names acc).lookup x=Qs c
 |[],acc,x,h=>h
 |(n,k)::r,acc,x,h=>by
  unfold d7
  split
  .refine x6 ?_
   rw[NB]
   split
   .exact⟨_,rfl⟩
   .exact h
  .exact x6 h
theorem uj{cells:Ql (Str×U1)}:∀{names:Ql (Str×Ou)}{acc:Ql (Str×U1)}{x:Str},(x,NK)∈names->∃c,(d7 cells names acc).lookup x=Qs c
 |(n,k)::r,acc,x,h=>by
  unfold d7
  rcases MQ.mp h with z | z
  .cases z
   rw[QO (by rfl)]
   refine x6 ⟨(cells.lookup n).getD 0,?_⟩
   simp[NB]
  .split
   .exact uj z
   .exact uj z
theorem C7 (h:∀y∈scope.names,y.2=.free->∃c,env.cells.lookup y.1=Qs c):closureFor scope env=pure (d7 env.cells scope.names []):=by
 unfold closureFor
 have key:∀(names:Ql (Str×Ou)) (acc:Ql (Str×U1)),(∀y∈names,y.2=.free->∃c,env.cells.lookup y.1=Qs c) ->
   (forIn names acc λ(x:Str×Ou) (cs:Ql (Str×U1))=>(do
    if x.2 == .free then
     let a <-cellOf env x.1
     pure (NF ((x.1,a)::cs))
    else pure (NF cs):Sem (ForInStep (Ql (Str×U1)))))=pure (d7 env.cells names acc):=by
  intro names
  induction names with
  |nil=>intro acc _;rfl
  |cons y r ih =>
   intro acc hy
   obtain⟨n,k⟩:=y
   have hr:∀y∈r,y.2=.free->∃c,env.cells.lookup y.1=Qs c:=λy h1=>hy y (MM _ h1)
   rw[List.forIn_cons]
   unfold d7
   by_cases hk:(k == NK)=Qt
   .obtain⟨c,hc⟩:=hy (n,k) (MN ..) (by simpa using hk)
    have Ud:cellOf env n=pure c:=by unfold cellOf;rw[hc]
    simp only[hk,if_true,Ud]
    rw[<-ih _ hr]
    simp only[hc,Q0]
    rfl
   .have Y6:(k == NK)=Qf:=by simpa using hk
    simp only[Y6,Nq,if_false]
    rw[<-ih _ hr]
    rfl
 have:=key scope.names [] h
 simp only[bind_pure_comp]at this ⊢
 rw[this]
 rfl
theorem nL{env:Env}:∀{names:Ql (Str×Ou)}{x:Str}{k':Ou},(names.map λ(n,k)=>if(k == NK&&env.scope.kind == .function&&env.kindOf n == Qs .cell) then(n,Ot) else(n,k)).lookup x=Qs k' ->
  ∃k,(x,k)∈names/\(k'=k\/(k=.free/\k'=.cell))
 |[],x,k',h=>by simp at h
 |(n,k)::r,x,k',h=>by
  rw[M4]at h
  by_cases hc:(k == NK&&env.scope.kind == .function&&env.kindOf n == Qs .cell)=Qt
  .simp only[hc,if_true,NB]at h
   split at h
   .rename_i e
    have e:x=n:=by simpa using e
    cases h
    simp only[MX,beq_iff_eq]at hc
    have hk:k=.free:=by simpa using hc.1.1
    exact⟨k,by rw[e];exact MN ..,.inr ⟨hk,rfl⟩⟩
   .obtain⟨q,a,b⟩:=nL h
    exact⟨q,MM _ a,b⟩
  .have Ud:(k == NK&&env.scope.kind == .function&&env.kindOf n == Qs .cell)=Qf:=by simpa using hc
   simp only[Ud,Nq,if_false,NB]at h
   split at h
   .rename_i e
    have e:x=n:=by simpa using e
    cases h
    exact⟨_,by rw[e];exact MN ..,.inl rfl⟩
   .obtain⟨q,a,b⟩:=nL h
    exact⟨q,MM _ a,b⟩
theorem LQ{A:Ol}{R:Result->M0->Prop}{target:U3}{it acc:M6}(I:Nat->M0->Prop)
  (turn:∀n s,I n s->wpAny (model prog w) A (pyNext it) (λr s₁=>match r with
   |none=>R (.ok .next) s₁
   |some v=>wpAny (model prog w) A (letOwnedTupleGo target it v) (λ_ ZW=>wpAny (model prog w) A (assign target env v) (λ_ s₂ =>
     wpAny (model prog w) A (forIn ifs Qt λc r=>if r=Qt then do let ok <-isTrue c env (eval c env);pure (NF ok) else pure (NF r)) (λok s₃ =>
      if ok=Qt then wpAny (model prog w) A (eval elt env) (λx s₄ =>
       wpAny (model prog w) A (call (.builtin "list.append") [acc,x]) (λ_ s₅ => ∃m,m<n/\I m s₅) (λ_ _=>False) s₄) (λ_ _=>False) s₃
      else ∃m,m<n/\I m s₃) (λ_ _=>False) s₂) (λ_ _=>False) ZW) (λ_ _=>False) s₁) (λ_ _=>False) s)
  (n:Nat) (h:I n s):codeAny (model prog w) A (.compLoop (.ListComp elt [⟨target,iter,ifs,0⟩] scope pos) 0 it acc env) R s:=by
 refine codeAny_loop rfl I (λn s hI=>?_) n h
 show wpAny _ A ((compTurn (.ListComp elt [⟨target,iter,ifs,0⟩] scope pos) 0 it acc env).onRaise (λx=>do noteFrame x env;theTreesLotGoes x)) _ _ s
 refine wpAny_noted ?_
 rw[compTurn_list]
 refine MT (wpAny_standAt (MT (wpAny_mono (turn n s hI) (λr s₁ h₁=>?_) λ_ _ h'=>h'.elim)))
 cases r with
 |none=>exact Nc h₁
 |some v =>
  refine MT (wpAny_mono h₁ (λ_ ZW h₁'=>?_) λ_ _ h'=>h'.elim)
  refine MT (wpAny_mono h₁' (λ_ s₂ h₂=>MT (wpAny_mono h₂ (λok s₃ h₃=>?_) λ_ _ h'=>h'.elim)) λ_ _ h'=>h'.elim)
  cases ok with
  |false=>exact Nc ⟨rfl,h₃⟩
  |true =>
   exact MT (MT (wpAny_mono h₃ (λx s₄ h₄=>MT (wpAny_mono h₄ (λ_ s₅ h₅=>Nc (Nc ⟨rfl,h₅⟩)) λ_ _ h'=>h'.elim)) λ_ _ h'=>h'.elim))
theorem yi{x:Str}{c:U1}:∀{names:Ql (Str×Ou)}{n:Nat}{acc:Ql (Str×U1)},(cellsFrom n names acc).lookup x=Qs c->acc.lookup x=Qs c\/n<=c
 |[],n,acc,h=>.inl h
 |(y,k)::r,n,acc,h=>by
  unfold cellsFrom at h
  split at h
  .rcases yi h with z | z
   .rw[NB]at z
    split at z
    .cases z;exact .inr (MZ _)
    .exact .inl z
   .exact .inr (by lia)
  .exact yi h
theorem uk{x:Str}:∀{names:Ql (Str×Ou)}{n:Nat}{acc:Ql (Str×U1)},(∃c,acc.lookup x=Qs c)->∃c,(cellsFrom n names acc).lookup x=Qs c
 |[],n,acc,h=>h
 |(y,k)::r,n,acc,h=>by
  unfold cellsFrom
  split
  .refine uk ?_
   rw[NB]
   split
   .exact⟨_,rfl⟩
   .exact h
  .exact uk h
theorem ya{x:Str}:∀{names:Ql (Str×Ou)}{n:Nat}{acc:Ql (Str×U1)},(x,Ot)∈names->∃c,(cellsFrom n names acc).lookup x=Qs c
 |(y,k)::r,n,acc,h=>by
  unfold cellsFrom
  rcases MQ.mp h with z | z
  .cases z
   rw[QO (by rfl)]
   exact uk ⟨n,by simp[NB]⟩
  .split
   .exact ya z
   .exact ya z
theorem yg{x:Str}{c:U1}{lo:Nat}:∀{names:Ql (Str×Ou)}{n:Nat}{acc:Ql (Str×U1)},lo<=n->(∀c,acc.lookup x=Qs c->lo<=c)->(cellsFrom n names acc).lookup x=Qs c->lo<=c
 |[],n,acc,_,ha,h=>ha c h
 |(y,k)::r,n,acc,hn,ha,h=>by
  unfold cellsFrom at h
  split at h
  .refine yg (n:=n+1) (by lia) (λc' h'=>?_) h
   rw[NB]at h'
   split at h'
   .cases h';exact hn
   .exact ha c' h'
  .exact yg hn ha h
theorem yd{x:Str}{c:U1}:∀{names:Ql (Str×Ou)}{n:Nat}{acc:Ql (Str×U1)},(x,Ot)∈names->(cellsFrom n names acc).lookup x=Qs c->n<=c
 |(y,k)::r,n,acc,hm,h=>by
  unfold cellsFrom at h
  rcases MQ.mp hm with z | z
  .cases z
   rw[QO (by rfl)]at h
   refine yg (lo:=n) (n:=n+1) (by lia) (λc' h'=>?_) h
   rw[NB,beq_self_eq_true]at h'
   cases h'
   exact MZ _
  .split at h
   .have:=yd z h;lia
   .exact yd z h
theorem yb{x:Str}:∀{names:Ql (Str×Ou)}{n:Nat}{acc:Ql (Str×U1)},(x,Ot)∉names->(cellsFrom n names acc).lookup x=acc.lookup x
 |[],n,acc,_=>rfl
 |(y,k)::r,n,acc,h=>by
  have hr:(x,Ot)∉r:=λz=>h (MM _ z)
  unfold cellsFrom
  split
  .rename_i hk
   rw[yb hr,NB]
   split
   .rename_i e
    exact absurd (MQ.mpr (.inl (by rw[show x=y by simpa using e,show k=Ot by simpa using hk]))) h
   .rfl
  .exact yb hr
theorem yf:∀{names:Ql (Str×Ou)}{n:Nat}{acc:Ql (Str×U1)},(∀x c,acc.lookup x=Qs c->c<n)->(∀x y c,acc.lookup x=Qs c->acc.lookup y=Qs c->x=y) ->
  ∀x y c,(cellsFrom n names acc).lookup x=Qs c->(cellsFrom n names acc).lookup y=Qs c->x=y
 |[],n,acc,_,hi=>hi
 |(z,k)::r,n,acc,hb,hi=>by
  unfold cellsFrom
  split
  .refine yf (n:=n+1) (λx c h=>?_) (λx y c h1 h2=>?_)
   .rw[NB]at h
    split at h
    .cases h;exact NP _
    .exact P5 (hb x c h)
   .rw[NB]at h1 h2
    split at h1
    .rename_i e1
     cases h1
     split at h2
     .rename_i e2;rw[show x=z by simpa using e1,show y=z by simpa using e2]
     .exact absurd (hb y _ h2) (Oo _)
    .split at h2
     .cases h2;exact absurd (hb x _ h1) (Oo _)
     .exact hi x y c h1 h2
  .exact yf hb hi
theorem yh{x:Str}{c:U1}:∀{names:Ql (Str×Ou)}{h:U2}{acc:Ql (Str×U1)},(∀c,acc.lookup x=Qs c->∃v,h.IsCell c v)->(cellsFrom h.objs.size names acc).lookup x=Qs c->∃v,(pushCells h names).IsCell c v
 |[],h,acc,ha,e=>ha c e
 |(y,k)::r,h,acc,ha,e=>by
  unfold cellsFrom at e
  unfold pushCells
  split at e
  .rename_i hk
   rw[QO hk]
   rw[show h.objs.size+1=(h.push { cls:=.type "cell",data:=.cell Qn }).objs.size from(Pq ..).symm]at e
   refine yh (λc' e'=>?_) e
   rw[NB]at e'
   split at e'
   .cases e';exact⟨Qn,_,Nh _ rfl,rfl⟩
   .obtain⟨v,z⟩:=ha c' e'
    exact⟨v,z.keeps λb o q=>MV _ q⟩
  .rename_i hk
   rw[QU hk]
   exact yh ha e
theorem D7{A:Ol}{globals:U1}{cl:Ql (Str×U1)}{func:Qo U1}{code:M6}{builtins:U1}{Q:Env->M0->Prop}
  (hQ:∀h',h'.Ns s.heap.objs.size (λ_=>Qn)->(∀b o,s.heap.get? b=Qs o->h'.get? b=Qs o)->(∀x c,(∀c,cl.lookup x=Qs c->∃v,s.heap.IsCell c v)->(cellsFrom (s.heap.objs.size+1) scope.names cl).lookup x=Qs c->∃v,h'.IsCell c v) ->
   Q (newEnv scope s.heap.objs.size globals (cellsFrom (s.heap.objs.size+1) scope.names cl) qual func code (Qs env) builtins) { s with heap:=h',toks:=s.toks }) :
  wpAny M A (newFunctionEnv scope globals cl [] qual func code (Qs env) builtins) Q E s:=by
 simp only[newFunctionEnv,QJ,if_true]
 refine MT (wpAny_alloc ?_)
 refine MT (wpAny_layCells _ (λname kind cells=>by cases hkc:kind == Ot<;>simp[hkc]) _ _ _ _ ?_)
 have sz:(s.heap.push { cls:=.type "dict",data:=.dict #[] }).objs.size=s.heap.objs.size+1:=Pq ..
 rw[show({ s with heap:=s.heap.push { cls:=.type "dict",data:=.dict #[] } }:M0).heap.objs.size=s.heap.objs.size+1 from sz]
 rw[List.forIn_nil]
 refine MT (Nc (Nc ?_))
 refine hQ _ ((Heap.Ns.new s.heap (.type "dict")).keeps (pushCells_keeps _ _)) (λb o e=>pushCells_keeps _ _ b o (MV _ e)) λx c ha e=>?_
 rw[<-sz]at e
 exact yh (λc' e'=>let ⟨v,z⟩:=ha c' e';⟨v,z.keeps λb o q=>MV _ q⟩) e
abbrev bS(X:Cx)(N':Ql Str)(scope:QP)(C:U1)(s₃:M0)(H₃:Hp)(fp:Ql U1)(pins:Ql (U1×Obj)):Cx :=
 { X with N:=N',s₀:=s₃,H₀:=H₃,env:=compEnvC scope (cellsFrom (C+1) scope.names (d7 X.env.cells scope.names [])) C X.env,outer:=X.stack,stack:=X.stack,ex:=fp,fn:=λx=>scope.names.lookup x == Qs .cell,calm:=Qt,pn:=X.pn++pins,xe:=λ_ _=>False }
structure TK(X:Cx)(scope:QP):Prop where
 kind:scope.kind=.function
 free:∀y∈scope.names,y.2=.free->X.env.kindOf y.1=Qs .cell\/X.env.kindOf y.1=Qs .free
 names:∀y∈scope.names,scope.names.lookup y.1=Qs y.2
section
variable {fp:Ql U1}
theorem TK.frees(S:TK X scope)(ok:X.Ok):∀y∈scope.names,y.2=.free->∃c,X.env.cells.lookup y.1=Qs c:=λy hy hf=>ok.has y.1 (S.free y hy hf)
theorem TK.cells(S:TK X scope)(ok:X.Ok){x:Str}{c:U1}(h:(d7 X.env.cells scope.names []).lookup x=Qs c):X.env.cells.lookup x=Qs c:=by
 rcases x8 (S.frees ok) h with z | z
 .simp at z
 .exact z
theorem TK.nc(S:TK X scope) (h:(x,NK)∈scope.names):(x,Ot)∉scope.names:=λz=>by
 have w1:=S.names _ h
 have w2:=S.names _ z
 rw[show(x,Ot).1=(x,NK).1 from rfl,w1]at w2
 cases w2
theorem TK.cls(S:TK X scope)(I:Inv X pins σ H s){c:U1}(h:(d7 X.env.cells scope.names []).lookup x=Qs c):c<s.heap.objs.size:=by
 obtain⟨v,o,ho,_⟩:=I.cell x c (S.cells I.ok h)
 exact Nf ho
theorem TK.old(S:TK X scope)(I:Inv X pins σ H s){c:U1}(h:(cellsFrom (s.heap.objs.size+1) scope.names (d7 X.env.cells scope.names [])).lookup x=Qs c):X.env.cells.lookup x=Qs c\/s.heap.objs.size<c:=by
 rcases yi h with z | z
 .exact .inl (S.cells I.ok z)
 .exact .inr z
theorem Mj(I:Inv X pins σ H s)(S:TK X scope)(hc:X.calm=Qt)(hf:∀b∈fp,fK X pins H b)(Vs:∀b∈fp,b<s.heap.objs.size):(bS X N' scope s.heap.objs.size s H fp pins).Ok where
 mod:=I.ok.mod
 kind:=S.kind
 glob:=I.ok.glob
 blt:=I.ok.blt
 above:=MZ _
 inj:=yf (λx c h=>P5 (S.cls I h)) λx y c h1 h2=>I.ok.inj x y c (S.cells I.ok h1) (S.cells I.ok h2)
 has:=λx hx=>by
  have hx:(relabel scope X.env).names.lookup x=Qs .cell\/(relabel scope X.env).names.lookup x=Qs .free:=hx
  have:(x,NK)∈scope.names\/(x,Ot)∈scope.names:=by
   rcases hx with hx | hx
   .obtain⟨k,a,b⟩:=nL hx
    rcases b with b | b
    .rw[<-b]at a;exact .inr a
    .rw[b.1]at a;exact .inl a
   .obtain⟨k,a,b⟩:=nL hx
    rcases b with b | b
    .rw[<-b]at a;exact .inl a
    .cases b.2
  rcases this with z | z
  .exact uk (uj z)
  .exact ya z
 WX:=λx c h e=>by
  have h:(scope.names.lookup x == Qs Ot)=Qt:=h
  have h:scope.names.lookup x=Qs .cell:=by simpa using h
  exact Nat.le_of_succ_le (yd (PySem.mem_of_lookup h) e)
 hd:=λ_=>I.ok.hd hc
 frames:=I.ok.frames
 Xa:=.inl rfl
 Zi:=λb hb=>⟨NC (Vs b hb),λx c h=>by
  rcases S.old I h with z | z
  .exact(hf b hb).2.2.2.2.1 x c z
  .exact Py (QY (Vs b hb) z)⟩
 bs:=λb o e=>I.bs b o e
 Ve:=NG I.ok.Ve I.sz
 WJ:=λb o e hb=>by
  rcases(hf b hb).2.2.2.1 with z | z
  .exact I.ok.WJ b o e z
  .exact absurd (Nb (Nf e) (NG I.ok.Ve z)) (Oo _)
 Xz:=λb hb z=>(MQ.mp (I.W9 b z)).elim (hf b hb).2.1 (hf b hb).2.2.1
 Ur:=I.stack
 VU:=I.ZZ
 tabs:=λp hp=>I.base.Uk _ _ (I.ok.tabs p hp)
theorem Ml(I:Inv X pins σ H s)(S:TK X scope)(hc:X.calm=Qt)(hf:∀b∈fp,fK X pins H b)(Vs:∀b∈fp,b<s.heap.objs.size){h1:U2}{t1:Nat}{m:Str->Qo M6}
  (VM:h1.Ns s.heap.objs.size m) (hk:∀b o,s.heap.get? b=Qs o->h1.get? b=Qs o) (hcl:∀x c,(∀c,(d7 X.env.cells scope.names []).lookup x=Qs c->∃v,s.heap.IsCell c v)->(cellsFrom (s.heap.objs.size+1) scope.names (d7 X.env.cells scope.names [])).lookup x=Qs c->∃v,h1.IsCell c v) (hl:σ'.length=N'.length)
  (cap:∀(i:Nat) (x:Str) (v:V),N'[i]?=Qs x->σ'[i]?=Qs (Qs v)->(x,NK)∈scope.names/\∃j:Nat,X.N[j]?=Qs x/\σ[j]?=Qs (Qs v)) :
  Inv (bS X N' scope s.heap.objs.size s H fp pins) [] σ' H { s with heap:=h1,toks:=t1 } where
 ok:=Mj I S hc hf Vs
 os:=rfl
 bare:=I.bare
 base:=Un.kept hk
 loc:=⟨m,VM,λi x v e1 e2 vs=>by
  obtain⟨VQ,j,j1,j2⟩:=cap i x v e1 e2
  obtain⟨m0,hn0,Wd⟩:=I.loc
  have vis:dh X.env.scope x:=by
   rcases S.free _ VQ rfl with z | z
   .exact .inr (.inl z)
   .exact .inr (.inr z)
  obtain⟨u,r,l⟩:=Wd j x v j1 j2 vis
  refine⟨u,r,?_⟩
  rcases l with⟨k,_⟩ | ⟨k,c,e,z⟩
  .exfalso
   rcases S.free _ VQ rfl with q | q
   .rw[k]at q;cases q
   .rw[k]at q;cases q
  .obtain⟨c',Ud⟩:=uj (cells:=X.env.cells) (acc:=[]) VQ
   have e':=S.cells I.ok Ud
   rw[e]at e';cases e'
   refine .inr ⟨?_,c,by rw[show(bS X N' scope s.heap.objs.size s H fp pins).env.cells.lookup x=_ from yb (S.nc VQ)];exact Ud,?_⟩
   .have vs:(relabel scope X.env).names.lookup x=Qs .local\/(relabel scope X.env).names.lookup x=Qs .cell\/(relabel scope X.env).names.lookup x=Qs .free:=vs
    rcases vs with q | q
    .obtain⟨k2,a,b⟩:=nL q
     rcases b with b | b
     .rw[<-b]at a
      have w1:=S.names _ a
      have w2:=S.names _ VQ
      rw[show(x,NameKind.local).1=(x,NK).1 from rfl,w2]at w1
      cases w1
     .cases b.2
    .exact q
   .obtain⟨o,ho,hd⟩:=z
    exact⟨o,hk _ _ ho,hd⟩⟩
 cell:=λx c h=>hcl x c (λc' h'=>I.cell x c' (S.cells I.ok h')) h
 free:=I.Rw.fresh (MZ _)
 UU:=λx c h=>by
  rcases S.old I h with z | z
  .exact I.UU x c z
  .exact I.Rw.fresh (Px z)
 pin:=λp hp=>by
  have hp:p∈(X.pn++pins)++[]:=hp
  rw[Nt]at hp
  obtain⟨a,b,c,d,e⟩:=I.pin p hp
  exact⟨hk _ _ a,b,NC (Nf a),λz=>(MQ.mp (I.W9 _ z)).elim c d,e⟩
 Rw:=I.Rw.kept hk
 len:=hl
theorem Dj{H3:Hp}{s':M0}{WO:U2}{C:U1}{Ts:Ql (U1×Obj)}(I:Inv X pins σ H3 s)(hf:∀b∈fp,fK X pins H3 b)(hC:C=s.heap.objs.size)(I':Inv (bS X N' scope C s H3 fp pins) Ts σ' H' s')(hb:Heap.SameBut C s'.heap WO):Inv X pins σ H' { s' with heap:=WO }:=by
 subst hC
 have bs:Un (gP X.stack) fp H3 H' s.heap s'.heap:=I'.base
 have nC:∀b o,s.heap.get? b=Qs o->b≠s.heap.objs.size:=λb o e=>NC (Nf e)
 have tr:∀b,b≠s.heap.objs.size->WO.get? b=s'.heap.get? b:=λb n=>hb.2 b n
 have u:Un (gP X.stack) fp H3 H' s.heap WO :=
  ⟨λb o e n h1 h2=>(tr b (nC b o e)).trans (bs.keep b o e n h1 h2),λb o e n h1 h2=>by obtain⟨sl,q⟩:=bs.slot b o e n h1 h2;exact⟨sl,(tr b (nC b o e)).trans q⟩,bs.free,
   λb o e h1=>by obtain⟨o',q⟩:=bs.there b o e h1;exact⟨o',(tr b (nC b o e)).trans q⟩,bs.Vg,bs.Vb,bs.Uk⟩
 have cf:H' s.heap.objs.size=Qn:=I'.free
 have Rw:SA X.prog X.w H' WO:=λb o e=>by
  have nb:b≠s.heap.objs.size:=λz=>by rw[z,cf]at e;cases e
  refine(I'.Rw b o e).Vj (λc v hc q=>(tr c ?_).trans q) (λ_ q=>q) (λ_ _ q=>q) λ_ _ _ q=>q
  rcases hc with w | w
  .rw[w];exact nb
  .exact λz=>by rw[z,cf]at w;cases w
 obtain⟨h0,g0,d0,t0,o0⟩:=s'
 have e:o0=s.os:=I'.os
 subst e
 exact I.call (g':=g0) (t':=t0) (d':=d0) u Rw I'.bare λb Vw=>by
  obtain⟨f0,f1,f2,f3,f4,f5⟩:=hf b Vw
  exact⟨f3,f1,f4,f5⟩
end
def Tq(Y:Cx)(ifs:Ql U3)(t:TT):Prop :=
 ∀(pins:Ql (U1×Obj)) (s:M0) (σ:L2.St) (H:Hp) (Q:Bool->Hp->Prop),Inv Y pins σ H s->t σ H Q ->
  wpAny (model Y.prog Y.w) Y.A (forIn ifs Qt λc r=>if r=Qt then do let ok <-isTrue c Y.env (eval c Y.env);pure (NF ok) else pure (NF r)) (TP Y pins σ Q) Y.xe s
theorem z6 :Tq Y [] (λ_ H Q=>Q Qt H):=λpins s σ H Q I h=>wpAny_tests_nil ⟨H,I,h⟩
theorem GR{t:TT}(h:PT Y c t):Tq Y [c] t:=λpins s σ H Q I q=>wpAny_tests_one (h pins s σ H Q I q)
def ke(n:Nat)(cap:Ql Nat)(σ:L2.St):L2.St:=M8 n Qn++cap.map λj=>(σ[j]?).getD Qn
noncomputable def lO(n:Nat)(cap:Ql Nat)(wi:TI)(g:TG)(tt:TT)(te:TE):TE:=λσ H Q=>wi σ H λJ H1 => ∀D,H1 D=Qn->∃W:Nat->Nat->L2.St->Hp->Prop,(∃m,W 0 m (ke n cap σ) (upd H1 D (.lst [])))/\∀i m σ' H',W i m σ' H' ->
 (J.stop i H'/\Q (.ref D) H')\/(J.go i H'/\∃N:L2.St->Hp->Prop,(∀WB U0,N WB U0->∃m',m' < m/\W (i+1) m' WB U0)/\∀x H2,J.Td i H' x H2->g x σ' H2 λσ2 H3=>tt σ2 H3 λb H4 =>
  if b=Qt then te σ2 H4 λv H5 => ∃vs,H5 D=Qs (.lst vs)/\vs.length<Nn/\N σ2 (upd H5 D (.lst (vs++[v]))) else N σ2 H4)
theorem CZ{s2:M0}{V7:M6}{use:Qo (M6->Sem Unit)}{PQ:M6->M0->Prop}{g:TG}{tt:TT}(S:TK X scope)(hc:X.calm=Qt)
  (hN:N'.length=n+cap.length) (To:∀(k:Nat) (j:Nat),cap[k]?=Qs j->∃x,N'[n+k]?=Qs x/\X.N[j]?=Qs x/\(x,NK)∈scope.names)
  (hg:∀C s₃ H₃ fp pins,PG (bS X N' scope C s₃ H₃ fp pins) tg g) (ht:∀C s₃ H₃ fp pins,Tq (bS X N' scope C s₃ H₃ fp pins) ifs tt) (he:∀C s₃ H₃ fp pins,PE (bS X N' scope C s₃ H₃ fp pins) elt te)
  (fin:∀(C:U1) (s3:M0) (H3:Hp) (fp:Ql U1) (D:U1) (σ4:L2.St) (H4:Hp) (s4:M0) (f:Flow),Inv X pins σ H3 s3->(∀b∈fp,fK X pins H3 b)->C=s3.heap.objs.size->Inv (bS X N' scope C s3 H3 fp pins) [] σ4 H4 s4->Q (.ref D) H4->compPost (model X.prog X.w) X.A X.xe use PQ (.ref D) C (.ok f) s4)
  (h2:yC X pins σ tg (λJ H1 => ∀D,H1 D=Qn->∃W:Nat->Nat->L2.St->Hp->Prop,(∃m,W 0 m (ke n cap σ) (upd H1 D (.lst [])))/\∀i m σ' H',W i m σ' H' ->
 (J.stop i H'/\Q (.ref D) H')\/(J.go i H'/\∃N:L2.St->Hp->Prop,(∀WB U0,N WB U0->∃m',m' < m/\W (i+1) m' WB U0)/\∀x H2,J.Td i H' x H2->g x σ' H2 λσ2 H3=>tt σ2 H3 λb H4 =>
  if b=Qt then te σ2 H4 λv H5 => ∃vs,H5 D=Qs (.lst vs)/\vs.length<Nn/\N σ2 (upd H5 D (.lst (vs++[v]))) else N σ2 H4)) V7 s2) :
  wpAny (model X.prog X.w) X.A (newList []) (λacc s₃=>wpAny (model X.prog X.w) X.A (newFunctionEnv scope X.env.globals (d7 X.env.cells scope.names []) [] X.env.qual Qn .none (Qs X.env)) (λzbq s₄ =>
   codeAny (model X.prog X.w) X.A (.compStart (.ListComp elt [⟨tg,iter,ifs,0⟩] scope pos) 0 V7 acc { zbq with scope:=relabel scope X.env }) (compPost (model X.prog X.w) X.A X.xe use PQ acc zbq.locals) s₄) X.xe s₃) X.xe s2:=by
 obtain⟨it,fp,tn,J,H2,e,I2,T,Se,f2,R⟩:=h2
 subst e
 have lt2:∀b∈fp,b<s2.heap.objs.size:=λb hb=>by obtain⟨o,e,_⟩:=T.obj _ _ Se b hb;exact Nf e
 have hD:H2 s2.heap.objs.size=Qn:=I2.fresh
 obtain⟨W,⟨m0,w0⟩,turn⟩:=R s2.heap.objs.size hD
 have I3:Inv X pins σ (upd H2 s2.heap.objs.size (.lst [])) { s2 with heap:=s2.heap.push { cls:=.type "list",data:=.seq ([]:Ql M6).toArray },toks:=s2.toks }:=I2.YN (t':=s2.toks) .nil (by simp)
 have f3:∀b∈fp,fK X pins (upd H2 s2.heap.objs.size (.lst [])) b:=λb hb=>⟨by rw[aN (NC (lt2 b hb))];exact(f2 b hb).1,(f2 b hb).2⟩
 refine wpAny_newObj_type (D7 λh₁ zdn hk zdS=>?_)
 have YK:∀b∈fp,b<(s2.heap.push { cls:=.type "list",data:=.seq ([]:Ql M6).toArray }).objs.size:=λb hb=>by rw[Pq];exact P5 (lt2 b hb)
 have I4:Inv (bS X N' scope (s2.heap.push { cls:=.type "list",data:=.seq ([]:Ql M6).toArray }).objs.size { s2 with heap:=s2.heap.push { cls:=.type "list",data:=.seq ([]:Ql M6).toArray },toks:=s2.toks } (upd H2 s2.heap.objs.size (.lst [])) fp pins) [] (ke n cap σ) (upd H2 s2.heap.objs.size (.lst [])) { s2 with heap:=h₁,toks:=s2.toks } :=
  Ml I3 S hc f3 YK (t1:=s2.toks) zdn hk zdS (by simp[ke,hN]) (λi x v e1 e2=>by
   unfold ke at e2
   by_cases hi:i<n
   .rw[NX (by simpa using hi),P6]at e2
    split at e2<;>cases e2
   .rw[Oc (by simpa using hi),Qi,Nj]at e2
    rcases ej:cap[i - n]? with _|j
    .rw[ej]at e2;cases e2
    rw[ej]at e2
    obtain⟨x',a1,a2,a3⟩:=To (i - n) j ej
    have:n+(i - n)=i:=by lia
    rw[this,e1]at a1
    cases a1
    refine⟨a3,j,a2,?_⟩
    have e2:(σ[j]?).getD Qn=Qs v:=by simpa using e2
    cases q:σ[j]? with
    |none=>rw[q]at e2;cases e2
    |some z=>rw[q]at e2;have:z=Qs v:=e2;rw[this])
 have loop:codeAny (model X.prog X.w) X.A (.compLoop (.ListComp elt [⟨tg,iter,ifs,0⟩] scope pos) 0 (.ref it) (.ref s2.heap.objs.size) (compEnvC scope (cellsFrom ((s2.heap.push { cls:=.type "list",data:=.seq ([]:Ql M6).toArray }).objs.size+1) scope.names (d7 X.env.cells scope.names [])) (s2.heap.push { cls:=.type "list",data:=.seq ([]:Ql M6).toArray }).objs.size X.env))
   (compPost (model X.prog X.w) X.A X.xe use PQ (.ref s2.heap.objs.size) (s2.heap.push { cls:=.type "list",data:=.seq ([]:Ql M6).toArray }).objs.size) { s2 with heap:=h₁,toks:=s2.toks }:=by
  generalize hY:(bS X N' scope (s2.heap.push { cls:=.type "list",data:=.seq ([]:Ql M6).toArray }).objs.size { s2 with heap:=s2.heap.push { cls:=.type "list",data:=.seq ([]:Ql M6).toArray },toks:=s2.toks } (upd H2 s2.heap.objs.size (.lst [])) fp pins)=Y at I4
  have st4:tn 0 h₁:=T.keep _ _ _ Se λb hb o e=>hk b o (MV _ e)
  have V1:∀{H':Hp},(∀b∈fp,H' b=Qn)->∀b∈fp,fK Y [] H' b:=λhn b hb=>by
   subst hY
   obtain⟨f0,f1,f2',f3',f4,f5⟩:=f3 b hb
   exact⟨hn b hb,NC (YK b hb),λz=>(MQ.mp (I3.W9 b z)).elim f1 f2',.inl hb,λx c e=>(by
    rcases S.old I3 e with z | z
    .exact f4 x c z
    .exact Py (QY (YK b hb) z)),λp hp=>f5 p (by simpa using hp)⟩
  have hgY:PG Y tg g:=hY ▸ hg _ _ _ _ _
  have htY:Tq Y ifs tt:=hY ▸ ht _ _ _ _ _
  have heY:PE Y elt te:=hY ▸ he _ _ _ _ _
  have yp:Y.prog=X.prog:=by subst hY;rfl
  have yw:Y.w=X.w:=by subst hY;rfl
  have yK:Y.K=X.K:=by subst hY;rfl
  have yA:Y.A=X.A:=by subst hY;rfl
  have yc:Y.calm=Qt:=by subst hY;rfl
  have yx:Y.xe=λ_ _=>False:=by subst hY;rfl
  have ye:Y.env=compEnvC scope (cellsFrom ((s2.heap.push { cls:=.type "list",data:=.seq ([]:Ql M6).toArray }).objs.size+1) scope.names (d7 X.env.cells scope.names [])) (s2.heap.push { cls:=.type "list",data:=.seq ([]:Ql M6).toArray }).objs.size X.env:=by subst hY;rfl
  rw[<-ye]
  refine LQ (λn s' => ∃i σ' H',Inv Y [] σ' H' s'/\tn i s'.heap/\(∀b∈fp,H' b=Qn)/\W i n σ' H') ?_ m0 ⟨0,_,_,I4,st4,λb hb=>(f3 b hb).1,w0⟩
  rintro n s3 ⟨i,σ3,H3,I5,TM,Xy,w3⟩
  rcases turn i n σ3 H3 w3 with⟨stop,qn⟩ | ⟨go,N,hNN,step⟩
  .have d:=T.done Y yp yw yK yc i [] s3 σ3 H3 (λ_ _=>False) I5 (V1 Xy) TM stop
   rw[yA]at d
   refine aG d λr s4 ⟨hr,I6⟩=>?_
   subst hr
   subst hY
   exact fin _ _ _ _ _ _ _ _ _ I3 f3 rfl I6 qn
  .have d:=T.item Y yp yw yK yc i [] s3 σ3 H3 (λ_ _=>False) I5 (V1 Xy) TM go
   rw[yA]at d
   refine aG d λr s4 ⟨u,hr,h4⟩=>?_
   subst hr
   refine aG h4 λ_ s5 ⟨x,H5,I6,r5,y5,V2,Zf⟩=>?_
   have I6':=I6.pinned (V1 Zf) (T.obj _ _ V2)
   have a:=hgY _ s5 σ3 H5 x u _ I6' r5 (step x H5 y5)
   rw[yp,yw,yA,yx]at a
   refine aG a λ_ s6 ⟨σ6,H6,I7,q6⟩=>?_
   have b:=htY _ s6 σ6 H6 _ I7 q6
   rw[yp,yw,yA,yx]at b
   refine aG b λok s7 ⟨H7,I8,q7⟩=>?_
   have again:∀{s9:M0}{H9:Hp},Inv Y ([]++lZ fp s5.heap) σ6 H9 s9->N σ6 H9->∃m,m<n/\∃i σ' H',Inv Y [] σ' H' s9/\tn i s9.heap/\(∀b∈fp,H' b=Qn)/\W i m σ' H':=λ{s9 H9} I9 n9=>by
    obtain⟨m',hm,w9⟩:=hNN σ6 H9 n9
    refine⟨m',hm,i+1,σ6,H9,I9.XN,T.keep _ _ _ V2 λb hb o e=>(I9.pin (b,o) (MI _ (MI _ (sW hb e)))).1,λb hb=>?_,w9⟩
    obtain⟨o,e,d⟩:=T.obj _ _ V2 b hb
    exact(I9.pin (b,o) (MI _ (MI _ (sW hb e)))).2.1
   cases ok with
   |false=>exact oA (again I8 (by simpa using q7))
   |true =>
    rw[QO rfl]at q7
    refine oz ?_
    have c:=heY _ s7 σ6 H7 _ I8 q7
    rw[yp,yw,yA,yx]at c
    refine aG c λz s8 ⟨vz,H8,I9,r9,vs,hv,hl,n9⟩=>?_
    have ap:=sU (X:=Y) ([]++lZ fp s5.heap) s8 σ6 H8 (.ref s2.heap.objs.size) [vz] (.ref s2.heap.objs.size) [z] (λ_ H9=>N σ6 H9) I9 rfl (.cons r9 .nil) ⟨_,vs,vz,rfl,rfl,hv,hl,n9⟩
    rw[yp,yw,yA,yx]at ap
    exact aG ap λ_ s9 ⟨_,H9,I10,_,n10⟩=>again I10 n10
 exact codeAny_compStart_list loop (T.self _ 0 _ _ _ (T.keep _ _ _ Se λb hb o e=>hk b o (MV _ e)) loop)
theorem Av{wi:TI}{g:TG}{tt:TT}(S:TK X scope)(hc:X.calm=Qt)(hi:PI X tg iter wi)
  (hN:N'.length=n+cap.length) (To:∀(k:Nat) (j:Nat),cap[k]?=Qs j->∃x,N'[n+k]?=Qs x/\X.N[j]?=Qs x/\(x,NK)∈scope.names)
  (hg:∀C s₃ H₃ fp pins,PG (bS X N' scope C s₃ H₃ fp pins) tg g) (ht:∀C s₃ H₃ fp pins,Tq (bS X N' scope C s₃ H₃ fp pins) ifs tt) (he:∀C s₃ H₃ fp pins,PE (bS X N' scope C s₃ H₃ fp pins) elt te)
  (hs:∀x,foldedSetIterable iter X.env x=pure x:=by intro _;rfl):PE X (.ListComp elt [⟨tg,iter,ifs,0⟩] scope pos) (lO n cap wi g tt te):=by
 intro pins s σ H Q I h
 rw[eval_ListComp]
 refine wpAny_comprehension_free (use:=Qn) rfl hs (C7 (S.frees I.ok)) S.kind (λx hx hl=>by rw[S.names x hx,hl]) (aG (hi pins s σ H _ I h) λv s1 h1=>aG h1 λV7 s2 h2=>CZ (Q:=Q) S hc hN To hg ht he (λC s3 H3 fp D σ4 H4 s4 f I3 f3 hC I6 qn=>?_) h2)
 obtain⟨m,hm,_⟩:=I6.loc
 exact⟨m,hm,λh' hb=>⟨.ref D,H4,Dj I3 f3 hC I6 hb,rfl,qn⟩⟩
theorem Ad{i₀:Nat}{y₀:Str}{UJ:Pos}{wi:TI}{g:TG}{tt:TT}(S:TK X scope)(hc:X.calm=Qt)(hi:PI X tg iter wi)
  (hN:N'.length=n+cap.length) (To:∀(k:Nat) (j:Nat),cap[k]?=Qs j->∃x,N'[n+k]?=Qs x/\X.N[j]?=Qs x/\(x,NK)∈scope.names)
  (hg:∀C s₃ H₃ fp pins,PG (bS X N' scope C s₃ H₃ fp pins) tg g) (ht:∀C s₃ H₃ fp pins,Tq (bS X N' scope C s₃ H₃ fp pins) ifs tt) (he:∀C s₃ H₃ fp pins,PE (bS X N' scope C s₃ H₃ fp pins) elt te)
  (Wl:X.N.Nodup) (We:X.N[i₀]?=Qs y₀) (hy:Loc X.env.scope y₀) (Tv:swapsWith (.ListComp elt [⟨tg,iter,ifs,0⟩] scope pos) (Qs (.Name y₀ py)) UJ.line X.env=pure Qt) (hf:X.fn y₀=Qt\/X.env.scope.names.lookup y₀=Qs .local)
  (hs:∀x,foldedSetIterable iter X.env x=pure x:=by intro _;rfl):PS X (.Assign [.Name y₀ py] (.ListComp elt [⟨tg,iter,ifs,0⟩] scope pos) UJ) (λD σ H=>lO n cap wi g tt te σ H λv H1=>D.nx (σ.set i₀ (Qs v)) H1):=by
 intro pins s σ H Ed I h
 rw[exec_Assign_Name_used y₀ py _ UJ Tv]
 refine MT (wpAny_standAt (MT ?_))
 show wpAny (model X.prog X.w) X.A (comprehension (.ListComp elt [⟨tg,iter,ifs,0⟩] scope pos) scope X.env _ (newList []) Qf (eval iter X.env) (Qs (assign (.Name y₀ py) X.env)) >>= λ_=>pure ()) _ _ s
 refine MT (aG (Q:=λ_ s'=>SP X pins Ed .next s') ?_ λ_ s' hq=>Nc (Nc hq))
 refine wpAny_comprehension_free (use:=Qs (assign (.Name y₀ py) X.env)) rfl hs (C7 (S.frees I.ok)) S.kind (λx hx hl=>by rw[S.names x hx,hl]) (aG (hi pins s σ H _ I h) λv s1 h1=>aG h1 λV7 s2 h2=>CZ (Q:=λv H1=>Ed.nx (σ.set i₀ (Qs v)) H1) S hc hN To hg ht he (λC s3 H3 fp D σ4 H4 s4 f I3 f3 hC I6 qn=>?_) h2)
 obtain⟨m,hm,_⟩:=I6.loc
 have IX:=Dj I3 f3 hC I6 (WO:=s4.heap) ⟨rfl,λ_ _=>rfl⟩
 have cf:H4 C=Qn:=I6.free
 have fC:fK X pins H4 C:=I3.Wo (by rw[hC];exact MZ _) cf
 obtain⟨c0,c1,c2,c3,c4,c5⟩:=fC
 refine wpAny_assign_Name (zh (s:=s4) IX Wl We hy (v:=.ref D) rfl (λs5 I7 ⟨a,sb,ha⟩=>?_) hf)
 have na:a≠C:=by
  rcases ha with z | z
  .rw[z];exact λw=>c1 w.symm
  .exact c4 _ _ z
 refine⟨m,hm.sameBut sb (Ne.symm na),λh' hb=>⟨_,H4,?_,qn⟩⟩
 exact I7.turned (t':=s5.toks) (λb o n e=>(hb.2 b n).trans e) c0 c1 c3 c4 c5
end L2
namespace DL
open PySem.Spec L2
structure Src(K:MK)(ds:List D)(J:It)(Good:List U1->Hp->Prop):Prop where
 keep:∀P H P' H',Good P H->QS (ah P H) (ah P' H')->Good P' H'
 stop:∀P H,Good P H->J.stop ds.length H
 go:∀P H i,Good P H->i<ds.length->J.go i H
 Td:∀P H i x H',Good P H->RF H P->J.Td i H x H'->i<ds.length->QS H H'/\∃d,ds[i]?=Qs d/\Rep K (ah P H') d x
abbrev DI:=Th->Qo (Bool×Ql D)
def SS(b:Bool)(A F:Ql U1):Ql U1:=if b then A++F else F
inductive dI(K:MK)(F:List U1)(fs:DI)(σ:L2.St)(H:Hp)(R:It->Hp->Prop):Prop
 |mk (A:_) (t:_) (b:_) (ds:_) (h_0:RS K F H A t σ) (h_1:fs t=Qs (b,ds)) (h_2:∀J H1 Good,QS H H1->Src K ds J Good->Good (SS b A F) H1->R J H1)
def PI.imp{t t':TI}(h:PI X tg iter t)(i:∀σ H R,t' σ H R->t σ H R):PI X tg iter t':=λpins s σ H R I q=>h pins s σ H R I (i σ H R q)
def cF(f:DE):DI:=λt=>(f t).bind λr=>match r.d with
 |.lst ds=>Qs (r.ok,ds)
 |_=>Qn
def jt(f:DE):DI:=λt=>(f t).bind λr=>match r.d with
 |.lst ds=>Qs (r.ok,cP 0 ds)
 |_=>Qn
def hZ(f:DE):DI:=λt=>(f t).bind λr=>match r.d with
 |.int n=>if c7 n then Qs (Qt,cU 0 n.toNat) else Qn
 |_=>Qn
def oI(f f':DE):DI:=λt=>(f t).bind λr=>(f' t).bind λr'=>match r.d,r'.d with
 |.int lo,.int n=>if c7 n&&c7 lo then Qs (Qt,cU lo (n - lo).toNat) else Qn
 |_,_=>Qn
def Fh (hl:vs.length=ds.length):Src K ds (yE K p) (λP H=>Rm K (ah P H) p vs/\QV K (ah P H) ds vs) where
 keep:=λP H P' H' q s=>⟨Rm.mono s q.1,QV.mono s q.2⟩
 stop:=λP H q=>⟨vs,Rm.mono (aV _ _) q.1,by lia⟩
 go:=λP H i q hi=>⟨vs,vs[i]'(by lia),Rm.mono (aV _ _) q.1,MR (by lia)⟩
 Td:=λP H i x H' q mu y hi=>by
  obtain⟨e1,e2⟩:=y
  subst e1
  exact⟨QS.refl _,q.2.UT (e2 vs (Rm.mono (aV _ _) q.1))⟩
def Fi (hl:vs.length=ds.length):Src K (cP 0 ds) (pT K p) (λP H=>Rm K (ah P H) p vs/\QV K (ah P H) ds vs) where
 keep:=λP H P' H' q s=>⟨Rm.mono s q.1,QV.mono s q.2⟩
 stop:=λP H q=>⟨vs,Rm.mono (aV _ _) q.1,by rw[kY];lia⟩
 go:=λP H i q hi=>by
  rw[kY]at hi
  exact⟨vs,vs[i]'(by lia),Rm.mono (aV _ _) q.1,MR (by lia)⟩
 Td:=λP H i x H' q mu y hi=>by
  obtain⟨l,v,Wd,rfl,rfl,hv⟩:=y
  obtain⟨d,hd,rd⟩:=q.2.UT (hv vs (Rm.mono (aV _ _) q.1))
  have sm:=dW (o:=HO.tup [.int i,v]) Wd
  refine⟨sm,_,xH 0 ds i d hd,?_⟩
  rw[O4]
  exact .tup (RQ.of (bw bF (dZ mu Wd))) (.cons (.int _) (.cons (Rep.mono (cT sm) rd) .nil))
def uR{lo:Int}:Src K (cU lo n) (kj lo n) (λ_ _=>True) where
 keep:=λ_ _ _ _ _ _=>trivial
 stop:=λP H _=>by rw[lT];exact MZ n
 go:=λP H i _ hi=>by rw[lT]at hi;exact hi
 Td:=λP H i x H' _ _ y hi=>by
  rw[lT]at hi
  obtain⟨e1,e2⟩:=y
  subst e1
  refine⟨QS.refl _,.int (lo+i),by simp[cU,hi],?_⟩
  rw[e2];exact .int _
def Rz.SS{K:MK}{F A:Ql U1}{H H':Hp}{r:Ev}{v:V}(m:RF H (A++F))(gs:QS H H')(q:Rz K F A H H' r v):Rep K (ah (DL.SS r.ok A F) H') r.d v:=by
 unfold DL.SS
 split
 .rename_i c;exact q.clean m gs c
 .exact q.UB m
def iF(hl:PE X a (dE X.K F fa)):PI X tg a (dI X.K F (cF fa)):=by
 refine PI.imp (sE hl) ?_
 rintro σ H R ⟨A,t,b,ds,RR,e,h⟩
 unfold cF at e
 refine aB e λr e1 e=>?_
 refine⟨A,t,r,RR,e1,λv H1 gs q=>?_⟩
 have e:(match r.d with | .lst ds=>Qs (r.ok,ds) |_=>Qn)=Qs (b,ds):=e
 split at e
 case h_2=>cases e
 rename_i WV z
 cases e
 have cl:=Rz.SS RR.mu gs q
 rw[z]at cl
 cases cl with
 |@lst _ p vs h1 h2=>exact⟨p,rfl,⟨vs,Rm.mono (aV _ _) h1⟩,h _ H1 _ gs (Fh h2.length) ⟨h1,h2⟩⟩
def Ak{elts:Ql U3}{kk:Nat}{tp:Pos}(Va:Gl X "enumerate")(hm:X.mg "enumerate"=Qn)(hl:PE X a (dE X.K F fa))(Sf:Na [a] X.env=[(Qf,eval a X.env)]:=by rfl):PI X (.Tuple elts kk tp) (.Call (.Name "enumerate" p1) [a] [] p2) (dI X.K F (jt fa)):=by
 refine PI.imp (Al Va hm hl Sf) ?_
 rintro σ H R ⟨A,t,b,ds,RR,e,h⟩
 unfold jt at e
 refine aB e λr e1 e=>?_
 refine⟨A,t,r,RR,e1,λv H1 gs q=>?_⟩
 have e:(match r.d with | .lst ds=>Qs (r.ok,cP 0 ds) |_=>Qn)=Qs (b,ds):=e
 split at e
 case h_2=>cases e
 rename_i WV z
 cases e
 have cl:=Rz.SS RR.mu gs q
 rw[z]at cl
 cases cl with
 |@lst _ p vs h1 h2=>exact⟨p,rfl,⟨vs,Rm.mono (aV _ _) h1⟩,h _ H1 _ gs (Fi h2.length) ⟨h1,h2⟩⟩
def vN (Vt:Gl X "range")(hm:X.mg "range"=Qn)(ha:PE X a (dE X.K F fa))(Sf:Na [a] X.env=[(Qf,eval a X.env)]:=by rfl):PI X tg (.Call (.Name "range" p1) [a] [] p2) (dI X.K F (hZ fa)):=by
 refine PI.imp (vO Vt hm (gI ha gH Sf) Sf) ?_
 rintro σ H R ⟨A,t,b,ds,RR,e,h⟩
 unfold hZ at e
 refine aB e λr e1 e=>?_
 refine⟨A,t,r,RR,e1,λv H1 gs q=>?_⟩
 have e:(match r.d with | .int n=>if c7 n then Qs (Qt,cU 0 n.toNat) else Qn | _=>Qn)=Qs (b,ds):=e
 split at e
 case h_2=>cases e
 rename_i n z
 refine bZ e λok e=>?_
 simp only[c7,SI]at ok
 cases e
 have p:=q.full
 rw[z]at p
 cases cC p
 exact⟨n,rfl,by lia,by lia,h _ H1 _ gs uR trivial⟩
def HF (Vt:Gl X "range")(hm:X.mg "range"=Qn)(ha:PE X a (dE X.K F fa))(hb:PE X b (dE X.K F fb))(Sf:Na [a,b] X.env=[(Qf,eval a X.env),(Qf,eval b X.env)]:=by rfl)(Xr:Na [b] X.env=[(Qf,eval b X.env)]:=by rfl) :
  PI X tg (.Call (.Name "range" p1) [a,b] [] p2) (dI X.K F (oI fa fb)):=by
 refine PI.imp (HH Vt hm (gI ha (gI hb gH Xr) (by rw[Sf,Xr])) Sf Xr) ?_
 rintro σ H R ⟨A,t,b,ds,RR,e,h⟩
 unfold oI at e
 rcases e1:fa t with _|r
 .rw[e1]at e;cases e
 rcases e2:fb t with _|r'
 .rw[e1,e2]at e;cases e
 rw[e1,e2]at e
 refine⟨A,t,r,RR,e1,λv H1 gs q=>⟨A,t,r',RR.grow gs,e2,λv2 H2 RZ q2=>?_⟩⟩
 have e:(match r.d,r'.d with
  |.int lo,.int n=>if c7 n&&c7 lo then Qs (Qt,cU lo (n - lo).toNat) else Qn
  |_,_=>Qn)=Qs (b,ds):=e
 split at e
 case h_2=>cases e
 rename_i lo n z1 z2
 replace e:=S0 e
 obtain⟨ok,e⟩:=e
 simp only[c7,MX,SI]at ok
 cases e
 have p:=q.full
 rw[z1]at p
 cases cC p
 have p':=q2.full
 rw[z2]at p'
 cases cC p'
 exact⟨lo,n,rfl,⟨by lia,by lia,by lia,by lia⟩,h _ H2 _ (gs.trans RZ) uR trivial⟩
def fI(t:Th):Ql Nat->Qo (Bool×Ql D)
 |[]=>Qs (Qt,[])
 |j::js=>(fI t js).bind λq=>match t[j]? with
  |some (.val d)=>Qs (q.1,d::q.2)
  |some (.own xs)=>Qs (Qf,.lst xs::q.2)
  |some (.dp d)=>Qs (Qf,d::q.2)
  |_=>Qn
def uo{K:MK}{F A:Ql U1}{H:Hp}{t:Th}{σ:L2.St}(R:RS K F H A t σ):∀{cap:Ql Nat}{b:Bool}{ds:Ql D},fI t cap=Qs (b,ds)->∃vs:Ql V,(cap.map λj=>(σ[j]?).getD Qn)=vs.map Qs/\QV K (ah (SS b A F) H) ds vs
 |[],b,ds,e=>by cases e;exact⟨[],rfl,.nil⟩
 |j::js,b,ds,e=>by
  unfold fI at e
  rcases e1:fI t js with _|q
  .rw[e1]at e;cases e
  obtain⟨b',WV⟩:=q
  rw[e1]at e
  obtain⟨vs,h1,h2⟩:=uo R e1
  have e:(match t[j]? with
   |some (.val d)=>Qs (b',d::WV)
   |some (.own xs)=>Qs (Qf,.lst xs::WV)
   |some (.dp d)=>Qs (Qf,d::WV)
   |_=>Qn)=Qs (b,ds):=e
  have less:∀c:Bool,QS (ah (A++F) H) (ah (SS c A F) H):=λc=>aZ H λx z=>by
   cases c with
   |true=>exact z
   |false=>exact MI _ z
  split at e
  .rename_i d z
   cases e
   obtain⟨v,a1,a2⟩:=R.rel.Wn z
   exact⟨v::vs,by simp[a1,h1],.cons (Rep.mono (less _) a2) h2⟩
  .rename_i xs z
   cases e
   obtain⟨p,us,a1,a2,a3,a4⟩:=R.rel.T7 z
   refine⟨.ref p::vs,by simp[a1,h1],.cons (.lst (Rm.of (bw a3 (R.dj p a2))) (QV.mono (less Qf) a4)) (QV.mono (aZ H λx z=>?_) h2)⟩
   cases b' with
   |true=>exact MI _ z
   |false=>exact z
  .rename_i d z
   cases e
   obtain⟨v,B,a1,a2,a3,a4⟩:=R.rel.Ze R.nd z
   refine⟨v::vs,by simp[a1,h1],.cons (a4.rep (less Qf) λb hb o w=>bw w (R.dj b (a2 b hb))) (QV.mono (aZ H λx z=>?_) h2)⟩
   cases b' with
   |true=>exact MI _ z
   |false=>exact z
  .cases e
def bW(k:D->Th->Qo Th)(ft:DT)(fe:DE):Ql D->Th->Qo (Ql D)
 |[],_=>Qs []
 |d::ds,t=>(k d t).bind λt1=>(ft t1).bind λb=>if b then(fe t1).bind λr=>(bW k ft fe ds t1).map λxs=>r.d::xs else bW k ft fe ds t1
def bK(n:Nat)(cap:Ql Nat)(fs:DI)(k:D->Th->Qo Th)(ft:DT)(fe:DE):DE:=λt=>(fs t).bind λq=>(fI t cap).bind λc=>if q.2.length<=50000 then(bW k ft fe q.2 (M8 n Sl.no++c.2.map Sl.val)).bind λxs=>if(q.1&&c.1)||RB xs then Qs (.nw xs) else Qn else Qn
def xZ{k:D->Th->Qo Th}{ft:DT}{fe:DE}:∀{ds:Ql D}{t:Th}{xs:Ql D},bW k ft fe ds t=Qs xs->xs.length<=ds.length
 |[],t,xs,e=>by cases e;simp
 |d::ds,t,xs,e=>by
  unfold bW at e
  refine aB e λt1 e1 e=>?_
  have e:((ft t1).bind λb=>if b then(fe t1).bind λr=>(bW k ft fe ds t1).map λxs=>r.d::xs else bW k ft fe ds t1)=Qs xs:=e
  refine aB e λb e2 e=>?_
  cases b with
  |false=>have:=xZ (ds:=ds) (t:=t1) e;simp;lia
  |true =>
   have e:((fe t1).bind λr=>(bW k ft fe ds t1).map λxs=>r.d::xs)=Qs xs:=e
   refine aB e λr e3 e=>?_
   have e:((bW k ft fe ds t1).map λxs=>r.d::xs)=Qs xs:=e
   cases e4:bW k ft fe ds t1 with
   |none=>rw[e4]at e;cases e
   |some ys=>rw[e4]at e;cases e;have:=xZ e4;simp;lia
def Rc.YB{K:MK}{H0 H:Hp}{vs:Ql V}{ds:Ql D}(r:QV K H0 ds vs):∀n,Rc K H0 H (M8 n Sl.no++ds.map Sl.val) (M8 n Qn++vs.map Qs) []
 |0=>by simpa using Rc.start (t:=[]) (σ:=[]) .nil r
 |n+1=>.no (Rc.YB r n)
def tR{P:Ql U1}{o:HO}(hp:p∈P):QS (ah P H) (ah P (upd H p o)):=λb u e=>by
 obtain⟨n,e⟩:=cD e
 exact bw (by rw[aN (λz=>n (by rw[z];exact hp))];exact e) n
def RS.W4{P:Ql U1}(R:RS K P H [] t σ)(hp:p∈P):RS K P (upd H p (.lst ws)) [] t σ where
 mu:=λq hq=>by
  by_cases z:q=p
  .exact⟨mL ws,by rw[z];exact bF⟩
  .obtain⟨us,w⟩:=R.mu q hq
   exact⟨us,by rw[aN z];exact w⟩
 nd:=NM
 dj:=λp hp=>by cases hp
 rel:=Rc.mono (tR hp) R.rel λq hq=>by cases hq
def vY{P:Ql U1}(R:RS K P H A t σ)(g:Gr [] H A H):A=[]:=by
 cases A with
 |nil=>rfl
 |cons a r =>
  rcases g.nw a (MN ..) with z | z
  .cases z
  .obtain⟨vs,q⟩:=R.mu a (MJ _ (MN ..))
   rw[q]at z;cases z
def bN:DT:=λ_=>Qs Qt
def Tq.imp{t t':TT}(h:Tq Y ifs t)(i:∀σ H Q,t' σ H Q->t σ H Q):Tq Y ifs t':=λpins s σ H Q I q=>h pins s σ H Q I (i σ H Q q)
def gF :Tq Y [] (dT Y.K F bN):=Tq.imp z6 λσ H Q ⟨A,t,b,R,e,h⟩=>by cases e;exact h H (QS.refl H)
def r8 (h:PT Y c (dT Y.K F ft)):Tq Y [c] (dT Y.K F ft):=GR h
def xN{α:Type}{ds:Ql α}{d:α}(TN:i<ds.length)(hd:ds[i]?=Qs d):ds.drop i=d::ds.drop (i+1):=by
 rw[MR TN]at hd
 rw[<-Ni hd]
 exact NO TN
def tT{b:Bool}:∀x∈SS b A F,x∈A++F:=by
 cases b with
 |true=>exact λx hx=>hx
 |false=>exact λx hx=>MI _ hx
def tU{b:Bool}:∀x∈F,x∈SS b A F:=by
 cases b with
 |true=>exact λx hx=>MI _ hx
 |false=>exact λx hx=>hx
def BS{b c:Bool}:∀x∈SS (b&&c) A F,x∈SS b A F:=by
 cases b with
 |true=>cases c with
  |true=>exact λx hx=>hx
  |false=>exact tU
 |false=>exact λx hx=>hx
def BR{b c:Bool}:∀x∈SS (b&&c) A F,x∈SS c A F:=by
 cases b with
 |true=>exact λx hx=>hx
 |false=>exact tU
def sX{α β:Type}{x:Qo α}{f:α->β}{r:β}{G:Prop}(e:x.map f=Qs r)(h:∀a,x=Qs a->f a=r->G):G:=by
 cases x with
 |none=>cases e
 |some a=>exact h a rfl (Ni e)
def JW (h:n<50000):n<Nn:=Nb h (by rw[sizeLine_eq];decide)
def yt{α β:Type}{acc ys xs:Ql α}{y:α}{vs:Ql β}(l:vs.length=acc.length)(ex:acc++y::ys=xs)(hx:xs.length<=50000):vs.length<Nn:=by
 refine JW ?_
 rw[<-ex,Nl,M9]at hx
 lia
def zA{o:HO}(hn:H1 p=Qn)(sm:QS H1 H)(s:QS H H'):QS H1 (upd H' p o):=λb u z=>by
 rw[aN (λw=>by rw[w,hn]at z;cases z)]
 exact s _ _ (sm _ _ z)
inductive CI(K:MK)(kt:D->Th->Option Th)(ft:DT)(fe:DE)(ds xs:List D)(H1:Hp)(P:List U1)(p:U1)(Good:List U1->Hp->Prop)(i m:Nat)(σ:L2.St)(H:Hp):Prop
 |mk (th:Th) (acc rest:List D) (vs:List V) (hm:i+m=ds.length) (R:RS K P H [] th σ) (ec:bW kt ft fe (ds.drop i) th=Qs rest) (ex:acc++rest=xs) (hv:H p=Qs (.lst vs)) (hr:QV K (ah P H) acc vs) (sm:QS H1 H) (gg:Good P H)
def CI.step{xs:Ql D}{P:Ql U1}{Good:Ql U1->Hp->Prop}{g:TG}{m:Nat}(src:Src K ds J Good)(hk:c8 K P g kt)(hp:p∈P)(hn:H1 p=Qn)(hx:xs.length<=50000)
  (c:CI K kt ft fe ds xs H1 P p Good i (m+1) σ H):J.go i H/\∃N:L2.St->Hp->Prop,(∀σ2 H2,N σ2 H2->∃m',m' < m+1/\CI K kt ft fe ds xs H1 P p Good (i+1) m' σ2 H2)/\∀x H2,J.Td i H x H2->g x σ H2 λσ2 H3 => ∃F',dT K F' ft σ2 H3 λb H4 =>
   if b=Qt then ∃F',dE K F' fe σ2 H4 λv H5 => ∃vs,H5 p=Qs (.lst vs)/\vs.length<Nn/\N σ2 (upd H5 p (.lst (vs++[v]))) else N σ2 H4:=by
 obtain⟨th,acc,rest,vs,hm,R,ec,ex,hv,hr,sm,gg⟩:=c
 have TN:i<ds.length:=by lia
 have VN:i+1+m=ds.length:=by lia
 refine⟨src.go _ _ i gg TN,CI K kt ft fe ds xs H1 P p Good (i+1) m,λ_ _ q=>⟨m,NP m,q⟩,λx H2 y=>?_⟩
 obtain⟨RZ,d,hd,rd⟩:=src.Td _ _ i x H2 gg R.mu y TN
 rw[xN TN hd]at ec
 refine aB ec λt1 k1 ec=>?_
 refine aB ec λbb k2 ec=>?_
 refine hk σ H2 [] th t1 d x _ (R.grow RZ) rd k1 λσ2 A2 S8 R2=>?_
 cases vY R2 S8
 refine⟨P,[],t1,bb,R2,k2,λH3 Wm=>?_⟩
 have s3:=RZ.trans Wm
 have R3:=R2.grow Wm
 clear R R2 RZ Wm S8 k1 k2 y rd TN hm
 cases bb with
 |false=>exact oA ⟨t1,acc,rest,vs,VN,R3,ec,ex,s3 _ _ hv,QV.mono (cT s3) hr,sm.trans s3,src.keep _ _ _ _ gg (cT s3)⟩
 |true =>
  refine aB (show(fe t1).bind _=Qs rest from ec) λre k3 ec=>?_
  refine sX ec λys k4 ec=>?_
  subst ec
  refine oz ⟨P,[],t1,re,R3,k3,λv H4 Vx q4=>⟨vs,Vx _ _ (s3 _ _ hv),yt hr.length ex hx,?_⟩⟩
  have s4:=s3.trans Vx
  have hu:QS (ah P H4) (ah P (upd H4 p (.lst (vs++[v])))):=tR hp
  have s5:=(cT s4).trans hu
  exact⟨t1,acc++[re.d],ys,vs++[v],VN,RS.W4 (R3.grow Vx) hp,k4,by rw[Nv];exact ex,bF,(QV.mono s5 hr).app (QV.one (Rep.mono hu (q4.UB R3.mu))),zA hn sm s4,src.keep _ _ _ _ gg s5⟩
def RS.block{F':Ql U1}{c:Bool}{XE:Ql D}{XD:Ql V}(Wy:RF H1 (A++F))(hp:H1 p=Qn)(sF:∀x∈F',x∈A++F)(lc:∀x∈F',x∈SS c A F)(gs:QS H H1)(Wt:cap.map (λj=>(σ[j]?).getD Qn)=XD.map Qs)(Ws:QV K (ah (SS c A F) H) XE XD) :
  RS K (p::F') (upd H1 p (.lst [])) [] (M8 n Sl.no++XE.map Sl.val) (ke n cap σ):=by
 refine⟨λq hq=>?_,NM,λp hp=>(by cases hp),?_⟩
 .rcases MQ.mp hq with z | z
  .exact⟨mL [],by rw[z];exact bF⟩
  .obtain⟨us,w⟩:=Wy q (sF q z)
   exact⟨us,(dW hp) _ _ w⟩
 .unfold ke
  rw[Wt]
  exact Rc.YB (QV.mono (((cT gs).trans (aZ H1 lc)).trans (jo hp)) Ws) n
def zb{fs:DI}{g:TG}(hk:∀F',c8 X.K F' g kt) (h:dE X.K F (bK n cap fs kt ft fe) σ H Q) :
  lO n cap (dI X.K F fs) g (λσ H Q => ∃F',dT X.K F' ft σ H Q) (λσ H Q => ∃F',dE X.K F' fe σ H Q) σ H Q:=by
 obtain⟨A,t,r,R,e,h⟩:=h
 refine aB e λq e1 e=>?_
 refine aB e λc e2 e=>?_
 obtain⟨b,ds⟩:=q
 obtain⟨c,XE⟩:=c
 refine bZ e λhlen e=>?_
 refine aB e λxs e3 e=>?_
 refine bZ e λok e=>?_
 cases e
 obtain⟨XD,Wt,Ws⟩:=uo R e2
 refine⟨A,t,b,ds,R,e1,λJ H1 Good gs src gd p hD=>?_⟩
 have Wy:RF H1 (A++F):=R.mu.mono gs
 refine⟨CI X.K kt ft fe ds xs H1 (p::SS (b&&c) A F) p Good,⟨ds.length,⟨_,[],xs,[],O4 _,RS.block Wy hD tT BR gs Wt Ws,e3,rfl,bF,.nil,dW hD,src.keep _ _ _ _ gd ((aZ H1 BS).trans (jo hD))⟩⟩,λi m σ' H' c'=>?_⟩
 cases m with
 |succ m=>exact .inr (c'.step src (hk _) (MN ..) hD (NG (xZ e3) hlen))
 |zero =>
  obtain⟨th,acc,rest,vs,hm,_,ec,ex,hv,hr,sm,gg⟩:=c'
  cases hm
  rw[OG]at ec
  cases ec
  rw[Nt]at ex
  subst ex
  refine .inl ⟨src.stop _ _ gg,h _ H' (gs.trans sm) ⟨p,vs,rfl,QS.free gs hD,hv,?_⟩⟩
  rcases PR _ _ ▸ ok with k | k
  .rw[k]at hr
   exact hr
  .refine QV.RY (P:=p ::(A++F)) (λq hq=>?_) k (QV.mono (aV _ _) hr)
   rcases MQ.mp hq with z | z
   .exact⟨mL vs,by rw[z];exact hv⟩
   .obtain⟨us,w⟩:=Wy q z
    exact⟨us,sm _ _ w⟩
def HV{fs:DI}{g:TG}(S:TK X scope)(hc:X.calm=Qt)(hi:PI X tg iter (dI X.K F fs))
  (hN:N'.length=n+cap.length) (To:∀(k:Nat) (j:Nat),cap[k]?=Qs j->∃x,N'[n+k]?=Qs x/\X.N[j]?=Qs x/\(x,NK)∈scope.names)
  (hg:∀C s₃ H₃ fp pins,PG (bS X N' scope C s₃ H₃ fp pins) tg g) (hk:∀F',c8 X.K F' g kt) (ht:∀C s₃ H₃ fp pins F',Tq (bS X N' scope C s₃ H₃ fp pins) ifs (dT X.K F' ft)) (he:∀C s₃ H₃ fp pins F',PE (bS X N' scope C s₃ H₃ fp pins) elt (dE X.K F' fe))
  (hs:∀x,foldedSetIterable iter X.env x=pure x:=by intro _;rfl):PE X (.ListComp elt [⟨tg,iter,ifs,0⟩] scope pos) (dE X.K F (bK n cap fs kt ft fe)) :=
 PE.imp (Av (g:=g) S hc hi hN To hg (λC s₃ H₃ fp pins Ts s σ H Q I ⟨F',q⟩=>ht C s₃ H₃ fp pins F' Ts s σ H Q I q) (λC s₃ H₃ fp pins Ts s σ H Q I ⟨F',q⟩=>he C s₃ H₃ fp pins F' Ts s σ H Q I q) hs) λ_ _ _ h=>zb hk h
def mP(names:Ql (Str×Ou))(kind:Str->Qo Ou):Bool:=names.all λy=>(y.2 != .free||kind y.1 == Qs .cell||kind y.1 == Qs .free)&&(names.lookup y.1 == Qs y.2)
def uh (hk:scope.kind=.function:=by rfl)(h:mP scope.names X.env.kindOf=Qt:=by rfl):TK X scope:=by
 have h':=NJ.mp h
 refine⟨hk,λy hy hf=>?_,λy hy=>?_⟩
 .have:=h' y hy
  simp only[MX,PR,bne_iff_ne,beq_iff_eq]at this
  rcases this.1 with(z | z) |z
  .exact absurd hf z
  .exact .inl z
  .exact .inr z
 .have:=h' y hy
  simp only[MX,beq_iff_eq]at this
  exact this.2
def kf(N' N:Ql Str)(n:Nat)(names:Ql (Str×Ou)):Nat->Ql Nat->Bool
 |_,[]=>Qt
 |k,j::js=>(match N'[n+k]?,N[j]? with
  |some x,Qs y=>x == y&&names.any λz=>z.1 == x&&z.2 == .free
  |_,_=>Qf)&&kf N' N n names (k+1) js
def ph{N' N:Ql Str}{n:Nat}{names:Ql (Str×Ou)}:∀{cap:Ql Nat}{k0:Nat},kf N' N n names k0 cap=Qt->∀(k j:Nat),cap[k]?=Qs j->∃x,N'[n+(k0+k)]?=Qs x/\N[j]?=Qs x/\(x,NK)∈names
 |[],k0,_,k,j,e=>by simp at e
 |i::js,k0,h,k,j,e=>by
  unfold kf at h
  rw[MX]at h
  cases k with
  |zero =>
   simp at e
   subst e
   have h1:=h.1
   split at h1
   .rename_i x y z1 z2
    rw[MX,beq_iff_eq,List.any_eq_true]at h1
    obtain⟨e1,w,w1,w2⟩:=h1
    rw[MX,beq_iff_eq,beq_iff_eq]at w2
    obtain⟨a,b⟩:=w
    simp only at w2
    rw[w2.1,w2.2]at w1
    exact⟨x,by simpa using z1,by rw[z2,e1],w1⟩
   .cases h1
  |succ k =>
   obtain⟨x,a,b,c⟩:=ph h.2 k j (by simpa using e)
   exact⟨x,by rw[show k0+(k+1)=k0+1+k by lia];exact a,b,c⟩
def g7{fs:DI}{g:TG}(n:Nat)(cap:Ql Nat)(N':Ql Str)(hc:X.calm=Qt)(hi:PI X tg iter (dI X.K F fs))
  (hg:∀C s₃ H₃ fp pins,PG (bS X N' scope C s₃ H₃ fp pins) tg g) (hk:∀F',c8 X.K F' g kt) (ht:∀C s₃ H₃ fp pins F',Tq (bS X N' scope C s₃ H₃ fp pins) ifs (dT X.K F' ft)) (he:∀C s₃ H₃ fp pins F',PE (bS X N' scope C s₃ H₃ fp pins) elt (dE X.K F' fe))
  (UQ:scope.kind=.function:=by rfl) (Vu:mP scope.names X.env.kindOf=Qt:=by rfl) (hN:N'.length=n+cap.length:=by rfl) (To:kf N' X.N n scope.names 0 cap=Qt:=by rfl)
  (hs:∀x,foldedSetIterable iter X.env x=pure x:=by intro _;rfl):PE X (.ListComp elt [⟨tg,iter,ifs,0⟩] scope pos) (dE X.K F (bK n cap fs kt ft fe)) :=
 HV (uh UQ Vu) hc hi hN (λk j e=>by simpa using ph To k j e) hg hk ht he hs
def TC:Ev->Ev->Qo Ev:=λr1 r2=>match r2.d with
 |.lst ds=>if aP r1.d&&ds.all (λd=>aP d&&aS 0 d r1.d) then Qs (.cl (.bl (ds.any λd=>cg d r1.d))) else Qn
 |.tup ds=>if aP r1.d&&ds.all (λd=>aP d&&aS 0 d r1.d) then Qs (.cl (.bl (ds.any λd=>cg d r1.d))) else Qn
 |_=>Qn
def wZ{K:MK}{H:Hp}{e:D}{u:V}(q:Rep K H e u)(se:aP e=Qt):∀{ds:Ql D}{vs:Ql V},QV K H ds vs->ds.all (λd=>aP d&&aS 0 d e)=Qt->vs.all du=Qt/\mz u vs=ds.any λd=>cg d e
 |_,_,.nil,_=>⟨rfl,rfl⟩
 |_,_,.cons h r,k=>by
  simp only[NQ,MX]at k
  obtain⟨f1,f2,e1⟩:=xD h q k.1.1 se k.1.2
  obtain⟨a,b⟩:=wZ q se r (by simpa using k.2)
  unfold mz at b ⊢
  refine⟨by simp[f1,a],?_⟩
  rw[OA,OA,e1,b]
def zy{e:D}{u:V}(q:Rep K H e u)(se:aP e=Qt):du u=Qt:=by
 cases q<;>simp_all [aP,du]
def dt:Ql Ev->Qo Ev:=λrs=>match rs with
 |[r]=>(match r.d with
  |.lst ds=>if r.ok||RB ds then Qs (.nw ds) else Qn
  |_=>Qn)
 |_=>Qn
def iS:Tr X F (.type "list") dt:=Tr.of L8 λH0 H A xs rs e Q m g q ek hq=>by
 unfold dt at ek
 split at ek
 .rename_i r
  cases q with
  |cons q1 q2 =>
   cases q2
   split at ek
   .rename_i ds z
    refine bZ ek λc ek=>?_
    cases ek
    obtain⟨p,vs,rfl,h1,h2⟩:=q1.items m g z c
    exact⟨p,vs,rfl,.inl h1,λl hl=>hq _ _ (dW hl) ⟨l,vs,rfl,QS.free g hl,bF,QV.mono (jo hl) h2⟩⟩
   .cases ek
 .cases ek
def kR(f:Int->Int->Int):Ql Ev->Qo Ev:=λrs=>match rs with
 |[r1,r2]=>(match r1.d,r2.d with
  |.int i,.int j=>Qs (.cl (.int (f i j)))
  |_,_=>Qn)
 |_=>Qn
def Dg{v:M6}{f:Int->Int->Int}(h:iu X v (λxs H Q => ∃i j,xs=[.int i,.int j]/\Q (.int (f i j)) H)):Tr X F v (kR f):=Tr.of h λH0 H A xs rs e Q m g q ek hq=>by
 unfold kR at ek
 split at ek
 .rename_i r1 r2
  cases q with
  |cons q1 q' =>
   cases q' with
   |cons q2 q3 =>
    cases q3
    split at ek
    .rename_i i j z1 z2
     cases ek
     have p1:=q1.full
     have p2:=q2.full
     rw[z1]at p1;rw[z2]at p2
     cases cC p1;cases cC p2
     exact⟨i,j,rfl,hq _ H (QS.refl H) (.int _)⟩
    .cases ek
 .cases ek
def Dc(hc:X.calm=Qt):Tr X F (.builtin "min") (kR λi j=>if j<i then j else i):=Dg (L6 hc)
def Dd(hc:X.calm=Qt):Tr X F (.builtin "max") (kR λi j=>if j > i then j else i):=Dg (L7 hc)
def oB:D->Bool
 |.Ri=>Qt
 |_=>Qf
def jY:Ev->Ev->Qo Ev:=λr1 r2=>match r2.d with
 |.Ri=>Qs (.cl (.bl (oB r1.d)))
 |_=>Qn
def tG:Ev->Ev->Qo Ev:=λr1 r2=>match r2.d with
 |.Ri=>Qs (.cl (.bl (! oB r1.d)))
 |_=>Qn
def zG{d:D}(h:Rep K H d v):decide (v=.Ri)=oB d:=by
 cases h<;>simp[oB]
def AE:SX X F (compareOp .Is) jY:=by
 intro pins s σ H0 H A x y v u Q r1 r2 r I m g0 rx ry q1 q2 e hq
 unfold jY at e
 split at e
 .rename_i z
  cases e
  have p2:=q2.full
  rw[z]at p2
  cases p2
  exact Iq pins s σ H x _ v u Q I rx ry ⟨rfl,by rw[zG q1.full];exact hq _ H (QS.refl H) (.bl _)⟩
 .cases e
def Jj:SX X F (compareOp .IsNot) tG:=by
 intro pins s σ H0 H A x y v u Q r1 r2 r I m g0 rx ry q1 q2 e hq
 unfold tG at e
 split at e
 .rename_i z
  cases e
  have p2:=q2.full
  rw[z]at p2
  cases p2
  exact Ik pins s σ H x _ v u Q I rx ry ⟨rfl,by rw[zG q1.full];exact hq _ H (QS.refl H) (.bl _)⟩
 .cases e
def eD:Ql D->Qo (Ql Int)
 |[]=>Qs []
 |.int i::r=>(eD r).map λns=>i::ns
 |_::_=>Qn
def mw:∀{ds:Ql D}{ns:Ql Int},eD ds=Qs ns->ds=ns.map D.int
 |[],ns,e=>by cases e;rfl
 |.int i::r,ns,e=>by
  unfold eD at e
  cases e1:eD r with
  |none=>rw[e1]at e;cases e
  |some m=>rw[e1]at e;cases e;rw[mw e1];rfl
 |.Ri::r,ns,e=>by cases e
 |.bl _::r,ns,e=>by cases e
 |.str _::r,ns,e=>by cases e
 |.tup _::r,ns,e=>by cases e
 |.lst _::r,ns,e=>by cases e
def BK(ns:Ql Int):eD (ns.map D.int)=Qs ns:=by
 induction ns with
 |nil=>rfl
 |cons n r ih=>simp[eD,ih]
def je{K:MK}{H:Hp}:∀{ns:Ql Int}{vs:Ql V},QV K H (ns.map D.int) vs->vs=ns.map V.int
 |[],_,.nil=>rfl
 |n::r,_,.cons h q=>by cases cC h;rw[je q];rfl
def xF(i j:Int):cg (.int i) (.int j)=decide (i=j):=by
 rw[NT,Ug];simp
def zb0{i:Int}:sm i=Qt↔i.natAbs<RN:=by simp[sm]
def Tb{i:Int}(h:i.natAbs<2 ^ 256):sm i=Qt:=zb0.mpr (Nb h (by unfold RN;exact Oa (by decide) (by decide)))
def jL{i:Int}(h1 : -10000000000000000000000000000000000000000000000000000000000000000000000000000<i)(h2:i<10000000000000000000000000000000000000000000000000000000000000000000000000000):sm i=Qt:=by
 apply Tb
 have:(2:Nat) ^ 256=115792089237316195423570985008687907853269984665640564039457584007913129639936:=by decide
 lia
def Lx(d:D):cg d d=Qt:=Ug.mpr rfl
def aL{t':Th}(h:g1 t=Qs (.nx t')):aE g1 g2 t=g2 t':=by simp[aE,h]
def Rg.length{K:MK}{H0 H:Hp}:∀{ds:Ql D}{vs:Ql V}{B:Ql U1},Rg K H0 H ds vs B->vs.length=ds.length
 |_,_,_,.nil=>rfl
 |_,_,_,.cons _ r=>by simp[Rg.length r]
inductive Fcs(K:MK)(H0 H:Hp)(ds:List D)(vs:List V)(B:List U1)(j:Nat)(d:D):Prop
 |mk (v:_) (B1:_) (h_0:vs[j]?=Qs v) (h_1:Rn K H0 H d v B1) (h_2:(∀b∈B1,b∈B)) (h_3:(B.Nodup->B1.Nodup)) (h_4:∀RJ H' d2 B2,QS H0 RJ->Rn K RJ H' d2 v B2->B2.Sublist B1->(∀q∈B,q∉B1->∀o,H q=Qs o->H' q=Qs o)->B.Nodup->∃B',Rg K RJ H' (ds.set j d2) vs B'/\B'.Sublist B)
def Rg.focus{K:MK}{H0 H:Hp}:∀{ds:Ql D}{vs:Ql V}{B:Ql U1},Rg K H0 H ds vs B->∀{j:Nat}{d:D},ds[j]?=Qs d->Fcs K H0 H ds vs B j d
 |_,_,_,.nil,j,d,e=>by simp at e
 |_,_,_,.cons (v:=v) (B:=B) (C:=C) h r,0,d,e=>by
  simp at e;subst e
  refine⟨v,B,rfl,h,λb hb=>MJ _ hb,λn=>(MW.mp n).1,λRJ H' d2 B2 s q sb k nd=>⟨B2++C,.cons q (Rg.mono s r λp hp o w=>?_),N4 sb (Np _)⟩⟩
  exact k p (MI _ hp) (λz=>(MW.mp nd).2.2 p z p hp rfl) o w
 |_,_,_,.cons (v:=v) (B:=B) (C:=C) h r,j+1,d,e=>by
  obtain⟨v1,B1,a1,a2,a3,a5,a4⟩:=Rg.focus r (j:=j) (d:=d) (by simpa using e)
  refine⟨v1,B1,by simpa using a1,a2,λb hb=>MI _ (a3 b hb),λn=>a5 (MW.mp n).2.1,λRJ H' d2 B2 s q sb k nd=>?_⟩
  have n:=MW.mp nd
  obtain⟨B',b1,b2⟩:=a4 RJ H' d2 B2 s q sb (λq hq=>k q (MI _ hq)) n.2.1
  refine⟨B++B',.cons (Rn.mono s h λp hp o w=>k p (MJ _ hp) (λz=>n.2.2 p hp p (a3 p z) rfl) o w) b1,N4 (Np _) b2⟩
def gO:D->Ql Int->Qo D
 |d,[]=>Qs d
 |.tup ds,n::ns=>(RP ds n).bind λx=>gO x ns
 |.lst ds,n::ns=>(RP ds n).bind λx=>gO x ns
 |_,_::_=>Qn
def iD:D->Ql Int->D->Qo D
 |_,[],e=>Qs e
 |.tup ds,n::ns,e=>(Sz ds.length n).bind λj=>(ds[j]?).bind λx=>(iD x ns e).map λy=>.tup (ds.set j y)
 |.lst ds,n::ns,e=>(Sz ds.length n).bind λj=>(ds[j]?).bind λx=>(iD x ns e).map λy=>.lst (ds.set j y)
 |_,_::_,_=>Qn
def Reach(K:MK)(H:Hp):V->Ql Int->V->Prop
 |v,[],w=>v=w
 |v,n::ns,w => ∃p vs x,v=.ref p/\(Rm K H p vs\/RQ K H p vs)/\RP vs n=Qs x/\Reach K H x ns w
def Cz:∀{ds:Ql D}{j:Nat}{d:D},RB ds=Qt->ds[j]?=Qs d->flat d=Qt
 |[],j,d,_,e=>by simp at e
 |x::xs,0,d,f,e=>by simp[RB]at f;simp at e;subst e;exact f.1
 |x::xs,j+1,d,f,e=>by simp[RB]at f;exact Cz f.2 (by simpa using e)
def Lp{n:Int}{d:D}(f:RB ds=Qt)(e:RP ds n=Qs d):flat d=Qt:=by
 unfold L2.RP at e
 cases e1:Sz ds.length n with
 |none=>rw[e1]at e;cases e
 |some j=>rw[e1]at e;exact Cz f e
def CA:∀(ns:Ql Int) {d d1:D},flat d=Qt->gO d ns=Qs d1->flat d1=Qt
 |[],d,d1,f,e=>by cases e;exact f
 |n::ns,.tup ds,d1,f,e=>by
  simp only[gO]at e
  cases e1:RP ds n with
  |none=>rw[e1]at e;cases e
  |some x=>rw[e1]at e;exact CA ns (Lp (by simpa[flat] using f) e1) e
 |n::ns,.lst ds,d1,f,e=>by simp[flat]at f
 |n::ns,.Ri,d1,f,e=>by cases e
 |n::ns,.bl _,d1,f,e=>by cases e
 |n::ns,.int _,d1,f,e=>by cases e
 |n::ns,.str _,d1,f,e=>by cases e
def Fin(K:MK)(H0 H:Hp)(d:D)(v:V)(B:Ql U1)(ns:Ql Int)(p:U1)(B1:Ql U1):Prop :=
 ∀RJ H' es ws B2 d2,QS H0 RJ->H' p=Qs (.lst ws)->Rg K RJ H' es ws B2->B2.Sublist B1->iD d ns (.lst es)=Qs d2->(∀q∈B,q≠p->∀o,H q=Qs o->H' q=Qs o)->B.Nodup->∃B',Rn K RJ H' d2 v B'/\B'.Sublist B
def ym{α:Type}{xs:Ql α}{n:Int}{x:α}(e:RP xs n=Qs x):∃j,Sz xs.length n=Qs j/\xs[j]?=Qs x:=by
 unfold L2.RP at e
 cases e1:Sz xs.length n with
 |none=>rw[e1]at e;cases e
 |some j=>rw[e1]at e;exact⟨j,rfl,e⟩
def Rn.focus{K:MK}{H0 H:Hp}(hs:QS H0 H):∀(ns:Ql Int) {d:D}{v:V}{B:Ql U1}{VB:Ql D},Rn K H0 H d v B->B.Nodup->gO d ns=Qs (.lst VB) ->
  ∃p TV B1,Reach K H v ns (.ref p)/\H p=Qs (.lst TV)/\Rg K H0 H VB TV B1/\p∈B/\(∀b∈B1,b∈B)/\p∉B1/\Fin K H0 H d v B ns p B1
 |[],d,v,B,VB,h,nd,e=>by
  cases e
  cases h with
  |flat f r=>simp[DL.flat]at f
  |@lst _ p vs C h r =>
   refine⟨p,vs,C,rfl,h,r,MN ..,λb hb=>MM _ hb,(M3.mp nd).1,λRJ H' es ws B2 d2 s e1 e2 sb e3 k nd=>?_⟩
   cases e3
   exact⟨p::B2,.lst e1 e2,sb.cons₂ _⟩
 |n::ns,d,v,B,VB,h,nd,e=>by
  cases h with
  |flat f r=>exact absurd (CA (n::ns) f e) (by simp[DL.flat])
  |RX _ h r=>simp[gO]at e
  |Sw h=>simp[gO]at e
  |obj _ h r=>simp[gO]at e
  |@tup ds p0 vs C h r =>
   simp only[gO]at e
   rcases e1:RP ds n with _|x
   .rw[e1]at e;cases e
   rw[e1]at e
   obtain⟨j,j1,j2⟩:=ym e1
   obtain⟨v1,B1,a1,a2,a3,a5,a4⟩:=r.focus j2
   obtain⟨p,TV,B2,b1,b2,b3,b4,b5,b6,b7⟩:=Rn.focus hs ns a2 (a5 nd) e
   have ea:RP vs n=Qs v1:=by unfold L2.RP;rw[r.length,j1];exact a1
   refine⟨p,TV,B2,⟨p0,vs,v1,rfl,.inr (RQ.mono hs h),ea,b1⟩,b2,b3,a3 p b4,λb hb=>a3 b (b5 b hb),b6,λRJ H' es ws B3 d2 s VX e2 sb e3 k Vl=>?_⟩
   simp only[iD,j1,MP,j2]at e3
   rcases e4:iD x ns (.lst es) with _|y
   .rw[e4]at e3;cases e3
   rw[e4]at e3
   cases e3
   obtain⟨B',c1,c2⟩:=b7 RJ H' es ws B3 y s VX e2 sb e4 (λq hq=>k q (a3 q hq)) (a5 Vl)
   obtain⟨Zw,c3,c4⟩:=a4 RJ H' y B' s c1 c2 (λq hq nq=>k q hq λz=>nq (z ▸ b4)) Vl
   exact⟨Zw,.tup (RQ.mono s h) c3,c4⟩
  |@lst ds p0 vs C h r =>
   simp only[gO]at e
   have n0:=M3.mp nd
   rcases e1:RP ds n with _|x
   .rw[e1]at e;cases e
   rw[e1]at e
   obtain⟨j,j1,j2⟩:=ym e1
   obtain⟨v1,B1,a1,a2,a3,a5,a4⟩:=r.focus j2
   obtain⟨p,TV,B2,b1,b2,b3,b4,b5,b6,b7⟩:=Rn.focus hs ns a2 (a5 n0.2) e
   have ea:RP vs n=Qs v1:=by unfold L2.RP;rw[r.length,j1];exact a1
   refine⟨p,TV,B2,⟨p0,vs,v1,rfl,.inl (Rm.of h),ea,b1⟩,b2,b3,MM _ (a3 p b4),λb hb=>MM _ (a3 b (b5 b hb)),b6,λRJ H' es ws B3 d2 s VX e2 sb e3 k Vl=>?_⟩
   simp only[iD,j1,MP,j2]at e3
   rcases e4:iD x ns (.lst es) with _|y
   .rw[e4]at e3;cases e3
   rw[e4]at e3
   cases e3
   obtain⟨B',c1,c2⟩:=b7 RJ H' es ws B3 y s VX e2 sb e4 (λq hq=>k q (MM _ (a3 q hq))) (a5 n0.2)
   obtain⟨Zw,c3,c4⟩:=a4 RJ H' y B' s c1 c2 (λq hq nq=>k q (MM _ hq) λz=>nq (z ▸ b4)) n0.2
   exact⟨p0::Zw,.lst (k p0 (MN ..) (λz=>n0.1 (z ▸ a3 p b4)) _ h) c3,c4.cons₂ _⟩
inductive FDp(K:MK)(H0 H:Hp)(t:Th)(σ:L2.St)(A:List U1)(i:Nat)(d:D):Prop
 |mk (v:_) (B:_) (h_0:σ[i]?=Qs (Qs v)) (h_1:(∀b∈B,b∈A)) (h_2:B.Nodup) (h_3:Rn K H0 H d v B) (h_4:∀RJ H' d2 B2,QS H0 RJ->Rn K RJ H' d2 v B2->B2.Sublist B->(∀q∈A,q∉B->∀o,H q=Qs o->H' q=Qs o)->∃A2,Rc K RJ H' (t.set i (.dp d2)) σ A2/\A2.Sublist A)
def Rc.zaP :∀{t:Th}{σ:L2.St}{A:Ql U1},Rc K H0 H t σ A->A.Nodup->∀{i:Nat}{d:D},t[i]?=Qs (.dp d)->FDp K H0 H t σ A i d:=by
 intro _ _ _ h
 induction h with
 |nil =>
  intro n i d e
  simp at e
 |@no _ _ _ _ r ih =>
  intro n i d e
  cases i with
  |zero =>
   simp at e
  |succ i =>
   obtain⟨v,B,a,b,n',c,k⟩:=ih n (i:=i) (d:=d) (by simpa using e)
   refine⟨v,B,by simpa using a,b,n',c,λRJ H' d2 B2 s q sb w=>?_⟩
   obtain⟨A2,x,y⟩:=k RJ H' d2 B2 s q sb w
   exact⟨A2,.no x,y⟩
 |@val _ v _ _ _ h r ih =>
  intro n i d e
  cases i with
  |zero =>
   simp at e
  |succ i =>
   obtain⟨v,B,a,b,n',c,k⟩:=ih n (i:=i) (d:=d) (by simpa using e)
   refine⟨v,B,by simpa using a,b,n',c,λRJ H' d2 B2 s q sb w=>?_⟩
   obtain⟨A2,x,y⟩:=k RJ H' d2 B2 s q sb w
   exact⟨A2,.val (Rep.mono s h) x,y⟩
 |@own p _ _ _ _ _ h1 h2 r ih =>
  intro n i d e
  cases i with
  |zero =>
   simp at e
  |succ i =>
   have n0:=M3.mp n
   obtain⟨v,B,a,b,n',c,k⟩:=ih n0.2 (i:=i) (d:=d) (by simpa using e)
   refine⟨v,B,by simpa using a,λx hx=>MM _ (b x hx),n',c,λRJ H' d2 B2 s q sb w=>?_⟩
   obtain⟨A2,x,y⟩:=k RJ H' d2 B2 s q sb (λq hq=>w q (MM _ hq))
   exact⟨p::A2,.own (w p (MN ..) (λz=>n0.1 (b p z)) _ h1) (QV.mono s h2) x,y.cons₂ _⟩
 |@dp _ v C _ _ _ h r ih =>
  intro n i d e
  cases i with
  |zero =>
   simp at e;subst e
   have n0:=MW.mp n
   refine⟨v,C,rfl,λx hx=>MJ _ hx,n0.1,h,λRJ H' d2 B2 s q sb w=>?_⟩
   exact⟨_,.dp q (Rc.mono s r λp hp=>w p (MI _ hp) λz=>n0.2.2 p z p hp rfl),N4 sb (Np _)⟩
  |succ i =>
   have n0:=MW.mp n
   obtain⟨v,B,a,b,n',c,k⟩:=ih n0.2.1 (i:=i) (d:=d) (by simpa using e)
   refine⟨v,B,by simpa using a,λx hx=>MI _ (b x hx),n',c,λRJ H' d2 B2 s q sb w=>?_⟩
   obtain⟨A2,x,y⟩:=k RJ H' d2 B2 s q sb (λq hq=>w q (MI _ hq))
   exact⟨C++A2,.dp (Rn.mono s h λp hp=>w p (MJ _ hp) λz=>n0.2.2 p hp p (b p z) rfl) x,N4 (Np _) y⟩
inductive Plc(K:MK)(F A:List U1)(H:Hp)(t:Th)(σ:L2.St)(i:Nat)(d:D)(ns:List Int)(VB:List D):Prop
 |mk (v:_) (p:_) (TV:_) (B1:_) (h_0:σ[i]?=Qs (Qs v)) (h_1:Reach K H v ns (.ref p)) (h_2:H p=Qs (.lst TV)) (h_3:Rg K (ah (A++F) H) H VB TV B1) (h_4:p∉B1) (h_5:p∈A) (h_6:∀H1 es ws B2 d2,QS H H1->(∀H',(∀q,q≠p->H' q=H1 q)->QS (ah (A++F) H) (ah (A++F) H')->Rg K (ah (A++F) H') H' es ws B2)->B2.Sublist B1->iD d ns (.lst es)=Qs d2->∃A2,RS K F (L2.upd H1 p (.lst ws)) A2 (t.set i (.dp d2)) σ/\Gr A H A2 (L2.upd H1 p (.lst ws)))
def RS.place{d:D}{ns:Ql Int}{VB:Ql D}(R:RS K F H A t σ)(e:t[i]?=Qs (.dp d))(e1:gO d ns=Qs (.lst VB)) :
  Plc K F A H t σ i d ns VB:=by
 obtain⟨v,B,a1,a2,a3,a4,a5⟩:=R.rel.zaP R.nd e
 obtain⟨p,TV,B1,b1,b2,b3,b4,b5,b6,b7⟩:=a4.focus (aV _ _) ns a3 e1
 refine⟨v,p,TV,B1,a1,b1,b2,b3,b6,a2 p b4,λH1 es ws B2 d2 gs mk sb ep=>?_⟩
 have pA:p∈A:=a2 p b4
 have hh:QS (ah (A++F) H) (ah (A++F) (L2.upd H1 p (.lst ws))):=λb o q=>by
  obtain⟨n,q⟩:=cD q
  have nb:b≠p:=λz=>n (MJ _ (z ▸ pA))
  exact bw (by rw[aN nb];exact gs _ _ q) n
 have kp:∀q∈A,q≠p->∀o,H q=Qs o->L2.upd H1 p (.lst ws) q=Qs o:=λq _ n o h=>by rw[aN n];exact gs _ _ h
 obtain⟨B',c1,c2⟩:=b7 (ah (A++F) (L2.upd H1 p (.lst ws))) (L2.upd H1 p (.lst ws)) es ws B2 d2 hh bF (mk _ (λq n=>aN n) hh) sb ep (λq hq=>kp q (a2 q hq)) a3
 obtain⟨A2,d1,d3⟩:=a5 _ _ d2 B' hh c1 c2 (λq hq nq=>kp q hq λz=>nq (z ▸ b4))
 have sub:∀x∈A2,x∈A:=λx hx=>d3.subset hx
 have mu:RF (L2.upd H1 p (.lst ws)) (A++F):=λq hq=>by
  by_cases z:q=p
  .exact⟨mL ws,by rw[z];exact bF⟩
  .obtain⟨us,w⟩:=R.mu q hq
   exact⟨us,by rw[aN z];exact gs _ _ w⟩
 refine⟨A2,⟨λq hq=>mu q ?_,R.nd.sublist d3,λq hq=>R.dj q (sub q hq),Rc.mono (aZ _ λa z=>?_) d1 λ_ _ _ h=>h⟩,λb o n h=>?_,λb hb=>?_,λb hb=>.inl (sub b hb)⟩
 .exact(ML.mp hq).elim (λz=>MJ _ (sub q z)) (λz=>MI _ z)
 .exact(ML.mp z).elim (λz=>MJ _ (sub a z)) (λz=>MI _ z)
 .rw[aN (λz=>n (by rw[z];exact pA))];exact gs _ _ h
 .obtain⟨us,w⟩:=mu b (MJ _ hb)
  rw[w];simp
def iE:Ql DE->Th->Qo (Ql Int)
 |[],_=>Qs []
 |f::fs,t=>(f t).bind λr=>match r.d with
  |.int n=>(iE fs t).map (n::·)
  |_=>Qn
def z7{f:DE}{t:Th}:∀{fs:Ql DE}{WH:Ql Int},iE (fs++[f]) t=Qs WH->∃ns n r,iE fs t=Qs ns/\f t=Qs r/\r.d=.int n/\WH=ns++[n]
 |[],WH,e=>by
  simp only[Pc,iE]at e
  rcases e1:f t with _|r
  .rw[e1]at e;cases e
  rw[e1]at e
  simp only[MP]at e
  split at e
  .rename_i n z;cases e;exact⟨[],n,r,rfl,rfl,z,rfl⟩
  .cases e
 |g::fs,WH,e=>by
  simp only[OS,iE]at e
  rcases e1:g t with _|r
  .rw[e1]at e;cases e
  rw[e1]at e
  simp only[MP]at e
  split at e
  .rename_i n z
   rcases e2:iE (fs++[f]) t with _|ms
   .rw[e2]at e;cases e
   rw[e2]at e
   cases e
   obtain⟨ns,m,r',a1,a2,a3,a4⟩:=z7 e2
   refine⟨n::ns,m,r',?_,a2,a3,by rw[a4];rfl⟩
   simp only[iE,e1,MP,z,a1];rfl
  .cases e
def Reach.snoc{K:MK}{H:Hp}{n:Int}{w:V}:∀{ns:Ql Int}{v:V},Reach K H v (ns++[n]) w->∃p vs,Reach K H v ns (.ref p)/\(Rm K H p vs\/RQ K H p vs)/\RP vs n=Qs w
 |[],v,h=>by
  obtain⟨p,vs,x,rfl,h1,h2,h3⟩:=h
  cases h3
  exact⟨p,vs,rfl,h1,h2⟩
 |m::ns,v,h=>by
  obtain⟨p,vs,x,rfl,h1,h2,h3⟩:=h
  obtain⟨p',Tf,a1,a2,a3⟩:=Reach.snoc h3
  exact⟨p',Tf,⟨p,vs,x,rfl,h1,h2,a1⟩,a2,a3⟩
inductive XY(K:MK)(F:List U1)(i:Nat)(fs:List DE)(σ:L2.St)(H:Hp)(Q:VK):Prop
 |mk (A:_) (t:_) (v:_) (ns:_) (w:_) (h_0:RS K F H A t σ) (h_1:iE fs t=Qs ns) (h_2:σ[i]?=Qs (Qs v)) (h_3:Reach K H v ns w) (h_4:∀H',QS H H'->Q w H')
section
variable {fs:Ql DE}{rest:Ql U4}
def vL(i:Nat) (hN:X.N[i]?=Qs x:=by rfl)(hv:dh X.env.scope x:=by first | exact Or.inl rfl | exact Or.inr (Or.inl rfl) |exact Or.inr (Or.inr rfl))(hd:Sv x:=by decide)
  (R9:Tj x:=by decide):PE X (.Name x pos) (XY X.K F i []):=by
 refine PE.imp (dz (i:=i) hN hv hd R9) ?_
 rintro σ H Q ⟨A,t,v,ns,w,R,e,h1,h2,h⟩
 cases e
 cases h2
 exact⟨v,h1,h H (QS.refl H)⟩
def sA (ha:PE X a (XY X.K F i fs))(hb:PE X b (dE X.K F fb))(hs:mX b:=by intro _ _;rfl):PE X (.Subscript a b pos) (XY X.K F i (fs++[fb])):=by
 refine PE.imp (nW (Xm.or tO) ha hb hs) ?_
 rintro σ H Q ⟨A,t,v,ns,w,R,e,h1,h2,h⟩
 obtain⟨ms,n,r,a1,a2,a3,rfl⟩:=z7 e
 obtain⟨p,vs,b1,b2,b3⟩:=h2.snoc
 refine⟨A,t,v,ms,.ref p,R,a1,h1,b1,λH1 gs=>⟨A,t,r,R.grow gs,a2,λy H2 RZ q=>?_⟩⟩
 have p2:=q.full
 rw[a3]at p2
 cases cC p2
 rcases b2 with b2 | b2
 .exact .inl ⟨p,vs,n,w,rfl,rfl,Rm.mono (gs.trans RZ) b2,b3,h H2 (gs.trans RZ)⟩
 .exact .inr ⟨p,vs,n,w,rfl,rfl,RQ.mono (gs.trans RZ) b2,b3,h H2 (gs.trans RZ)⟩
def wK(t:Th)(i:Nat)(ns:Ql Int):Qo Out:=match t[i]? with
 |some (.dp d)=>match gO d ns with
  |some (.lst _)=>(iD d ns (.lst [])).map λd2=>.nx (t.set i (.dp d2))
  |_=>Qn
 |_=>Qn
def pb(i:Nat)(fs:Ql DE):DS:=λt=>(iE fs t).bind (wK t i)
def vF(i:Nat) (ho:PE X o (XY X.K F i fs))
  (UR:attributeBase o "clear" X.env (eval o X.env)=eval o X.env:=by rfl)
  (UP:(apos.endLine == R6.line)=Qt:=by rfl)
  (Tv:swapsWith (.Call (.Attribute o "clear" apos) [] [] R6) Qn pos.line X.env=pure Qf:=by rfl) :
  PS X (.Expr (.Call (.Attribute o "clear" apos) [] [] R6) pos) (dS X.K F (pb i fs)):=by
 refine PS.imp (lV (Ie OO PySem.F.slot_list_clear PySem.F.type_list_clear JE ho UR UP) Tv) ?_
 rintro E σ H ⟨A,t,o,R,e,h⟩
 unfold pb at e
 rcases e0:iE fs t with _|ns
 .rw[e0]at e;cases e
 rw[e0]at e
 have e:wK t i ns=Qs o:=e
 unfold wK at e
 split at e
 case h_2=>cases e
 rename_i d z
 split at e
 case h_2=>cases e
 rename_i ds z1
 rcases e3:iD d ns (.lst []) with _|d2
 .rw[e3]at e;cases e
 rw[e3]at e
 cases e
 obtain⟨v,p,TV,B1,a1,a2,a3,a4,a5,a6,a7⟩:=R.place z z1
 refine⟨A,t,v,ns,.ref p,R,e0,a1,a2,λH1 gs=>⟨.inl ⟨rfl,TV,Rm.of (gs _ _ a3)⟩,p,TV,rfl,rfl,gs _ _ a3,?_⟩⟩
 obtain⟨A2,R2,gr⟩:=a7 H1 [] [] [] d2 gs (λH' k hh=>.nil) (List.nil_sublist _) e3
 exact h _ _ _ gr R2
end
def toDn:Ev->Qo D
 |.cl d=>if flat d then Qs d else Qn
 |.tm d=>if flat d then Qs d else Qn
 |.nw xs=>if RB xs then Qs (.lst xs) else Qn
 |.dn d=>Qs d
def Rz.toDn{K:MK}{F A:Ql U1}{H H':Hp}{r:Ev}{v:V}{d:D}(m:RF H (A++F))(g:QS H H')(h:Rz K F A H H' r v)(e:toDn r=Qs d):Rz K F A H H' (.dn d) v:=by
 cases r with
 |cl d0 =>
  simp only[DL.toDn]at e
  split at e
  .rename_i f;cases e
   exact⟨[],NM,λb hb=>(by cases hb),.flat f h⟩
  .cases e
 |tm d0 =>
  simp only[DL.toDn]at e
  split at e
  .rename_i f;cases e
   exact⟨[],NM,λb hb=>(by cases hb),.flat f (Rep.RY (m.mono g) f (Rep.mono (aV _ _) h))⟩
  .cases e
 |nw xs =>
  simp only[DL.toDn]at e
  split at e
  .rename_i f;cases e
   obtain⟨p,vs,rfl,h1,h2,h3⟩:=h
   exact⟨[p],by simp,λb hb=>by simp at hb;subst hb;exact h1,.lst h2 (Rg.Xe f h3)⟩
  .cases e
 |dn d0=>cases e;exact h
abbrev DN:=Th->Qo (D×Ql Nat)
abbrev gx:=Th->Qo (Ql D×Ql Nat)
def DO(H:Hp)(t:Th)(σ:L2.St)(I:Ql Nat)(b:U1):Prop:=H b=Qn\/∃i∈I,∃xs,t[i]?=Qs (.own xs)/\σ[i]?=Qs (Qs (.ref b))
inductive dN(K:MK)(F:List U1)(f:DN)(σ:L2.St)(H:Hp)(Q:VK):Prop
 |mk (A:_) (t:_) (d:_) (I:_) (h_0:RS K F H A t σ) (h_1:f t=Qs (d,I)) (h_2:∀v H' B,QS H H'->B.Nodup->(∀b∈B,DO H t σ I b)->Rn K (ah (B++(A++F)) H') H' d v B->Q v H')
inductive WW(K:MK)(F:List U1)(f:gx)(σ:L2.St)(H:Hp)(Q:List V->Hp->Prop):Prop
 |mk (A:_) (t:_) (ds:_) (I:_) (h_0:RS K F H A t σ) (h_1:f t=Qs (ds,I)) (h_2:∀vs H' B,QS H H'->B.Nodup->(∀b∈B,DO H t σ I b)->Rg K (ah (B++(A++F)) H') H' ds vs B->Q vs H')
def Rc.zcq{b:U1}:∀{t:Th}{σ:L2.St}{A:Ql U1},Rc K H0 H t σ A->A.Nodup->∀{i j:Nat}{xs ys:Ql D},t[i]?=Qs (.own xs)->t[j]?=Qs (.own ys)->σ[i]?=Qs (Qs (.ref b))->σ[j]?=Qs (Qs (.ref b))->i=j:=by
 intro _ _ _ h
 induction h with
 |nil =>
  intro w0 i j xs ys e1 e2 s1 s2
  simp at e1
 |@no _ _ _ _ r ih =>
  intro n i j xs ys e1 e2 s1 s2
  cases i with
  |zero =>
   simp at e1
  |succ i =>
   cases j with
   |zero =>
    simp at e2
   |succ j =>
    exact congrArg (· + 1) (ih n (i:=i) (j:=j) (xs:=xs) (ys:=ys) (by simpa using e1) (by simpa using e2) (by simpa using s1) (by simpa using s2))
 |@val _ _ _ _ _ _ r ih =>
  intro n i j xs ys e1 e2 s1 s2
  cases i with
  |zero =>
   simp at e1
  |succ i =>
   cases j with
   |zero =>
    simp at e2
   |succ j =>
    exact congrArg (· + 1) (ih n (i:=i) (j:=j) (xs:=xs) (ys:=ys) (by simpa using e1) (by simpa using e2) (by simpa using s1) (by simpa using s2))
 |@own _ _ _ _ _ _ _ _ r ih =>
  intro n i j xs ys e1 e2 s1 s2
  cases i with
  |zero =>
   cases j with
   |zero =>
    exact rfl
   |succ j =>
    obtain⟨p,vs,a1,a2,_⟩:=r.T7 (i:=j) (ds:=ys) (by simpa using e2)
    simp at s1 s2
    rw[a1]at s2
    simp at s2
    subst s1;subst s2
    exact absurd a2 (M3.mp n).1
  |succ i =>
   cases j with
   |zero =>
    obtain⟨p,vs,a1,a2,_⟩:=r.T7 (i:=i) (ds:=xs) (by simpa using e1)
    simp at s1 s2
    rw[a1]at s1
    simp at s1
    subst s1;subst s2
    exact absurd a2 (M3.mp n).1
   |succ j =>
    exact congrArg (· + 1) (ih (M3.mp n).2 (i:=i) (j:=j) (xs:=xs) (ys:=ys) (by simpa using e1) (by simpa using e2) (by simpa using s1) (by simpa using s2))
 |@dp _ _ _ _ _ _ _ r ih =>
  intro n i j xs ys e1 e2 s1 s2
  cases i with
  |zero =>
   simp at e1
  |succ i =>
   cases j with
   |zero =>
    simp at e2
   |succ j =>
    exact congrArg (· + 1) (ih (MW.mp n).2.1 (i:=i) (j:=j) (xs:=xs) (ys:=ys) (by simpa using e1) (by simpa using e2) (by simpa using s1) (by simpa using s2))
section
variable {fs:Ql DE}{fn:DN}{fns:gx}
def dF(f:DE):DN:=λt=>(f t).bind λr=>(toDn r).map λd=>(d,[])
def lY(he:PE X a (dE X.K F fa)):PE X a (dN X.K F (dF fa)):=by
 refine PE.imp he ?_
 rintro σ H Q ⟨A,t,d,I,R,e,h⟩
 unfold dF at e
 rcases e1:fa t with _|r
 .rw[e1]at e;cases e
 rw[e1]at e
 simp only[MP]at e
 rcases e2:toDn r with _|d0
 .rw[e2]at e;cases e
 rw[e2]at e
 cases e
 refine⟨A,t,r,R,e1,λv H' gs q=>?_⟩
 obtain⟨B,b1,b2,b3⟩:=q.toDn R.mu gs e2
 exact h v H' B gs b1 (λb hb=>.inl (b2 b hb)) b3
def jU:gx:=λ_=>Qs ([],[])
def dQ(f:DN)(g:gx):gx:=λt=>(f t).bind λq=>(g t).bind λw=>if q.2.all (λi=>!w.2.contains i) then Qs (q.1::w.1,q.2++w.2) else Qn
def vK:PA X [] (WW X.K F jU):=PA.imp gH λσ H Q ⟨A,t,rs,I,R,e,h⟩=>by cases e;exact h [] H [] (QS.refl H) NM (λb hb=>by cases hb) .nil
def kx(ha:PE X a (dN X.K F fn))(hr:PA X es (WW X.K F fns))(hs:Na (a::es) X.env=(Qf,eval a X.env)::Na es X.env:=by rfl):PA X (a::es) (WW X.K F (dQ fn fns)):=by
 refine PA.imp (gI ha hr hs) ?_
 rintro σ H Q ⟨A,t,ds,I,R,e,h⟩
 unfold dQ at e
 rcases e1:fn t with _|q1
 .rw[e1]at e;cases e
 rcases e2:fns t with _|q2
 .rw[e1,e2]at e;cases e
 obtain⟨d1,I1⟩:=q1
 obtain⟨TF,I2⟩:=q2
 rw[e1,e2]at e
 simp only[MP]at e
 replace e:=S0 e
 obtain⟨dj,e⟩:=e
 cases e
 have dj:∀i∈I1,i∉I2:=λi hi=>by
  have:=NJ.mp dj i hi
  simpa using this
 refine⟨A,t,d1,I1,R,e1,λv H1 B1 g1 n1 f1 r1=>⟨A,t,TF,I2,R.grow g1,e2,λvs H2 B2 g2 n2 f2 r2=>?_⟩⟩
 have g:=g1.trans g2
 have l1:=r1.lists
 have l1':RF H2 B1:=l1.mono g2
 have l2:=r2.lists
 have lA:=R.mu.mono g
 refine h _ H2 (B1++B2) g (MW.mpr ⟨n1,n2,λx hx y hy e=>?_⟩) (λb hb=>?_) (.cons (Rn.RY ((l1'.app l2).app lA) (aV _ _) (Rn.mono (cT g2) r1 λ_ _ _ w=>g2 _ _ w)) (Rg.RY ((l1'.app l2).app lA) (aV _ _) r2))
 .subst e
  obtain⟨ws,hw⟩:=l1 x hx
  rcases f2 x hy with z | ⟨j,hj,ys,j1,j2⟩
  .rw[z]at hw;cases hw
  .rcases f1 x hx with z | ⟨i,hi,xs,i1,i2⟩
   .obtain⟨p,us,a1,_,a3,_⟩:=R.rel.T7 j1
    rw[a1]at j2
    simp at j2
    subst j2
    rw[z]at a3;cases a3
   .have:=R.rel.zcq R.nd i1 j1 i2 j2
    subst this
    exact dj i hi hj
 .rcases ML.mp hb with z | z
  .rcases f1 b z with w | ⟨i,hi,w⟩
   .exact .inl w
   .exact .inr ⟨i,MJ _ hi,w⟩
  .rcases f2 b z with w | ⟨i,hi,w⟩
   .exact .inl (QS.free g1 w)
   .exact .inr ⟨i,MI _ hi,w⟩
def n6(g:gx):DN:=λt=>(g t).bind λq=>if q.1.length<=1000 then Qs (.tup q.1,q.2) else Qn
def Hz{x1}(h:PA X es (WW X.K F fns)):PE X (.Tuple es x1 pos) (dN X.K F (n6 fns)):=by
 refine PE.imp (sJ h) ?_
 rintro σ H Q ⟨A,t,d,I,R,e,h⟩
 unfold n6 at e
 rcases e1:fns t with _|q
 .rw[e1]at e;cases e
 obtain⟨ds,I'⟩:=q
 rw[e1]at e
 simp only[MP]at e
 refine bZ e λhl e=>?_
 cases e
 refine⟨A,t,ds,I,R,e1,λvs H1 B g1 n1 f1 r1=>⟨by rw[r1.length];exact Uy (by lia),λp hp=>?_⟩⟩
 have s1:=dW (o:=HO.tup vs) hp
 have np:p∉B++(A++F):=dZ (r1.lists.app (R.mu.mono g1)) hp
 exact h _ _ B (g1.trans s1) n1 f1 (.tup (RQ.of (bw bF np)) (Rg.mono (cT s1) r1 λ_ _ _ w=>s1 _ _ w))
end
end DL
variable{fns:DL.gx}
namespace DL
open PySem.Spec L2
def Rg.zbu{K:MK}{H0 H:Hp}{d:D}{v:V}{C:Ql U1}(q:Rn K H0 H d v C):∀{ds:Ql D}{vs:Ql V}{B:Ql U1},Rg K H0 H ds vs B->Rg K H0 H (ds++[d]) (vs++[v]) (B++C)
 |_,_,_,.nil=>by
  have:=Rg.cons q .nil
  simpa using this
 |_,_,_,.cons h r=>by
  have:=Rg.cons h (Rg.zbu q r)
  simpa[Nv] using this
def fq(k:D->Th->Qo Th)(ft:DT)(fe:DE):Ql D->Th->Qo (Ql D)
 |[],_=>Qs []
 |d::ds,t=>(k d t).bind λt1=>(ft t1).bind λb=>if b then(fe t1).bind λr=>(toDn r).bind λd=>(fq k ft fe ds t1).map λxs=>d::xs else fq k ft fe ds t1
def iR(n:Nat)(cap:Ql Nat)(fs:DI)(k:D->Th->Qo Th)(ft:DT)(fe:DE):DE:=λt=>(fs t).bind λq=>(fI t cap).bind λc=>if q.2.length<=50000 then(fq k ft fe q.2 (M8 n Sl.no++c.2.map Sl.val)).map λxs=>.dn (.lst xs) else Qn
def xW{k:D->Th->Qo Th}{ft:DT}{fe:DE}:∀{ds:Ql D}{t:Th}{xs:Ql D},fq k ft fe ds t=Qs xs->xs.length<=ds.length
 |[],t,xs,e=>by cases e;simp
 |d::ds,t,xs,e=>by
  unfold fq at e
  refine aB e λt1 e1 e=>?_
  have e:((ft t1).bind λb=>if b then(fe t1).bind λr=>(toDn r).bind λd=>(fq k ft fe ds t1).map λxs=>d::xs else fq k ft fe ds t1)=Qs xs:=e
  refine aB e λb e2 e=>?_
  cases b with
  |false=>have:=xW (ds:=ds) (t:=t1) e;simp;lia
  |true =>
   have e:((fe t1).bind λr=>(toDn r).bind λd=>(fq k ft fe ds t1).map λxs=>d::xs)=Qs xs:=e
   refine aB e λr e3 e=>?_
   have e:((toDn r).bind λd=>(fq k ft fe ds t1).map λxs=>d::xs)=Qs xs:=e
   refine aB e λd0 e5 e=>?_
   have e:((fq k ft fe ds t1).map λxs=>d0::xs)=Qs xs:=e
   cases e4:fq k ft fe ds t1 with
   |none=>rw[e4]at e;cases e
   |some ys=>rw[e4]at e;cases e;have:=xW e4;simp;lia
inductive CN(K:MK)(kt:D->Th->Option Th)(ft:DT)(fe:DE)(ds xs:List D)(H1:Hp)(P:List U1)(p:U1)(Good:List U1->Hp->Prop)(i m:Nat)(σ:L2.St)(H:Hp):Prop
 |mk (th:Th) (acc rest:List D) (vs:List V) (B:List U1) (hm:i+m=ds.length) (R:RS K P H [] th σ) (ec:fq kt ft fe (ds.drop i) th=Qs rest) (ex:acc++rest=xs) (hv:H p=Qs (.lst vs)) (hr:Rg K (ah P H) H acc vs B) (nd:B.Nodup) (np:p∉B) (fr:∀b∈B,H1 b=Qn) (sm:QS H1 H) (gg:Good P H)
def CN.step{xs:Ql D}{P:Ql U1}{Good:Ql U1->Hp->Prop}{g:TG}{m:Nat}(src:Src K ds J Good)(hk:c8 K P g kt)(hp:p∈P)(hn:H1 p=Qn)(hx:xs.length<=50000)
  (c:CN K kt ft fe ds xs H1 P p Good i (m+1) σ H):J.go i H/\∃N:L2.St->Hp->Prop,(∀σ2 H2,N σ2 H2->∃m',m' < m+1/\CN K kt ft fe ds xs H1 P p Good (i+1) m' σ2 H2)/\∀x H2,J.Td i H x H2->g x σ H2 λσ2 H3 => ∃F',dT K F' ft σ2 H3 λb H4 =>
   if b=Qt then ∃F',dE K F' fe σ2 H4 λv H5 => ∃vs,H5 p=Qs (.lst vs)/\vs.length<Nn/\N σ2 (upd H5 p (.lst (vs++[v]))) else N σ2 H4:=by
 obtain⟨th,acc,rest,vs,B,hm,R,ec,ex,hv,hr,nd,np,fr,sm,gg⟩:=c
 have TN:i<ds.length:=by lia
 have VN:i+1+m=ds.length:=by lia
 refine⟨src.go _ _ i gg TN,CN K kt ft fe ds xs H1 P p Good (i+1) m,λ_ _ q=>⟨m,NP m,q⟩,λx H2 y=>?_⟩
 obtain⟨RZ,d,hd,rd⟩:=src.Td _ _ i x H2 gg R.mu y TN
 rw[xN TN hd]at ec
 refine aB ec λt1 k1 ec=>?_
 refine aB ec λbb k2 ec=>?_
 refine hk σ H2 [] th t1 d x _ (R.grow RZ) rd k1 λσ2 A2 S8 R2=>?_
 cases vY R2 S8
 refine⟨P,[],t1,bb,R2,k2,λH3 Wm=>?_⟩
 have s3:=RZ.trans Wm
 have R3:=R2.grow Wm
 clear R R2 RZ Wm S8 k1 k2 y rd TN hm
 cases bb with
 |false=>exact oA ⟨t1,acc,rest,vs,B,VN,R3,ec,ex,s3 _ _ hv,Rg.mono (cT s3) hr λp _ o w=>s3 _ _ w,nd,np,fr,sm.trans s3,src.keep _ _ _ _ gg (cT s3)⟩
 |true =>
  refine aB (show(fe t1).bind _=Qs rest from ec) λre k3 ec=>?_
  refine aB ec λde k5 ec=>?_
  refine sX ec λys k4 ec=>?_
  subst ec
  refine oz ⟨P,[],t1,re,R3,k3,λv H4 Vx q4=>⟨vs,Vx _ _ (s3 _ _ hv),yt hr.length ex hx,?_⟩⟩
  have s4:=s3.trans Vx
  have hu:QS (ah P H4) (ah P (upd H4 p (.lst (vs++[v])))):=tR hp
  have s5:=(cT s4).trans hu
  obtain⟨B4,n4,f4,r4⟩:=q4.toDn R3.mu Vx k5
  have nD4:p∉B4:=λz=>by cases(f4 _ z).symm.trans (s3 _ _ hv)
  refine⟨t1,acc++[de],ys,vs++[v],B++B4,VN,RS.W4 (R3.grow Vx) hp,k4,by rw[Nv];exact ex,bF,?_,?_,?_,?_,zA hn sm s4,src.keep _ _ _ _ gg s5⟩
  .refine Rg.zbu (Rn.mono hu (Rn.RY (R3.mu.mono Vx) (aV _ _) r4) λb hb o w=>?_) (Rg.mono s5 hr λb hb o w=>?_)
   .rw[aN (λz:b=p=>nD4 (z ▸ hb))];exact w
   .rw[aN (λz:b=p=>np (z ▸ hb))];exact s4 _ _ w
  .refine MW.mpr ⟨nd,n4,λx hx y hy e=>?_⟩
   subst e
   obtain⟨us,w⟩:=hr.lists x hx
   have:=s3 _ _ w
   rw[f4 x hy]at this;cases this
  .exact λz=>(ML.mp z).elim np nD4
  .exact λb hb=>(ML.mp hb).elim (fr b) λz=>QS.free (sm.trans s3) (f4 b z)
def Ez{fs:DI}{g:TG}(hk:∀F',c8 X.K F' g kt) (h:dE X.K F (iR n cap fs kt ft fe) σ H Q) :
  lO n cap (dI X.K F fs) g (λσ H Q => ∃F',dT X.K F' ft σ H Q) (λσ H Q => ∃F',dE X.K F' fe σ H Q) σ H Q:=by
 obtain⟨A,t,r,R,e,h⟩:=h
 refine aB e λq e1 e=>?_
 refine aB e λc e2 e=>?_
 obtain⟨b,ds⟩:=q
 obtain⟨c,XE⟩:=c
 refine bZ e λhlen e=>?_
 refine sX e λxs e3 e=>?_
 subst e
 obtain⟨XD,Wt,Ws⟩:=uo R e2
 refine⟨A,t,b,ds,R,e1,λJ H1 Good gs src gd p hD=>?_⟩
 have Wy:RF H1 (A++F):=R.mu.mono gs
 refine⟨CN X.K kt ft fe ds xs H1 (p::SS (b&&c) A F) p Good,⟨ds.length,⟨_,[],xs,[],[],O4 _,RS.block Wy hD tT BR gs Wt Ws,e3,rfl,bF,.nil,NM,Og,λ_ z=>(Og z).elim,dW hD,src.keep _ _ _ _ gd ((aZ H1 BS).trans (jo hD))⟩⟩,λi m σ' H' c'=>?_⟩
 cases m with
 |succ m=>exact .inr (c'.step src (hk _) (MN ..) hD (NG (xW e3) hlen))
 |zero =>
  obtain⟨th,acc,rest,vs,B,hm,_,ec,ex,hv,hr,nd,np,fr,sm,gg⟩:=c'
  cases hm
  rw[OG]at ec
  cases ec
  rw[Nt]at ex
  subst ex
  refine .inl ⟨src.stop _ _ gg,h _ H' (gs.trans sm) ⟨p::B,M3.mpr ⟨np,nd⟩,λx hx=>?_,.lst hv (Rg.RY (λq hq=>?_) (aV _ _) hr)⟩⟩
  .rcases MQ.mp hx with rfl | z
   .exact QS.free gs hD
   .exact QS.free gs (fr x z)
  .rcases ML.mp hq with z | z
   .rcases MQ.mp z with rfl | z
    .exact⟨mL vs,hv⟩
    .exact hr.lists q z
   .obtain⟨us,w⟩:=Wy q z
    exact⟨us,sm _ _ w⟩
def HU{fs:DI}{g:TG}(S:TK X scope)(hc:X.calm=Qt)(hi:PI X tg iter (dI X.K F fs))
  (hN:N'.length=n+cap.length) (To:∀(k:Nat) (j:Nat),cap[k]?=Qs j->∃x,N'[n+k]?=Qs x/\X.N[j]?=Qs x/\(x,NK)∈scope.names)
  (hg:∀C s₃ H₃ fp pins,PG (bS X N' scope C s₃ H₃ fp pins) tg g) (hk:∀F',c8 X.K F' g kt) (ht:∀C s₃ H₃ fp pins F',Tq (bS X N' scope C s₃ H₃ fp pins) ifs (dT X.K F' ft)) (he:∀C s₃ H₃ fp pins F',PE (bS X N' scope C s₃ H₃ fp pins) elt (dE X.K F' fe))
  (hs:∀x,foldedSetIterable iter X.env x=pure x:=by intro _;rfl):PE X (.ListComp elt [⟨tg,iter,ifs,0⟩] scope pos) (dE X.K F (iR n cap fs kt ft fe)) :=
 PE.imp (Av (g:=g) S hc hi hN To hg (λC s₃ H₃ fp pins Ts s σ H Q I ⟨F',q⟩=>ht C s₃ H₃ fp pins F' Ts s σ H Q I q) (λC s₃ H₃ fp pins Ts s σ H Q I ⟨F',q⟩=>he C s₃ H₃ fp pins F' Ts s σ H Q I q) hs) λ_ _ _ h=>Ez hk h
def Aq{fs:DI}{g:TG}(n:Nat)(cap:Ql Nat)(N':Ql Str)(hc:X.calm=Qt)(hi:PI X tg iter (dI X.K F fs))
  (hg:∀C s₃ H₃ fp pins,PG (bS X N' scope C s₃ H₃ fp pins) tg g) (hk:∀F',c8 X.K F' g kt) (ht:∀C s₃ H₃ fp pins F',Tq (bS X N' scope C s₃ H₃ fp pins) ifs (dT X.K F' ft)) (he:∀C s₃ H₃ fp pins F',PE (bS X N' scope C s₃ H₃ fp pins) elt (dE X.K F' fe))
  (UQ:scope.kind=.function:=by rfl) (Vu:mP scope.names X.env.kindOf=Qt:=by rfl) (hN:N'.length=n+cap.length:=by rfl) (To:kf N' X.N n scope.names 0 cap=Qt:=by rfl)
  (hs:∀x,foldedSetIterable iter X.env x=pure x:=by intro _;rfl):PE X (.ListComp elt [⟨tg,iter,ifs,0⟩] scope pos) (dE X.K F (iR n cap fs kt ft fe)) :=
 HU (uh UQ Vu) hc hi hN (λk j e=>by simpa using ph To k j e) hg hk ht he hs
section
variable {fs:Ql DE}{rest:Ql U4}
def wH:Ev->Ev->Qo Ev:=λr1 r2=>match r1,r2.d with
 |.nw xs,.int k=>if xs.length<=100&&decide (-1000000<=k/\k<=1000) then Qs (.nw (M8 k.toNat xs).flatten) else Qn
 |_,_=>Qn
def QV.rep{K:MK}{H:Hp}{ds:Ql D}{vs:Ql V}(r:QV K H ds vs):∀k:Nat,QV K H (M8 k ds).flatten (M8 k vs).flatten
 |0=>by simpa using .nil
 |k+1=>by simpa[N3] using r.app (QV.rep r k)
def fP:SX X F (binaryOp .Mult) wH:=by
 intro pins s σ H0 H A x y v u Q r1 r2 r I m g0 rx ry q1 q2 e hq
 unfold wH at e
 split at e
 .rename_i xs k z
  split at e
  .rename_i ok
   simp only[MX,SI]at ok
   cases e
   have p2:=q2.full
   rw[z]at p2
   cases cC p2
   obtain⟨p,vs,rfl,h1,h2,h3⟩:=q1
   refine Ii pins s σ H _ _ v u Q I rx ry ⟨p,k,vs,rfl,rfl,h2,by lia,by lia,?_,λl hl=>hq _ _ (dW hl) ⟨l,_,rfl,QS.free g0 hl,bF,QV.mono (jo hl) (QV.rep (QV.mono (aZ H λa z=>MM _ z) h3) _)⟩⟩
   refine Uy ?_
   rw[h3.length]
   have h5:k.toNat<=1000:=by lia
   exact NG (QF ok.1 h5) (by decide)
  .cases e
 .cases e
end
def kr(a b c:Int):Bool:=Builtin.Range.small a b c&&decide (c≠0/\c.natAbs<1000000/\0<=Builtin.Range.rangeSize a b c)
def rT(a b c:Int):Ql D:=(NI (Builtin.Range.rangeSize a b c).toNat).map λi=>.int (a+(i:Nat)*c)
def dR(k:Nat)(N:Ql Str)(g:DS):Ql D->Qo Ev:=λds=>if ds.length=k then(g (lP N ds)).bind dD else Qn
def eQ{k:Nat}(e:dR k N g ds=Qs r):ds.length=k:=by
 unfold dR at e
 split at e
 .assumption
 .cases e
def eP{k:Nat}(e:dR k N g ds=Qs r):∃o,g (lP N ds)=Qs o/\dD o=Qs r:=by
 unfold dR at e
 split at e
 .cases e1:g (lP N ds) with
  |none=>rw[e1]at e;cases e
  |some o=>rw[e1]at e;exact⟨o,rfl,e⟩
 .cases e
section
variable {UJ:Pos}{fs:DI}{g:TG}{y:Str}
def LO (up:∀{σ:L2.St}{H:Hp}{Q:VK},dE X.K F fc σ H Q->lO n cap (dI X.K F fs) g (λσ H Q => ∃F',dT X.K F' ft σ H Q) (λσ H Q => ∃F',dE X.K F' fe σ H Q) σ H Q)(hc:X.calm=Qt)(hi:PI X tg iter (dI X.K F fs))
  (hg:∀C s₃ H₃ fp pins,PG (bS X N' scope C s₃ H₃ fp pins) tg g) (ht:∀C s₃ H₃ fp pins F',Tq (bS X N' scope C s₃ H₃ fp pins) ifs (dT X.K F' ft)) (he:∀C s₃ H₃ fp pins F',PE (bS X N' scope C s₃ H₃ fp pins) elt (dE X.K F' fe))
  (Wl:X.N.Nodup) (We:X.N[i]?=Qs y) (hy:Loc X.env.scope y) (Tv:swapsWith (.ListComp elt [⟨tg,iter,ifs,0⟩] scope pos) (Qs (.Name y py)) UJ.line X.env=pure Qt) (hf:X.fn y=Qt\/X.env.scope.names.lookup y=Qs .local)
  (UQ:scope.kind=.function) (Vu:mP scope.names X.env.kindOf=Qt) (hN:N'.length=n+cap.length) (To:kf N' X.N n scope.names 0 cap=Qt) (hs:∀x,foldedSetIterable iter X.env x=pure x) :
  PS X (.Assign [.Name y py] (.ListComp elt [⟨tg,iter,ifs,0⟩] scope pos) UJ) (dS X.K F (aM i fc)):=by
 refine PS.imp (Ad (g:=g) (wi:=dI X.K F fs) (tt:=λσ H Q => ∃F',dT X.K F' ft σ H Q) (te:=λσ H Q => ∃F',dE X.K F' fe σ H Q) (uh UQ Vu) hc hi hN (λk j e=>by simpa using ph To k j e) hg (λC s₃ H₃ fp pins Ts s σ H Q I ⟨F',q⟩=>ht C s₃ H₃ fp pins F' Ts s σ H Q I q) (λC s₃ H₃ fp pins Ts s σ H Q I ⟨F',q⟩=>he C s₃ H₃ fp pins F' Ts s σ H Q I q) Wl We hy Tv hf hs) ?_
 rintro E σ H ⟨A,t,o,R,e,h⟩
 unfold aM at e
 refine aB e λr1 e1 e=>?_
 have e:(cJ t i r1).map Out.nx=Qs o:=e
 rcases e2:cJ t i r1 with _|t'
 .rw[e2]at e;cases e
 rw[e2]at e
 cases e
 refine up ⟨A,t,r1,R,e1,λv H' gs q=>?_⟩
 obtain⟨A',g',R'⟩:=R.put gs q e2
 exact h _ _ _ g' R'
def vB(n:Nat)(cap:Ql Nat)(N':Ql Str)(Wl:X.N.Nodup)(We:X.N[i]?=Qs y)(hy:Loc X.env.scope y)(hc:X.calm=Qt)(hi:PI X tg iter (dI X.K F fs))
  (hg:∀C s₃ H₃ fp pins,PG (bS X N' scope C s₃ H₃ fp pins) tg g) (hk:∀F',c8 X.K F' g kt) (ht:∀C s₃ H₃ fp pins F',Tq (bS X N' scope C s₃ H₃ fp pins) ifs (dT X.K F' ft)) (he:∀C s₃ H₃ fp pins F',PE (bS X N' scope C s₃ H₃ fp pins) elt (dE X.K F' fe))
  (Tv:swapsWith (.ListComp elt [⟨tg,iter,ifs,0⟩] scope pos) (Qs (.Name y py)) UJ.line X.env=pure Qt:=by rfl) (hf:X.fn y=Qt\/X.env.scope.names.lookup y=Qs .local:=by first | exact .inl rfl | exact .inr rfl)
  (UQ:scope.kind=.function:=by rfl) (Vu:mP scope.names X.env.kindOf=Qt:=by rfl) (hN:N'.length=n+cap.length:=by rfl) (To:kf N' X.N n scope.names 0 cap=Qt:=by rfl)
  (hs:∀x,foldedSetIterable iter X.env x=pure x:=by intro _;rfl):PS X (.Assign [.Name y py] (.ListComp elt [⟨tg,iter,ifs,0⟩] scope pos) UJ) (dS X.K F (aM i (bK n cap fs kt ft fe))) :=
 LO (λh=>zb hk h) hc hi hg ht he Wl We hy Tv hf UQ Vu hN To hs
end
section
variable {fs:Ql DE}{rest:Ql U4}
def kL:Ev->Ev->Qo Ev:=λr1 r2=>match r2.d with
 |.lst ds=>if aP r1.d&&ds.all (λd=>aP d&&aS 0 d r1.d) then Qs (.cl (.bl (!ds.any λd=>cg d r1.d))) else Qn
 |.tup ds=>if aP r1.d&&ds.all (λd=>aP d&&aS 0 d r1.d) then Qs (.cl (.bl (!ds.any λd=>cg d r1.d))) else Qn
 |_=>Qn
def AD:SX X F (compareOp .NotIn) kL:=by
 intro pins s σ H0 H A x y v u Q r1 r2 r I m g0 rx ry q1 q2 e hq
 unfold kL at e
 have p1:=q1.full
 have p2:=q2.full
 split at e
 .rename_i ds z
  rw[z]at p2
  refine bZ e λc e=>?_
  rw[MX]at c
  cases e
  cases p2 with
  |@lst _ p vs h1 h2 =>
   obtain⟨a,b⟩:=wZ p1 c.1 h2 c.2
   exact Ay pins s σ H x _ v u Q I rx ry ⟨p,vs,rfl,.inl h1,zy p1 c.1,a,by
    show Q (.bl (!mz x vs)) H
    rw[b];exact hq _ H (QS.refl H) (.bl _)⟩
 .rename_i ds z
  rw[z]at p2
  refine bZ e λc e=>?_
  rw[MX]at c
  cases e
  cases p2 with
  |@tup _ p vs h1 h2 =>
   obtain⟨a,b⟩:=wZ p1 c.1 h2 c.2
   exact Ay pins s σ H x _ v u Q I rx ry ⟨p,vs,rfl,.inr h1,zy p1 c.1,a,by
    show Q (.bl (!mz x vs)) H
    rw[b];exact hq _ H (QS.refl H) (.bl _)⟩
 .cases e
def dG:Int->Ql Int->Int
 |m,[]=>m
 |m,n::r=>dG (if n<m then n else m) r
def wx:∀(r:Ql Int) (m:Int),dG m r∈m::r/\∀a∈m::r,dG m r<=a
 |[],m=>⟨by simp[dG],by simp[dG]⟩
 |n::r,m=>by
  obtain⟨h1,h2⟩:=wx r (if n<m then n else m)
  have h3:=h2 (if n<m then n else m) (MN ..)
  have k1:(if n<m then n else m)<=m:=by split<;>lia
  have k2:(if n<m then n else m)<=n:=by split<;>lia
  refine⟨?_,λa ha=>?_⟩
  .show dG (if n<m then n else m) r∈m::n::r
   rcases MQ.mp h1 with z | z
   .rw[z];split<;>simp
   .simp[z]
  .show dG (if n<m then n else m) r<=a
   rcases MQ.mp ha with z | z
   .subst z;lia
   .rcases MQ.mp z with w | w
    .subst w;lia
    .exact h2 a (MM _ w)
def Jp{ys:Array (Int×Tok)}(hj:j<ys.size):numAt ys j∈ys.toList.map (·.1):=by
 rw[numAt_eq];exact getD_mem (by simpa using hj)
def L5(hc:X.calm=Qt):iu X (.builtin "min") (λxs H Q => ∃(p:U1) (ns:Ql Int) (M:Int),xs=[.ref p]/\Rm X.K H p (ns.map V.int)/\M∈ns/\(∀a∈ns,M<=a)/\Q (.int M) H):=by
 intro pins s σ H xs us Q I r h
 obtain⟨p,ns,M,rfl,hs,hm,hle,q⟩:=h
 obtain⟨u,rfl,ru⟩:=lK r
 cases ru
 obtain⟨Q7,rv,pl,_⟩:=I.list hs
 have hi:IntsAre Q7 ns:=wV rv
 obtain⟨ys,e⟩:=hi.allInts.items
 have hl:s.heap.IsList p (intItems ys):=by rw[<-e];exact PlainL.Tt pl
 have VM:ys.toList.map (·.1)=ns:=by
  have e2:numsOf (intItems ys).toList=ns:=by rw[<-e];exact hi.numsOf
  rw[<-nums_intItems];exact e2
 have hsz:0<ys.size:=by
  have:0<ns.length:=Pf hm
  rw[<-VM]at this;simpa using this
 refine min_intList (I.ok.hd hc) hl hsz λv h' tk hv hk=>?_
 obtain⟨t,rfl⟩:=intItems_at hv
 obtain⟨h1,h2⟩:=argBest_lt (numAt ys) (ys.size - 1)
 refine⟨.int M,H,I.kept (t':=tk) hk,⟨t,?_⟩,q⟩
 have a1:=hle _ (VM ▸ Jp (ys:=ys) (j:=argBest (λi j=>decide (numAt ys i<numAt ys j)) (ys.size - 1)) (by lia))
 rw[<-VM]at hm
 obtain⟨j,hj,ej⟩:=mem_getD hm
 have Yb:j<ys.size:=by simpa using hj
 have a2:=h2 j (by lia)
 rw[numAt_eq ys j,ej]at a2
 congr 1
 lia
end
section
variable {fs:Ql DE}{rest:Ql U4}
def kP(f:Int->Ql Int->Int):Ql Ev->Qo Ev:=λrs=>match rs with
 |[r]=>(match r.d with
  |.lst ds=>(match eD ds with
   |some (n::ns)=>Qs (.cl (.int (f n ns)))
   |_=>Qn)
  |_=>Qn)
 |_=>Qn
def L0{id':String}{f:Int->Ql Int->Int}(h:∀n ns,iu X (.builtin id') (λxs H Q => ∃p:U1,xs=[.ref p]/\Rm X.K H p ((n::ns).map V.int)/\Q (.int (f n ns)) H)):Tr X F (.builtin id') (kP f):=by
 intro pins s σ H0 H A xs us Q rs r I m g v q ek hq
 unfold kP at ek
 split at ek
 case h_2=>cases ek
 rename_i r0
 cases q with
 |@cons _ y _ ys q1 q2 =>
  cases q2
  split at ek
  case h_2=>cases ek
  rename_i ds z
  split at ek
  case h_2=>cases ek
  rename_i n ns z2
  cases ek
  have p:=q1.full
  rw[z,mw z2]at p
  cases p with
  |@lst _ l ws h1 h2 =>
   rw[je h2]at h1
   exact h n ns pins s σ H _ us Q I v ⟨l,rfl,h1,hq _ H (QS.refl H) (.int _)⟩
def LZ(hc:X.calm=Qt):Tr X F (.builtin "min") (kP dG) :=
 L0 λn ns pins s σ H xs us Q I v ⟨p,e,h1,q⟩=>L5 hc pins s σ H xs us Q I v ⟨p,n::ns,dG n ns,e,h1,(wx ns n).1,(wx ns n).2,q⟩
def Md:bootBuiltins "list"=Qs (.type "list"):=by decide +kernel
def yS:∀{xs:Ql V}{us:Ql M6},xs.length=us.length->(∀(i:Nat) (x:V) (u:M6),xs[i]?=Qs x->us[i]?=Qs u->RelV x u)->Vals xs us
 |[],[],_,_=>.nil
 |[],_::_,h,_=>by simp at h
 |_::_,[],h,_=>by simp at h
 |x::xs,u::us,h,k=>.cons (k 0 x u rfl rfl) (yS (by simpa using h) λi y w e1 e2=>k (i+1) y w (by simpa using e1) (by simpa using e2))
def KG{lo k:Int}{acc:Array M6}(h:ItemsOf (λi v => ∃t,v=.int (lo+i*k) t) acc n):Vals ((NI n).map λi=>V.int (lo+(i:Nat)*k)) acc.toList:=by
 refine yS (by simp[h.1]) λi x u e1 e2=>?_
 obtain⟨t,rfl⟩:=h.2 i u (by simpa using e2)
 have hi:i<n:=by
  cases Nat.lt_or_ge i n with
  |inl z=>exact z
  |inr z=>rw[Nj,Pp (by simpa using z)]at e1;cases e1
 rw[Nj,OB hi]at e1
 simp at e1
 subst e1
 exact⟨t,rfl⟩
def wu{lo hi k:Int}{t u v:Tok}{tk:Nat}(hc:X.calm=Qt)(I:L2.Inv X pins σ H s)(ok:kr lo hi k=Qt)(sz:Builtin.Range.rangeSize lo hi k<=50000)
  (q:∀p,H p=Qn->Q (.ref p) (upd H p (.lst ((NI (Builtin.Range.rangeSize lo hi k).toNat).map λi=>V.int (lo+(i:Nat)*k))))) :
  wpAny (model X.prog X.w) X.A (call (.type "list") [.ref s.heap.objs.size]) (EP X pins σ Q) X.xe { s with heap:=s.heap.push { cls:=.type "range",data:=.fields #[.int lo t,.int hi u,.int k v] },toks:=tk }:=by
 simp only[kr,MX,SI]at ok
 have I1:L2.Inv X pins σ H { s with heap:=s.heap.push { cls:=.type "range",data:=.fields #[.int lo t,.int hi u,.int k v] },toks:=tk }:=I.kept λb o e=>MV _ e
 have en:Builtin.Range.rangeSize lo hi k=(((Builtin.Range.rangeSize lo hi k).toNat:Nat):Int):=by lia
 refine call_list_range (I.ok.hd hc) (IsRange.new ..) ok.1 en (by lia) λh' tk' acc c' hk hS zd3=>?_
 refine⟨.ref _,_,I1.laid (o:=HO.lst ((NI (Builtin.Range.rangeSize lo hi k).toNat).map λi=>V.int (lo+(i:Nat)*k))) (t':=tk') hk (MZ _) ⟨?_,acc.toList,c',KG zd3,by simpa using hS⟩,rfl,q _ I1.fresh⟩
 refine Uy ?_
 rw[MY,Pl];lia
def rW:Ql D->Qo (Int×Int×Int)
 |[.int n]=>Qs (0,n,1)
 |[.int i,.int j]=>Qs (i,j,1)
 |[.int i,.int j,.int k]=>Qs (i,j,k)
 |_=>Qn
def ig(g:DA):DE:=λt=>(g t).bind λrs=>(rW (rs.map Ev.d)).bind λq=>if kr q.1 q.2.1 q.2.2&&decide (Builtin.Range.rangeSize q.1 q.2.1 q.2.2<=50000) then Qs (.nw (rT q.1 q.2.1 q.2.2)) else Qn
def sI (hc:X.calm=Qt)(hgl:Gl X "list")(hml:X.mg "list"=Qn)(Vt:Gl X "range")(Ya:X.mg "range"=Qn)(ha:PA X (a::es) (dA X.K F ga))
  (Sf:Na [.Call (.Name "range" p1) (a::es) [] p2] X.env=[(Qf,eval (.Call (.Name "range" p1) (a::es) [] p2) X.env)]:=by rfl)
  (zda:Na (a::es) X.env=(Qf,eval a X.env)::Na es X.env:=by rfl) (Xr:(OY p2 (Na es X.env)).any (·.1)=Qf:=by rfl) :
  PE X (.Call (.Name "list" p0) [.Call (.Name "range" p1) (a::es) [] p2] [] pos) (dE X.K F (ig ga)):=by
 intro pins s σ H Q I h
 obtain⟨A,t,r,R,e,h⟩:=h
 unfold ig at e
 rcases e1:ga t with _|rs
 .rw[e1]at e;cases e
 rw[e1]at e
 simp only[MP]at e
 rcases e2:rW (rs.map Ev.d) with _|q
 .rw[e2]at e;cases e
 rw[e2]at e
 simp only[MP]at e
 replace e:=S0 e
 obtain⟨ok,e⟩:=e
 simp only[MX,SI]at ok
 cases e
 have mk:∀(H1:Hp),QS H H1->∀p,H1 p=Qn->Q (.ref p) (upd H1 p (.lst ((NI (Builtin.Range.rangeSize q.1 q.2.1 q.2.2).toNat).map λi=>V.int (q.1+(i:Nat)*q.2.2)))):=λH1 g1 p hp=>by
  refine h _ _ (g1.trans (dW hp)) ⟨p,_,rfl,QS.free g1 hp,bF,?_⟩
  have e3:rT q.1 q.2.1 q.2.2=((NI (Builtin.Range.rangeSize q.1 q.2.1 q.2.2).toNat).map λi=>q.1+(i:Nat)*q.2.2).map D.int:=by simp[rT]
  have e4:((NI (Builtin.Range.rangeSize q.1 q.2.1 q.2.2).toNat).map λi=>V.int (q.1+(i:Nat)*q.2.2))=((NI (Builtin.Range.rangeSize q.1 q.2.1 q.2.2).toNat).map λi=>q.1+(i:Nat)*q.2.2).map V.int:=by simp
  rw[e3,e4]
  exact QV.ints _
 refine wpAny_Call_Name_kw (kJ I hgl hml Md (PyProof.Rows.callWith_type1 ?_ (by rw[Sf];rfl) rfl))
 rw[Sf]
 show wpAny _ _ (spliced ((Qf,eval (.Call (.Name "range" p1) (a::es) [] p2) X.env)::OY pos (Na [] X.env))) _ _ s
 refine Calls.spliced_cons (Call_ (kJ I Vt Ya boot_range (PyProof.Rows.callWith_type1 (aG (ha p2 pins s σ H (λvs H1=>QS H H1/\So X.K F A H H1 rs vs) I ⟨A,t,rs,R,e1,λvs H1 g1 q1=>⟨g1,q1⟩⟩) λus s1 ⟨vs,H1,I1,r1,g1,q1⟩=>?_) zda Xr)))
 have full:=q1.full
 obtain⟨q0,qh,qk⟩:=q
 unfold rW at e2
 split at e2
 .rename_i n z
  cases e2
  rw[z]at full
  have ev:=je (ns:=[qh]) full
  subst ev
  obtain⟨u,rfl,ru⟩:=r1.one
  obtain⟨t1,rfl⟩:=ru
  exact call_range_1 (Calls.spliced_nil (wu hc I1 ok.1 ok.2 (mk H1 g1)))
 .rename_i i j z
  cases e2
  rw[z]at full
  have ev:=je (ns:=[q0,qh]) full
  subst ev
  obtain⟨u,w,rfl,ru,Uw⟩:=r1.two
  obtain⟨t1,rfl⟩:=ru
  obtain⟨t2,rfl⟩:=Uw
  exact call_range_2 (Calls.spliced_nil (wu hc I1 ok.1 ok.2 (mk H1 g1)))
 .rename_i i j k z
  cases e2
  rw[z]at full
  have ev:=je (ns:=[q0,qh,qk]) full
  subst ev
  cases r1 with
  |cons r rr =>
   cases rr with
   |cons r' rr =>
    cases rr with
    |cons r'' rr =>
     cases rr
     obtain⟨t1,rfl⟩:=r
     obtain⟨t2,rfl⟩:=r'
     obtain⟨t3,rfl⟩:=r''
     have YA:=ok.1
     simp only[kr,MX,SI]at YA
     have lg:qk.natAbs.log2<9000:=ND (Bp (k:=20) (by have:=YA.2.2.1;lia)) (by decide)
     exact call_range_3 YA.2.1 (Calls.spliced_nil (wu hc I1 ok.1 ok.2 (mk H1 g1))) (.inl (PyProof.noPylong_of_log2 lg))
 .cases e2
end
section
variable {fs:Ql DE}{rest:Ql U4}
def BZ:DC X (nO X.K):=by
 intro pins s σ H o i ov iv Q I ro ri h
 obtain⟨p,xs,k,z,rfl,rfl,hq,he,q⟩:=h
 cases ro
 obtain⟨t,rfl⟩:=ri
 obtain⟨Q7,r,pl,hz⟩:=I.list hq
 obtain⟨j,h1,h2,h3,h4,h5⟩:=yn he
 obtain⟨w,ew,Uw⟩:=r.get h2
 have hl:=r.length
 have hn:=kH
 have fin:EP X pins σ Q w s:=⟨z,H,I,Uw,q⟩
 cases Int.lt_or_le k 0 with
 |inr h0 =>
  have hj:k.toNat=j:=Ni (by rw[<-seqIndex_of h0 h5];exact h1)
  exact wpAny_getItem_list (PlainL.Tt pl) h0 (by lia) (by rw[hj];simpa using ew) fin
 |inl h0 =>
  have hj:(k+(Q7.toArray.size:Int)).toNat=j:=by
   rw[Nd, <-hl]
   exact Ni (by rw[<-seqIndex_neg h0 h4];exact h1)
  exact wpAny_getItem_list_neg (PlainL.Tt pl) h0 (by rw[Nd];lia) (by lia) (by rw[hj];simpa using ew) fin
end
def Lf:Sl->Sl
 |.own xs=>.val (.lst xs)
 |.dp d=>.val d
 |s=>s
def kX(t:Th)(i:Nat):Th:=match t[i]? with
 |some s=>t.set i (Lf s)
 |none=>t
def uc(s:Sl)(t:Th)(i:Nat):kX (s::t) (i+1)=s::kX t i:=by
 unfold kX
 simp only[Ow]
 cases t[i]?<;>simp
def Rc.give{K:MK}{H0 H:Hp}:∀{t:Th}{σ:L2.St}{A:Ql U1} (i:Nat),Rc K H0 H t σ A->A.Nodup->∃(B A':Ql U1),A'.Sublist A/\(∀b∈B,b∈A/\b∉A')/\∀H1,QS H0 H1->(∀b∈B,∀o,H b=Qs o->H1 b=Qs o)->Rc K H1 H (kX t i) σ A'
 |_,_,_,i,.nil,_=>⟨[],[],Np _,λb hb=>(by cases hb),λH1 e _=>by simpa[kX] using Rc.nil⟩
 |_,_,A,0,.no r,n=>⟨[],A,Np _,λb hb=>(by cases hb),λH1 e _=>.no (Rc.mono e r λ_ _ _ h=>h)⟩
 |_,_,A,0,.val h r,n=>⟨[],A,Np _,λb hb=>(by cases hb),λH1 e _=>.val (Rep.mono e h) (Rc.mono e r λ_ _ _ h=>h)⟩
 |_,_,_,0,.own (p:=p) (A:=A) h1 h2 r,n=>by
  have n0:=M3.mp n
  refine⟨[p],A,OR _ _,λb hb=>?_,λH1 e k=>?_⟩
  .simp at hb;subst hb;exact⟨MN ..,n0.1⟩
  .exact .val (.lst (Rm.of (k p (by simp) _ h1)) (QV.mono e h2)) (Rc.mono e r λ_ _ _ h=>h)
 |_,_,_,0,.dp (B:=B) (A:=A) h r,n=>by
  have n0:=MW.mp n
  refine⟨B,A,O5 _ _,λb hb=>⟨MJ _ hb,λz=>n0.2.2 b hb b z rfl⟩,λH1 e k=>?_⟩
  exact .val (h.rep e k) (Rc.mono e r λ_ _ _ h=>h)
 |_,_,_,i+1,.no r,n=>by
  obtain⟨B,A',a1,a2,a3⟩:=Rc.give i r n
  refine⟨B,A',a1,a2,λH1 e k=>?_⟩
  rw[uc];exact .no (a3 H1 e k)
 |_,_,_,i+1,.val h r,n=>by
  obtain⟨B,A',a1,a2,a3⟩:=Rc.give i r n
  refine⟨B,A',a1,a2,λH1 e k=>?_⟩
  rw[uc];exact .val (Rep.mono e h) (a3 H1 e k)
 |_,_,_,i+1,.own (p:=p) h1 h2 r,n=>by
  have n0:=M3.mp n
  obtain⟨B,A',a1,a2,a3⟩:=Rc.give i r n0.2
  refine⟨B,p::A',a1.cons₂ _,λb hb=>⟨MM _ (a2 b hb).1,λz=>?_⟩,λH1 e k=>?_⟩
  .rcases MQ.mp z with w | w
   .exact n0.1 (w ▸ (a2 b hb).1)
   .exact(a2 b hb).2 w
  .rw[uc];exact .own h1 (QV.mono e h2) (a3 H1 e k)
 |_,_,_,i+1,.dp (B:=C) h r,n=>by
  have n0:=MW.mp n
  obtain⟨B,A',a1,a2,a3⟩:=Rc.give i r n0.2.1
  refine⟨B,C++A',N4 (Np _) a1,λb hb=>⟨MI _ (a2 b hb).1,λz=>?_⟩,λH1 e k=>?_⟩
  .rcases ML.mp z with w | w
   .exact n0.2.2 b w b (a2 b hb).1 rfl
   .exact(a2 b hb).2 w
  .rw[uc];exact .dp (Rn.mono e h λ_ _ _ w=>w) (a3 H1 e k)
def RS.give{K:MK}{F A:Ql U1}{H:Hp}{t:Th}{σ:L2.St}(R:RS K F H A t σ)(i:Nat):∃A',RS K F H A' (kX t i) σ/\Gr A H A' H:=by
 obtain⟨B,A',a1,a2,a3⟩:=R.rel.give i R.nd
 have sub:∀x∈A',x∈A:=λx hx=>a1.subset hx
 refine⟨A',⟨λq hq=>R.mu q ((ML.mp hq).elim (λz=>MJ _ (sub q z)) λz=>MI _ z),R.nd.sublist a1,λp hp=>R.dj p (sub p hp),a3 _ (aZ H λa z=>(ML.mp z).elim (λz=>MJ _ (sub a z)) λz=>MI _ z) λb hb o h=>bw h λz=>?_⟩,⟨λ_ _ _ h=>h,λb hb=>?_,λb hb=>.inl (sub b hb)⟩⟩
 .rcases ML.mp z with w | w
  .exact(a2 b hb).2 w
  .exact R.dj b (a2 b hb).1 w
 .obtain⟨vs,q⟩:=R.mu b (MJ _ hb)
  rw[q];simp
def kc(i:Nat)(g:DS):DS:=λt=>g (kX t i)
def LM{E:Ends}(h:dS K F (kc i g) E σ H):dS K F g E σ H:=by
 obtain⟨A,t,o,R,e,p⟩:=j8 h
 obtain⟨A',R',gr⟩:=R.give i
 exact j9 R' e (p.back gr)
def nS (i:Nat)(h:PS X st (dS X.K F g)):PS X st (dS X.K F (kc i g)):=PS.imp h λ_ _ _ q=>LM q
section
variable {fs:Ql DE}{rest:Ql U4}
def jm(n:Int):Ql Int->Ql Int
 |[]=>[n]
 |m::r=>if n<=m then n::m::r else m::jm n r
def cS:Ql Int->Ql Int
 |[]=>[]
 |n::r=>jm n (cS r)
def wY(n:Int):∀r:Ql Int,(jm n r).Perm (n::r)
 |[]=>OV _
 |m::r=>by
  unfold jm
  split
  .exact OV _
  .exact(Ro m (wY n r)).trans (Rp n m r)
def lQ:∀r:Ql Int,(cS r).Perm r
 |[]=>OV _
 |n::r=>(wY n _).trans (Ro n (lQ r))
def BN(n:Int):∀r:Ql Int,r.Pairwise (·<=·)->(jm n r).Pairwise (·<=·)
 |[],_=>by simp[jm]
 |m::r,h=>by
  unfold jm
  have hc:=NS.mp h
  split
  .rename_i hle
   refine NS.mpr ⟨λx hx=>?_,h⟩
   rcases MQ.mp hx with rfl | z
   .exact hle
   .exact Q1 hle (hc.1 x z)
  .rename_i hle
   refine NS.mpr ⟨λx hx=>?_,BN n r hc.2⟩
   rcases MQ.mp ((wY n r).mem_iff.mp hx) with rfl | z
   .lia
   .exact hc.1 x z
def uT:∀r:Ql Int,(cS r).Pairwise (·<=·)
 |[]=>List.Pairwise.nil
 |n::r=>BN n _ (uT r)
def zl:∀{xs ys:Ql Int},xs.Perm ys->xs.Pairwise (·<=·)->ys.Pairwise (·<=·)->xs=ys
 |[],ys,p,_,_=>(List.Perm.nil_eq p)
 |x::xs,[],p,_,_=>absurd p.length_eq (by simp)
 |x::xs,y::ys,p,h1,h2=>by
  have c1:=NS.mp h1
  have c2:=NS.mp h2
  have e:x=y:=by
   have m1:x∈y::ys:=p.mem_iff.mp (MN ..)
   have m2:y∈x::xs:=p.mem_iff.mpr (MN ..)
   have l1:y<=x:=by rcases MQ.mp m1 with z | z;lia;exact c2.1 x z
   have l2:x<=y:=by rcases MQ.mp m2 with z | z;lia;exact c1.1 y z
   lia
  subst e
  rw[zl (QK p) c1.2 c2.2]
def L4:iu X (.builtin "sorted") (λxs H Q => ∃(p:U1) (ns:Ql Int),xs=[.ref p]/\Rm X.K H p (ns.map V.int)/\ns.length<64/\∀l,H l=Qn->Q (.ref l) (upd H l (.lst ((cS ns).map V.int)))):=by
 intro pins s σ H xs us Q I r h
 obtain⟨p,ns,rfl,hs,h64,q⟩:=h
 obtain⟨u,rfl,ru⟩:=lK r
 cases ru
 obtain⟨Q7,rv,pl,_⟩:=I.list hs
 have hi:IntsAre Q7 ns:=wV rv
 have hl:=hi.length
 refine sorted_ints (PlainL.Tt pl) hi (by lia) λout WH hI hp ho=>?_
 have e:WH=cS ns:=zl (hp.trans (lQ ns).symm) ho (uT ns)
 subst e
 obtain⟨k,ek⟩:=sortedAll_at s.heap Q7 out
 have fr:s.heap.objs.size<=s.heap.objs.size+1:=QI _
 refine⟨.ref _,_,I.laid (o:=HO.lst ((cS ns).map V.int)) (t':=s.toks) (λb o e=>sortedAll_old e) fr ⟨?_,out.toList,k,uJ hI,by simpa[seqObj] using ek⟩,rfl,q _ (I.Rw.fresh fr)⟩
 refine Uy ?_
 rw[MY,(lQ ns).length_eq];lia
def g9:Ql Ev->Qo Ev:=λrs=>match rs with
 |[r]=>(match r.d with
  |.lst ds=>(eD ds).bind λns=>if ns.length<64 then Qs (.nw ((cS ns).map D.int)) else Qn
  |_=>Qn)
 |_=>Qn
def um:Tr X F (.builtin "sorted") g9:=Tr.of L4 λH0 H A xs rs e Q m g q ek hq=>by
 unfold g9 at ek
 split at ek
 case h_2=>cases ek
 cases q with
 |cons q1 q2 =>
  cases q2
  split at ek
  case h_2=>cases ek
  rename_i ds z
  rcases e1:eD ds with _|ns
  .rw[e1]at ek;cases ek
  rw[e1]at ek
  simp only[MP]at ek
  replace ek:=S0 ek
  obtain⟨c,ek⟩:=ek
  cases ek
  have p:=q1.full
  rw[z,mw e1]at p
  cases p with
  |lst h1 h2 =>
   rw[je h2]at h1
   exact⟨_,ns,rfl,h1,c,λl hl=>hq _ _ (dW hl) ⟨l,_,rfl,QS.free g hl,bF,QV.ints _⟩⟩
end
def hU:Ev->Qo Ev:=λr=>match r.d with
 |.lst ds=>if r.ok||RB ds then Qs (.nw ds.reverse) else Qn
 |_=>Qn
def QV.rev{K:MK}{H:Hp}:∀{ds:Ql D}{vs:Ql V},QV K H ds vs->QV K H ds.reverse vs.reverse
 |_,_,.nil=>.nil
 |_,_,.cons h r=>by rw[Pk,Pk];exact(QV.rev r).app (QV.one h)
def Ap{p3 p4:Pos}{j}(ha:PE X a (dE X.K F fa)):PE X (.Subscript a (.Slice Qn Qn (Qs (.UnaryOp .USub (.Constant (.int 1) j p3) p4)) p2) pos) (dE X.K F (d1 hU fa)):=by
 intro pins s σ H Q I h
 obtain⟨A,t,r,R,e,h⟩:=h
 unfold d1 at e
 refine aB e λr1 e1 e=>?_
 have e:hU r1=Qs r:=e
 unfold hU at e
 split at e
 case h_2=>cases e
 rename_i ds z
 refine bZ e λok e=>?_
 cases e
 refine Subscript_ (aG (ha pins s σ H (λx H1=>QS H H1/\Rz X.K F A H H1 r1 x) I ⟨A,t,r1,R,e1,λx H1 gs q=>⟨gs,q⟩⟩) λv s1 ⟨x,H1,I1,rx,gs,q⟩=>?_)
 obtain⟨p,vs,rfl,h1,h2⟩:=q.items R.mu gs z ok
 cases rx
 refine wpAny_Slice ?_
 rw[evalPart_none]
 refine Nc (Nc ?_)
 rw[evalPart_some]
 refine aG ((sH (F:=F) (aF (i:=1))) pins s1 σ H1 (λy H2=>y=.int (-1)/\H2=H1\/(y=.int (-1)/\QS H1 H2)) I1 ⟨A,t,.cl (.int (-1)),R.grow gs,rfl,λy H2 RZ q2=>.inr ⟨cC q2.full,RZ⟩⟩) λu s2 ⟨y,H2,I2,ry,qy⟩=>?_
 have RZ:QS H1 H2:=by rcases qy with⟨_,e⟩ | ⟨_,e⟩;rw[e];exact QS.refl _;exact e
 have ey:y=.int (-1):=by rcases qy with⟨e,_⟩ | ⟨e,_⟩<;>exact e
 subst ey
 obtain⟨tk,rfl⟩:=ry
 obtain⟨Q7,rv,pl,hz⟩:=I2.list (Rm.mono RZ h1)
 have I3:L2.Inv X pins σ H2 { s2 with heap:=s2.heap.push { cls:=.type "slice",data:=.fields #[.none,.none,.int (-1) tk] } }:=I2.kept (t':=s2.toks) λb ob q=>MV _ q
 have hl:=PlainL.Tt pl
 show wpAny (model X.prog X.w) X.A (subscriptTail a (.Slice Qn Qn (Qs (.UnaryOp .USub (.Constant (.int 1) j p3) p4)) p2) (.ref p) (.ref s2.heap.objs.size)) (EP X pins σ Q) X.xe { s2 with heap:=s2.heap.push { cls:=.type "slice",data:=.fields #[.none,.none,.int (-1) tk] } }
 refine tail_any (ops:=[.ref p,.ref s2.heap.objs.size]) (hl.push _).typeIs slot_list_getitem.lookup (wpAny_getItem_list_slice (hl.push _) (Heap.IsSliceOf.new ..) .none .none (.int (-1) tk) (by simp) ?_ ?_) (by with_unfolding_all rfl)
 .have l1:=rv.length
  have hn:=I3.fresh
  refine⟨.ref _,_,?_,rfl,h _ _ ((gs.trans RZ).trans (dW hn)) ⟨_,vs.reverse,rfl,QS.free (gs.trans RZ) hn,bF,QV.mono (jo hn) (QV.mono (cT RZ) h2).rev⟩⟩
  refine I3.laid (o:=HO.lst vs.reverse) (t':=s2.toks) (λb ob q=>MV _ q) (MZ _) ⟨by rw[PH];exact hz,Q7.reverse,0,rv.reverse,?_⟩
  rw[PySem.W.krv_pick]
  exact Nh _ rfl
 .rw[Nd, <-rv.length];exact hz
end DL
namespace L2
open PySem.W
def uq:Nat:=2 ^ 1048576
theorem yP:∀{ns:Ql Int}{n:Int},n∈ns->WData.weight (.int n)<=WData.weightAll (ns.map WData.int)
 |m::r,n,h=>by
  rw[M4]
  unfold WData.weightAll
  rcases MQ.mp h with rfl | z
  .lia
  .have:=yP z;lia
theorem Mf{ns:Ql Int}(h:WData.layableAll [WData.list (ns.map WData.int)]=Qt):∀n∈ns,n.natAbs<uq:=λn hn=>by
 have h1:WData.layable (WData.list (ns.map WData.int))=Qt:=by simpa[WData.layableAll] using h
 have h2:WData.weight (WData.list (ns.map WData.int))<=2 ^ 20:=by
  unfold WData.layable at h1
  simp only[MX,SI]at h1
  exact h1.2
 have h3:WData.weight (.int n)<=2 ^ 20:=by
  refine NG (yP hn) ?_
  have e:WData.weight (WData.list (ns.map WData.int))=WData.weightAll (ns.map WData.int):=by simp[WData.weight]
  rw[<-e];exact h2
 by_cases z:n=0
 .subst z;unfold uq;exact Nat.pow_pos (by decide)
 .have h4:n.natAbs.log2+1<=2 ^ 20:=by
   have:WData.weight (.int n)=n.natAbs.log2+1:=by simp[WData.weight,z]
   rw[<-this];exact h3
  have h5:n.natAbs.log2<1048576:=by lia
  exact(SM (by lia)).mp h5
end L2
namespace DL
open PySem.Spec L2
def Mh:Nat:=2 ^ 1100000
def ME(i:Int):Bool:=decide (i.natAbs<Mh)
def Rc.Xk{K:MK}{H0 H:Hp}{p:U1}{xs:Ql D}:∀{t:Th}{σ:L2.St}{A:Ql U1} (i:Nat),Rc K H0 H t σ A->A.Nodup->t[i]?=Qs (.own xs)->σ[i]?=Qs (Qs (.ref p)) ->
  ∃A':Ql U1,A'.Sublist A/\p∉A'/\∀RJ H1,QS H0 RJ->(∀b∈A',∀o,H b=Qs o->H1 b=Qs o)->Rc K RJ H1 (t.set i .no) σ A'
 |_,_,_,i,.nil,_,e,_=>by simp at e
 |_,_,_,0,.no r,_,e,_=>by simp at e
 |_,_,_,0,.val h r,_,e,_=>by simp at e
 |_,_,_,0,.dp h r,_,e,_=>by simp at e
 |_,_,_,0,.own (p:=q) (A:=A) h1 h2 r,n,e,f=>by
  have n0:=M3.mp n
  have:q=p:=by simpa using f
  subst this
  exact⟨A,OR _ _,n0.1,λRJ H1 s k=>.no (Rc.mono s r k)⟩
 |_,_,_,i+1,.no r,n,e,f=>by
  obtain⟨A',a1,a2,a3⟩:=Rc.Xk i r n (by simpa using e) (by simpa using f)
  exact⟨A',a1,a2,λRJ H1 s k=>.no (a3 RJ H1 s k)⟩
 |_,_,_,i+1,.val h r,n,e,f=>by
  obtain⟨A',a1,a2,a3⟩:=Rc.Xk i r n (by simpa using e) (by simpa using f)
  exact⟨A',a1,a2,λRJ H1 s k=>.val (Rep.mono s h) (a3 RJ H1 s k)⟩
 |_,_,_,i+1,.own (p:=q) h1 h2 r,n,e,f=>by
  have n0:=M3.mp n
  obtain⟨_,_,b1,b2,_,_⟩:=r.T7 (i:=i) (ds:=xs) (by simpa using e)
  have f':=f
  rw[Ow,b1]at f'
  cases f'
  obtain⟨A',a1,a2,a3⟩:=Rc.Xk i r n0.2 (by simpa using e) (by simpa using f)
  refine⟨q::A',a1.cons₂ _,λz=>?_,λRJ H1 s k=>.own (k q (by simp) _ h1) (QV.mono s h2) (a3 RJ H1 s λb hb=>k b (MM _ hb))⟩
  rcases MQ.mp z with w | w
  .exact n0.1 (w ▸ b2)
  .exact a2 w
 |_,_,_,i+1,.dp (B:=C) h r,n,e,f=>by
  have n0:=MW.mp n
  obtain⟨_,_,b1,b2,_,_⟩:=r.T7 (i:=i) (ds:=xs) (by simpa using e)
  have f':=f
  rw[Ow,b1]at f'
  cases f'
  obtain⟨A',a1,a2,a3⟩:=Rc.Xk i r n0.2.1 (by simpa using e) (by simpa using f)
  refine⟨C++A',N4 (Np _) a1,λz=>?_,λRJ H1 s k=>.dp (Rn.mono s h λb hb=>k b (MJ _ hb)) (a3 RJ H1 s λb hb=>k b (MI _ hb))⟩
  rcases ML.mp z with w | w
  .exact n0.2.2 p w p b2 rfl
  .exact a2 w
def Gk{d:D}(r:Rep K H d v)(s:aP d=Qt):∀Hx,Rep K Hx d v:=λHx=>by
 cases r with
 |Ri=>exact .Ri
 |bl b=>exact .bl b
 |int i=>exact .int i
 |str x=>exact .str x
 |tup _ _=>cases s
 |lst _ _=>cases s
 |RX _ _ _=>cases s
 |Sw _=>cases s
 |Tx _=>cases s
 |adr _=>cases s
 |Rx _=>cases s
 |obj _ _ _=>cases s
def sV:D->V
 |.bl b=>.bl b
 |.int i=>.int i
 |.str x=>.str x
 |_=>.Ri
def wF:D->Qo aK
 |.int i=>Qs (Sum.inl i)
 |.str x=>Qs (Sum.inr x)
 |_=>Qn
def vt{d:D}(r:Rep K H d v)(s:aP d=Qt):v=sV d:=by
 cases r with
 |Ri=>rfl
 |bl b=>rfl
 |int i=>rfl
 |str x=>rfl
 |tup _ _=>cases s
 |lst _ _=>cases s
 |RX _ _ _=>cases s
 |Sw _=>cases s
 |Tx _=>cases s
 |adr _=>cases s
 |Rx _=>cases s
 |obj _ _ _=>cases s
def Fw :∀{d:D},aP d=Qt->Rep K H d (sV d)
 |.Ri,_=>.Ri
 |.bl b,_=>.bl b
 |.int i,_=>.int i
 |.str x,_=>.str x
 |.tup _,s=>by cases s
 |.lst _,s=>by cases s
 |.RX _ _,s=>by cases s
 |.Sw _,s=>by cases s
 |.Tx _,s=>by cases s
 |.adr _,s=>by cases s
 |.Rx _,s=>by cases s
 |.obj _ _ _,s=>by cases s
def FP:∀{d:D},aP d=Qt->flat d=Qt
 |.Ri,_=>rfl
 |.bl b,_=>rfl
 |.int i,_=>rfl
 |.str x,_=>rfl
 |.tup _,s=>by cases s
 |.lst _,s=>by cases s
 |.RX _ _,s=>by cases s
 |.Sw _,s=>by cases s
 |.Tx _,s=>by cases s
 |.adr _,s=>by cases s
 |.Rx _,s=>by cases s
 |.obj _ _ _,s=>by cases s
def vo{K:MK}{H:Hp}:∀{ds:Ql D}{vs:Ql V},QV K H ds vs->ds.all aP=Qt->vs=ds.map sV
 |_,_,.nil,_=>rfl
 |_,_,.cons h r,s=>by
  simp only[NQ,MX]at s
  rw[vt h s.1,vo r s.2];rfl
def vq{K:MK}{H0 H:Hp}:∀{ds:Ql D}{vs:Ql V}{B:Ql U1},Rg K H0 H ds vs B->ds.all aP=Qt->vs=ds.map sV/\B=[]
 |_,_,_,.nil,_=>⟨rfl,rfl⟩
 |_,_,_,.cons h r,s=>by
  simp only[NQ,MX]at s
  obtain⟨a,b⟩:=vq r s.2
  subst a b
  cases h with
  |flat f q=>rw[vt q s.1];exact⟨rfl,rfl⟩
  |tup _ _=>exact absurd s.1 (by simp[aP])
  |lst _ _=>exact absurd s.1 (by simp[aP])
  |RX _ _ _=>exact absurd s.1 (by simp[aP])
  |Sw _=>exact absurd s.1 (by simp[aP])
  |obj _ _ _=>exact absurd s.1 (by simp[aP])
def zw{K:MK}{H0 H:Hp}:∀{ds:Ql D},ds.all aP=Qt->Rg K H0 H ds (ds.map sV) []
 |[],_=>.nil
 |d::ds,s=>by
  simp only[NQ,MX]at s
  exact .cons (B:=[]) (C:=[]) (.flat (FP s.1) (Fw s.1)) (zw s.2)
def RS.zcl (R:RS K F H A t σ)(e:t[i]?=Qs (.dp (.RX ks ds)))(sc:ds.all aP=Qt) :
  ∃p,σ[i]?=Qs (Qs (.ref p))/\p∈A/\ks.length=ds.length/\H p=Qs (.dK (d4 ks (ds.map sV))) /\
   ∀H1 VJ TF,QS H H1->VJ.length=TF.length->TF.all aP=Qt ->
    ∃A2,RS K F (L2.upd H1 p (.dK (d4 VJ (TF.map sV)))) A2 (t.set i (.dp (.RX VJ TF))) σ/\Gr A H A2 (L2.upd H1 p (.dK (d4 VJ (TF.map sV)))):=by
 obtain⟨v,B,a1,a2,a3,a4,a5⟩:=R.rel.zaP R.nd e
 cases a4 with
 |flat f _=>simp[flat]at f
 |@RX _ _ p vs B' l h r =>
  obtain⟨rfl,rfl⟩:=vq r sc
  have pA:p∈A:=a2 p (by simp)
  refine⟨p,a1,pA,by simpa using l,h,λH1 VJ TF gs l2 sc2=>?_⟩
  have hh:QS (ah (A++F) H) (ah (A++F) (L2.upd H1 p (.dK (d4 VJ (TF.map sV))))):=λb o q=>by
   obtain⟨n,q⟩:=cD q
   have nb:b≠p:=λz=>n (MJ _ (z ▸ pA))
   exact bw (by rw[aN nb];exact gs _ _ q) n
  obtain⟨A2,d1,d3⟩:=a5 _ _ (.RX VJ TF) [p] hh (.RX (by simpa using l2) bF (zw sc2)) (Np _) (λq hq nq o w=>by rw[aN (by simpa using nq)];exact gs _ _ w)
  have sub:∀x∈A2,x∈A:=λx hx=>d3.subset hx
  have mu:RF (L2.upd H1 p (.dK (d4 VJ (TF.map sV)))) (A++F):=λq hq=>by
   by_cases z:q=p
   .exact⟨mD _,by rw[z];exact bF⟩
   .obtain⟨us,w⟩:=R.mu q hq
    exact⟨us,by rw[aN z];exact gs _ _ w⟩
  refine⟨A2,⟨λq hq=>mu q ?_,R.nd.sublist d3,λq hq=>R.dj q (sub q hq),Rc.mono (aZ _ λa z=>?_) d1 λ_ _ _ h=>h⟩,λb o n h=>?_,λb hb=>?_,λb hb=>.inl (sub b hb)⟩
  .exact(ML.mp hq).elim (λz=>MJ _ (sub q z)) (λz=>MI _ z)
  .exact(ML.mp z).elim (λz=>MJ _ (sub a z)) (λz=>MI _ z)
  .rw[aN (λz=>n (by rw[z];exact pA))];exact gs _ _ h
  .obtain⟨us,w⟩:=mu b (MJ _ hb)
   rw[w];simp
def kT(ks:Ql aK)(k:aK):Bool:=ks.any λk'=>decide (k'=k)
def g4(ks:Ql aK)(ds:Ql D)(k:aK)(d:D):Ql aK×Ql D :=
 if kT ks k then(ks,Q2 (λk' d'=>if k'=k then d else d') ks ds) else(ks++[k],ds++[d])
def BU(k:aK):∀{ks:Ql aK}{vs:Ql V},ks.length=vs.length->(gh (d4 ks vs) k).isSome=kT ks k
 |[],[],_=>rfl
 |k'::ks,d::ds,h=>by
  have i:=BU k (ks:=ks) (vs:=ds) (by simpa using h)
  unfold d4 kT at i ⊢
  simp only[Nu,OA]
  by_cases e:k'=k
  .rw[nj (p:=(k',d)) e,RC e];rfl
  .rw[nu (p:=(k',d)) e,Su e,i];rfl
 |[],_::_,h=>by simp at h
 |_::_,[],h=>by simp at h
def ug:DE:=λ_=>Qs (.dn (.RX [] []))
def HN:PE X (.Dict [] [] pos) (dE X.K F ug):=by
 refine PE.imp Ic ?_
 rintro σ H Q ⟨A,t,r,R,e,h⟩
 cases e
 intro p hp
 refine h _ _ (dW hp) ⟨[p],by simp,λb hb=>by simp at hb;subst hb;exact hp,.RX (vs:=[]) rfl bF .nil⟩
def Kp{d:D}{k:aK}(r:Rep K H d v)(e:wF d=Qs k):v=kV k:=by
 cases r<;>cases e<;>rfl
def GN(k:aK)(d:D) (h:ks.length=ds.length):gn (d4 ks (ds.map sV)) k (sV d)=d4 (g4 ks ds k d).1 ((g4 ks ds k d).2.map sV)/\(g4 ks ds k d).1.length=(g4 ks ds k d).2.length:=by
 have ha:(d4 ks (ds.map sV)).any (λkv=>decide (kv.1=k))=kT ks k:=by
  rw[uK,BU k (by simpa using h)]
 unfold gn g4
 rw[ha]
 by_cases hc:kT ks k=Qt
 .rw[QO hc,QO hc]
  refine⟨?_,by simp;lia⟩
  clear hc ha
  unfold d4
  induction ks generalizing ds with
  |nil=>simp
  |cons k' ks ih =>
   cases ds with
   |nil=>simp at h
   |cons d' ds =>
    have i:=ih (ds:=ds) (by simpa using h)
    simp only[M4,Nu,Pg,i]
    by_cases e:k'=k
    .simp[e]
    .simp[e]
 .rw[QU hc,QU hc]
  refine⟨?_,by simp;lia⟩
  unfold d4
  rw[Od,List.zip_append (by simpa using h)]
  rfl
def GP{k:aK}{d:D}(sd:aP d=Qt):∀{ds:Ql D},ds.all aP=Qt->(g4 ks ds k d).2.all aP=Qt:=λ{ds} s=>by
 unfold g4
 split
 .show(Q2 _ ks ds).all aP=Qt
  rename_i hc
  clear hc
  induction ks generalizing ds with
  |nil=>simp
  |cons k' ks ih =>
   cases ds with
   |nil=>simp
   |cons d' ds =>
    simp only[NQ,MX]at s
    simp only[Pg,NQ,MX]
    refine⟨?_,ih s.2⟩
    split
    .exact sd
    .exact s.1
 .show(ds++[d]).all aP=Qt
  rw[List.all_append,s]
  simp[sd]
def oy(t:Th)(i:Nat)(r k:Ev):Qo Out:=match t[i]?,wF k.d with
 |some (.dp (.RX ks ds)),Qs kk=>if ds.all aP&&aP r.d&&decide (ks.length<100000) then Qs (.nx (t.set i (.dp (.RX (g4 ks ds kk r.d).1 (g4 ks ds kk r.d).2)))) else Qn
 |_,_=>Qn
def o9(i:Nat)(fk fv:DE):DS:=λt=>(fv t).bind λr=>(fk t).bind λk=>oy t i r k
end DL
namespace PySem.SeqAt
open PySem.Spec
def DD(op:CmpOp)(A:Ol)(s:M0)(a b:M6)(k:Bool):Prop := ∀(prog:NA) (w:OX) (E:M6->M0->Prop) (Q:M6->M0->Prop),Q (.bool k) s->wpAny (model prog w) A (richCompare op a b) Q E s
end PySem.SeqAt
namespace DL
open PySem.Spec L2
def C5(mx:Bool)(i j:Int):Bool:=if mx then decide (i > j) else decide (i<j)
def Bu(mx:Bool):Ql Int->Ql Int->Bool
 |i::r,j::q=>if decide (i=j) then Bu mx r q else C5 mx i j
 |_,_=>Qf
def C6(mx:Bool):D->D->Qo Bool
 |.int i,.int j=>Qs (C5 mx i j)
 |.tup xs,.tup ys=>(eD xs).bind λis=>(eD ys).bind λjs=>if is.length=js.length then Qs (Bu mx is js) else Qn
 |_,_=>Qn
def pD(K:MK)(mx:Bool):V->V->Hp->Bool->Prop:=λy z H c => ∃d e,Rep K H d y/\Rep K H e z/\C6 mx d e=Qs c
def Ds(mx:Bool)(fb:DE)(cs:Ql D):D->D->Ql D->Qo D
 |b,_,[]=>Qs b
 |b,k,d::ds=>(fb (.val d::cs.map Sl.val)).bind λr=>if flat r.d then(C6 mx r.d k).bind λc=>if c then Ds mx fb cs d r.d ds else Ds mx fb cs b k ds else Qn
end DL
namespace L2
open PySem.Spec PySem.W
def Kj(x:Str):Str:=x++".<locals>."++"<lambda>"
theorem Ba{β:Type}:∀{l:Ql (Nat×β)}{a:Nat}{o:β},l.lookup a=Qs o->(a,o)∈l
 |[],_,_,e=>by cases e
 |(b,x)::r,a,o,e=>by
  rw[NB]at e
  cases hb:a == b with
  |true=>rw[hb]at e;cases e;rw[eq_of_beq hb];exact .head _
  |false=>rw[hb]at e;exact .tail _ (Ba e)
def dk(K:Frag)(names:Ql Str):Ql (U1×Str):=names.filterMap λx=>(tabIn K x).map λq=>(q.2,Kj x)
theorem Jf{K:Frag}{names:Ql Str}{p:U1×Str}(h:p∈dk K names):∃x∈names,∃c,tabIn K x=Qs (c,p.1):=by
 obtain⟨x,hx,e⟩:=PU.mp h
 cases q:tabIn K x with
 |none=>rw[q]at e;cases e
 |some r=>rw[q]at e;cases e;exact⟨x,hx,r.1,q⟩
def pL(K:Frag)(names:Ql Str):Prop := ∀p∈dk K names,(dk K names).lookup p.1=Qs p.2/\K.lookup p.1=Qn
theorem EB{K:Frag}:pL K []:=λp hp=>by cases hp
theorem Kf{K:Frag}{mg mb:Str->Qo M6}{k:Nat}{fa a:U1}{s₁:M0}{vs:Ql M6}{ns:Ql Int}{names:Ql Str}
  (KX:K.In s₁.heap) (VM:s₁.heap.Ns mainGlobals mg) (hb:s₁.heap.Ns builtinsNs mb) (hbb:∀x:Str,x≠"__name__"->mb x=bootBuiltins x) (zdw:s₁.heap.NoLimit)
  (hbm:∃(bm:U1) (ob:Obj),mg "__builtins__"=Qs (.ref bm)/\bm≠builtinsNs/\s₁.heap.get? bm=Qs ob/\ob.cls=.type "module"/\ob.dict=Qs builtinsNs/\ob.data=.plain) (hg:s₁.gens = #[])
  (ha:s₁.heap.get? a=Qs { cls:=.type "list",data:=.seq vs.toArray }) (hi:IntsAre vs ns) (hl:ns.length<=Nn) (hr:Sh k callerA)
  (hT:∀x∈names,∀c P,tabIn K x=Qs (c,P)->CodeHd s₁.heap c P/\s₁.heap.get? P=Qs (tabObj #[])) (hn:pL K names)
  (F:∀base:TL,base.tabs=dk K names->K.In base->base.Ns mainGlobals mg->(∀x∈names,∀c P,tabIn K x=Qs (c,P)->CodeHd base c P)->RO P w K mg base CX k fa fd [x] sp)
  (zdZ:∀(s:M0) (u:M6),BindsTo s fd ⟨[u],[]⟩ [(x,u)]) (VL:∀H:Hp,Rm K H a (ns.map V.int)->sp [.ref a] H (λv _=>v=.bl Qt) λ_ _ _=>False)
  (Zc:∀H e s',CX [] H s₁ (λ_ _ _=>False) e s'->False) :
  codeAny (model P w) callerA (.call (.ref fa) ⟨[.ref a],[]⟩) (λr s'=>r=.ok (.ret (.bool Qt))/\OldK s₁.heap s'.heap/\s'.os=s₁.os/\AllBare s'.gens) s₁:=by
 have rv:=uJ hi
 have zcO:=hi.length
 have W6:∀p∈dk K names,∃c,CodeHd s₁.heap c p.1/\s₁.heap.get? p.1=Qs (tabObj #[]):=λp hp=>by
  obtain⟨y,hy,c,e⟩:=Jf hp
  exact⟨c,hT y hy c p.1 e⟩
 have core:∀H:Hp,Rm K H a (ns.map V.int)->SA P w H s₁.heap->(∀p∈dk K names,H p.1=Qs (.TX p.2)) ->
   (∀b o,H b=Qs o->(b=a/\K.lookup a=Qn/\∃ob xs,o=.SW ob (.lst xs))\/∃q,o=.TX q/\(b,q)∈dk K names) ->
   codeAny (model P w) callerA (.call (.ref fa) ⟨[.ref a],[]⟩) (λr s'=>r=.ok (.ret (.bool Qt))/\OldK s₁.heap s'.heap/\s'.os=s₁.os/\AllBare s'.gens) s₁:=by
  intro H hS Rw hTB hH
  have free:∀{b:U1}{o:Obj},s₁.heap.get? b=Qs o->(o.cls=.type "list"->False)->o≠tabObj #[]->H b=Qn:=λ{b o} e n1 n2=>by
   cases q:H b with
   |none=>rfl
   |some u =>
    rcases hH b u q with⟨rfl,_⟩ | ⟨qq,rfl,hm⟩
    .rw[ha]at e;cases e;exact(n1 rfl).elim
    .obtain⟨c,_,e2⟩:=W6 _ hm
     have e2:s₁.heap.get? b=Qs (tabObj #[]):=e2
     rw[e]at e2;cases e2;exact(n2 rfl).elim
  have XZ:∀{b:U1}{m:Str->Qo M6},s₁.heap.Ns b m->(iM s₁.heap H).Ns b m:=λ{b m} ⟨o,es,ep,e,d,r⟩=>⟨o,es,ep,tS e (by
   cases q:H b with
   |none=>rfl
   |some u =>
    rcases hH b u q with⟨rfl,_⟩ | ⟨qq,rfl,hm⟩
    .rw[ha]at e;cases e;cases d
    .obtain⟨c,_,e2⟩:=W6 _ hm
     have e2:s₁.heap.get? b=Qs (tabObj #[]):=e2
     rw[e]at e2;cases e2;cases d),d,r⟩
  have hKb:K.In (iM s₁.heap H):=λb o e=>tS (KX b o e) (by
   cases q:H b with
   |none=>rfl
   |some u =>
    rcases hH b u q with⟨rfl,n,_⟩ | ⟨qq,rfl,hm⟩
    .rw[n]at e;cases e
    .have n:K.lookup b=Qn:=(hn _ hm).2
     rw[n]at e;cases e)
  have hM:Mod K mg ⟨iM s₁.heap H,dk K names⟩:=⟨hKb,XZ VM,⟨mb,XZ hb,hbb⟩,let ⟨mc,h1,h2⟩:=zdw;⟨mc,XZ h1,h2⟩,by
   obtain⟨bm,ob,b1,b2,b3,b4,b5,b6⟩:=hbm
   exact⟨bm,ob,b1,b2,tS b3 (free b3 (λz=>by rw[b4]at z;simp at z) λz=>by rw[z]at b4;cases b4),b4,b5,b6⟩⟩
  have hCd:∀x∈names,∀c P,tabIn K x=Qs (c,P)->CodeHd (iM s₁.heap H) c P:=λx hx c P e=>by
   obtain⟨⟨o,vs,file,tf,flags,tg,inF,text,tt,e1,r1,r⟩,_⟩:=hT x hx c P e
   exact⟨o,vs,file,tf,flags,tg,inF,text,tt,tS e1 (free e1 (λz=>by rw[r1]at z;simp at z) λz=>by rw[z]at r1;cases r1),r1,r⟩
  have e0:Wz P w K mg ⟨iM s₁.heap H,dk K names⟩ callerA [] s₁ H:=⟨rfl,hM,λb o e=>Jh e,Sb (K6 _ _),trivial,λb hb=>absurd (show b∈([]:Ql U1) from hb) (by simp),Rw,.of_eq hg,hTB⟩
  refine codeAny_mono ((F ⟨iM s₁.heap H,dk K names⟩ rfl hKb (XZ VM) hCd).run callerA [] s₁ H ⟨[.ref a],[]⟩ [.ref a] [.ref a] _ _ hr e0 (zdZ s₁ (.ref a)) (.cons rfl .nil) (VL H hS)) λr s' h=>?_
  cases r with
  |error e=>exact(Zc H e s' h).elim
  |ok fl =>
   cases fl with
   |next=>exact False.elim h
   |brk=>exact False.elim h
   |cont=>exact False.elim h
   |ret u =>
    obtain⟨v,H',os,bare,un,Y3,r',q⟩:=h
    have q':v=.bl Qt:=q
    subst q'
    obtain rfl:u=RH Qt:=r'
    have kp:∀b o,s₁.heap.get? b=Qs o->s'.heap.get? b=Qs o\/∃qq,H b=Qs (.TX qq):=λb o e=>by
     cases q:H b with
     |none=>exact .inl (un.keep b o e q (by intro z;exact absurd (show b∈([]:Ql U1) from z) (by simp)) (by simp))
     |some u =>
      rcases hH b u q with⟨rfl,_,ob,xs,rfl⟩ | ⟨qq,rfl,hm⟩
      .obtain⟨e1,_⟩:=Rw b _ q
       obtain⟨e2,_⟩:=Y3 b _ (un.Vb b ob _ q)
       rw[e]at e1;cases e1
       exact .inl e2
      .exact .inr ⟨qq,rfl⟩
    refine⟨rfl,⟨λb o e=>?_,λb o e=>?_⟩,os,bare⟩
    .rcases kp b o e with z | ⟨qq,z⟩
     .exact .inl z
     .rcases hH b _ z with⟨_,_,ob,xs,z2⟩ | ⟨q2,z2,hm⟩
      .cases z2
      .obtain⟨c,C,e2⟩:=W6 _ hm
       have e2:s₁.heap.get? b=Qs (tabObj #[]):=e2
       rw[e]at e2
       cases e2
       obtain⟨ps,e3,_⟩:=Y3 b _ (un.Uk b _ z)
       have C:CodeHd s₁.heap c b:=C
       exact .inr (.inl ⟨(C.tab e).isCodeTable,rfl, #[],ps,rfl,by simpa using e3⟩)
    .rcases kp b o e with z | ⟨qq,z⟩
     .exact⟨o,z⟩
     .obtain⟨ps,e3,_⟩:=Y3 b _ (un.Uk b _ z)
      exact⟨_,e3⟩
 have ZT:∀(H:Hp) (p:U1×Str),p∈dk K names->SJ P w H s₁.heap p.1 (.TX p.2):=λH p hp=>by
  obtain⟨c,_,e⟩:=W6 p hp
  exact⟨#[],e,trivial,λpos cv z=>by cases z⟩
 have lk:∀b q,(dk K names).lookup b=Qs q->(b,q)∈dk K names:=λb q e=>Ba e
 have aT:∀q,(a,q)∈dk K names->False:=λq hm=>by
  obtain⟨c,_,e⟩:=W6 _ hm
  have e:s₁.heap.get? a=Qs (tabObj #[]):=e
  rw[ha]at e;cases e
 cases hk:K.lookup a with
 |some o =>
  have e:=KX a o hk
  rw[ha]at e
  cases e
  refine core (λb=>((dk K names).lookup b).map HO.TX) (.inr ⟨_,vs.toArray,_,hk,rfl,rfl,rfl,by rw[Nd,zcO];exact hl,by simpa using rv⟩) (λb u z=>?_) (λp hp=>by simp only[(hn p hp).1,Oe]) λb u z=>?_
  .cases q:(dk K names).lookup b with
   |none=>simp only[q]at z;cases z
   |some qq=>simp only[q]at z;cases z;exact ZT _ _ (lk b qq q)
  .cases q:(dk K names).lookup b with
   |none=>simp only[q]at z;cases z
   |some qq=>simp only[q]at z;cases z;exact .inr ⟨qq,rfl,lk b qq q⟩
 |none =>
  refine core (λb=>if b=a then Qs (.SW { cls:=.type "list",data:=.seq vs.toArray } (.lst (ns.map V.int))) else((dk K names).lookup b).map HO.TX) (.inl (.inr ⟨{ cls:=.type "list",data:=.seq vs.toArray },QO rfl⟩)) (λb u z=>?_) (λp hp=>?_) λb u z=>?_
  .by_cases hb:b=a
   .have z':=(QO hb).symm.trans z
    cases z'
    subst hb
    exact⟨ha,by rw[MY];exact hl,vs,_,rv,ha⟩
   .have z':=(QU hb).symm.trans z
    cases q:(dk K names).lookup b with
    |none=>simp only[q]at z';cases z'
    |some qq=>simp only[q]at z';cases z';exact ZT _ _ (lk b qq q)
  .have:p.1≠a:=λe=>aT p.2 (by rw[<-e];exact hp)
   simp only[this,if_false,(hn p hp).1,Oe]
  .by_cases hb:b=a
   .have z':=(QO hb).symm.trans z
    cases z'
    exact .inl ⟨hb,hk,_,_,rfl⟩
   .have z':=(QU hb).symm.trans z
    cases q:(dk K names).lookup b with
    |none=>simp only[q]at z';cases z'
    |some qq=>simp only[q]at z';cases z';exact .inr ⟨qq,rfl,lk b qq q⟩
open PySem.W
theorem zbF{l:Q8}{k:Nat}{q:NA}{loose:Ql Str}{XP:(Str->Qo M6)->U2->Prop}{YP:OX->U2->Prop}{d:DefRec}{K:Params->MK}{CX:OX->iw}{sp:OX->Sp}{names:Ql Str}
  (hn:l.most=Qs n) (WK:n<=Nn) (Za:d.params.defaults=[]) (hr:Sh k callerA)
  (hY:∀(w:OX) (h:U2),YP w h->(K w.params).In h) (YZ:∀x∈names,∃dr,(recsOf q).find? (λe=>e.name == x)=Qs dr)
  (F:∀(w:OX) (mg:Str->Qo M6) (fa:U1) (h:U2),(K w.params).In h->h.Ns mainGlobals mg->mg d.name=Qs (.ref fa) ->
   pL (K w.params) names/\∃fd:N8,(∀(s:M0) (u:M6),BindsTo s fd ⟨[u],[]⟩ [(x,u)]) /\
    ∀base:TL,base.tabs=dk (K w.params) names->(K w.params).In base->base.Ns mainGlobals mg->(∀x∈names,∀c P,tabIn (K w.params) x=Qs (c,P)->CodeHd base c P)->RO l.prog w (K w.params) mg base (CX w) k fa fd [x] (sp w))
  (VL:∀(w:OX) (H:Hp) (a:U1) (ns:Ql Int),ns.length<=n->(∀i∈ns,i.natAbs<uq)->Rm (K w.params) H a (ns.map V.int)->sp w [.ref a] H (λv _=>v=.bl Qt) λ_ _ _=>False)
  (Zc:∀(w:OX) (H:Hp) (s:M0) (e:M6) (s':M0),CX w [] H s (λ_ _ _=>False) e s'->False) :
  RL q loose XP YP l.row.toRowW d [] (λf vs=>PySem.call f vs):=by
 intro w s₀ s₁ mg mb G Y fa o pm cd doc dV kV ho hd R9 hD hmg hg args vals as X8 zdy hrd Vo hlo
 obtain rfl:dV=.none:=Dflts.none hD Za
 obtain rfl:kV=.none:=Dflts.noKw hD
 obtain⟨a,vs,ns,rfl,rfl,zdl,hints,hlen⟩:=Zx.zb3 hn X8 Vo
 have hb:=Mf zdy
 have KX:=hY w _ Y
 obtain⟨Rw,fd,hbd,hF⟩:=F w mg fa _ KX G.T.g hmg
 refine enter_call (codeAny_mono (Kf KX G.T.g G.T.b G.T.builtins G.T.nolimit G.T.bmain hg zdl hints (NG hlen WK) hr (λx hx c P e=>by
  obtain⟨dr,h⟩:=YZ x hx
  exact tab_of G.T KX h e) Rw hF hbd (λH hS=>VL w H a ns hlen hb hS) λH e s'=>Zc w H s₁ e s') λr s' hq=>?_)
 obtain⟨rfl,h2,h3,h4⟩:=hq
 exact⟨.inl ⟨.bool Qt,.bool Qt,[],rfl,λ_=>rfl,.bool Qt,Zx.zck l _,λ_=>⟨List.Pairwise.nil,λ_ hm=>(nomatch hm)⟩⟩,h2,h3,h4⟩
end L2
namespace DL
open PySem.Spec L2
def RS.zci{d:D}(R:RS K (B++F) H A t σ)(nb:B.Nodup)(dj:∀b∈B,b∉F)(r:Rn K (ah (A++(B++F)) H) H d v B)(hi:i<t.length) :
  ∃A',(∀x∈A',x∈B\/x∈A)/\RS K F H A' (t.set i (.dp d)) (σ.set i (Qs v)):=by
 have lb:=r.lists
 obtain⟨A2,r2,XT,nd2⟩:=Rc.WD (s:=.dp d) (v:=v) (B:=B) (λq=>.dp r q) i R.rel hi
 refine⟨A2,XT,⟨λp hp=>?_,nd2 R.nd nb (λb hb z=>R.dj b z (MJ _ hb)),λp hp=>?_,Rc.mono (aZ H λx hx=>?_) r2 λ_ _ _ w=>w⟩⟩
 .rcases ML.mp hp with z | z
  .rcases XT p z with w | w
   .exact lb p w
   .exact R.mu p (MJ _ w)
  .exact R.mu p (MI _ (MI _ z))
 .rcases XT p hp with w | w
  .exact dj p w
  .exact λz=>R.dj p w (MI _ z)
 .rcases ML.mp hx with z | z
  .rcases XT x z with w | w
   .exact MI _ (MJ _ w)
   .exact MJ _ w
  .exact MI _ (MI _ z)
def RS.less{F':Ql U1}(R:RS K F H A t σ)(h:∀b∈F',b∈F):RS K F' H A t σ :=
 ⟨λp hp=>R.mu p ((ML.mp hp).elim (MJ _) λz=>MI _ (h p z)),R.nd,λp hp z=>R.dj p hp (h p z),
  Rc.mono (aZ H λx hx=>(ML.mp hx).elim (MJ _) λz=>MI _ (h x z)) R.rel λ_ _ _ w=>w⟩
inductive LDp(K:MK)(H0 H:Hp)(t:Th)(σ:L2.St)(A:List U1)(i:Nat)(d:D):Prop
 |mk (v:_) (B:_) (A':_) (h_0:σ[i]?=Qs (Qs v)) (h_1:Rn K H0 H d v B) (h_2:Rc K H0 H (t.set i .no) σ A') (h_3:(∀x∈A',x∈A)) (h_4:(∀x∈B,x∈A)) (h_5:(∀x∈A,x∈B\/x∈A')) (h_6:B.Nodup) (h_7:A'.Nodup) (h_8:(∀x∈A',x∉B))
def Rc.zcL :∀{t:Th}{σ:L2.St}{A:Ql U1},Rc K H0 H t σ A->A.Nodup->∀{i:Nat}{d:D},t[i]?=Qs (.dp d)->LDp K H0 H t σ A i d:=by
 intro _ _ _ h
 induction h with
 |nil =>
  intro n i d e
  simp at e
 |@no _ _ _ _ r ih =>
  intro n i d e
  cases i with
  |zero =>
   simp at e
  |succ i =>
   obtain⟨v,B,A',a1,a2,a3,a4,a5,a6,a7,a8,a9⟩:=ih n (i:=i) (d:=d) (by simpa using e)
   exact⟨v,B,A',by simpa using a1,a2,.no a3,a4,a5,a6,a7,a8,a9⟩
 |@val _ _ _ _ _ h r ih =>
  intro n i d e
  cases i with
  |zero =>
   simp at e
  |succ i =>
   obtain⟨v,B,A',a1,a2,a3,a4,a5,a6,a7,a8,a9⟩:=ih n (i:=i) (d:=d) (by simpa using e)
   exact⟨v,B,A',by simpa using a1,a2,.val h a3,a4,a5,a6,a7,a8,a9⟩
 |@own p _ _ _ _ _ h1 h2 r ih =>
  intro n i d e
  cases i with
  |zero =>
   simp at e
  |succ i =>
   have n0:=M3.mp n
   obtain⟨v,B,A',a1,a2,a3,a4,a5,a6,a7,a8,a9⟩:=ih n0.2 (i:=i) (d:=d) (by simpa using e)
   refine⟨v,B,p::A',by simpa using a1,a2,.own h1 h2 a3,λx hx=>?_,λx hx=>MM _ (a5 x hx),λx hx=>?_,a7,M3.mpr ⟨λz=>n0.1 (a4 p z),a8⟩,λx hx z=>?_⟩
   .rcases MQ.mp hx with w | w
    .rw[w];exact MN ..
    .exact MM _ (a4 x w)
   .rcases MQ.mp hx with w | w
    .rw[w];exact .inr (MN ..)
    .exact(a6 x w).imp id (MM _)
   .rcases MQ.mp hx with w | w
    .exact n0.1 (w ▸ a5 x z)
    .exact a9 x w z
 |@dp _ v C _ _ A h r ih =>
  intro n i d e
  cases i with
  |zero =>
   simp at e;subst e
   have n0:=MW.mp n
   exact⟨v,C,A,rfl,h,.no r,λx hx=>MI _ hx,λx hx=>MJ _ hx,λx hx=>ML.mp hx,n0.1,n0.2.1,λx hx z=>n0.2.2 x z x hx rfl⟩
  |succ i =>
   have n0:=MW.mp n
   obtain⟨v,B,A',a1,a2,a3,a4,a5,a6,a7,a8,a9⟩:=ih n0.2.1 (i:=i) (d:=d) (by simpa using e)
   refine⟨v,B,C++A',by simpa using a1,a2,.dp h a3,λx hx=>?_,λx hx=>MI _ (a5 x hx),λx hx=>?_,a7,MW.mpr ⟨n0.1,a8,λx hx y hy e=>n0.2.2 x hx y (a4 y hy) e⟩,λx hx z=>?_⟩
   .rcases ML.mp hx with w | w
    .exact MJ _ w
    .exact MI _ (a4 x w)
   .rcases ML.mp hx with w | w
    .exact .inr (MJ _ w)
    .exact(a6 x w).imp id (MI _)
   .rcases ML.mp hx with w | w
    .exact n0.2.2 x w x (a5 x z) rfl
    .exact a9 x w z
def RS.ze8 (R:RS K F H A t σ)(g:QS H H')(fr:∀b∈B,H b=Qn)(lb:RF H' B):RS K (B++F) H' A t σ:=by
 have np:∀b∈B,b∉A++F:=λb hb=>dZ R.mu (fr b hb)
 refine⟨λp hp=>?_,R.nd,λp hp z=>?_,Rc.mono (λb o h=>?_) R.rel λb _ o h=>g _ _ h⟩
 .rcases ML.mp hp with z | z
  .exact(R.mu.mono g) p (MJ _ z)
  .rcases ML.mp z with z | z
   .exact lb p z
   .exact(R.mu.mono g) p (MI _ z)
 .rcases ML.mp z with z | z
  .exact np p z (MJ _ hp)
  .exact R.dj p hp z
 .obtain⟨n,h⟩:=cD h
  refine bw (g _ _ h) λz=>?_
  rcases ML.mp z with z | z
  .exact n (MJ _ z)
  .rcases ML.mp z with z | z
   .rw[fr b z]at h;cases h
   .exact n (MI _ z)
abbrev DM:=Th->Qo (D×Th)
abbrev m5:=Th->Qo (Ql D×Th)
structure Mv(K:MK)(F A:List U1)(H H':Hp)(B A':List U1)(t':Th)(σ:L2.St):Prop where
 sm:QS H H'
 nd:B.Nodup
 dj:∀b∈B,b∉F
 rs:RS K (B++F) H' A' t' σ
 fr:∀b∈B,b∈A\/H b=Qn
 sb:∀b∈A',b∈A
inductive dM(K:MK)(F:List U1)(f:DM)(σ:L2.St)(H:Hp)(Q:VK):Prop
 |mk (A:_) (t:_) (d:_) (t':_) (h_0:RS K F H A t σ) (h_1:f t=Qs (d,t')) (h_2:∀v H' B A',Mv K F A H H' B A' t' σ->Rn K (ah (A'++(B++F)) H') H' d v B->Q v H')
inductive Yg(K:MK)(F:List U1)(f:m5)(σ:L2.St)(H:Hp)(Q:List V->Hp->Prop):Prop
 |mk (A:_) (t:_) (ds:_) (t':_) (h_0:RS K F H A t σ) (h_1:f t=Qs (ds,t')) (h_2:∀vs H' B A',Mv K F A H H' B A' t' σ->Rg K (ah (A'++(B++F)) H') H' ds vs B->Q vs H')
inductive zfq(K:MK)(H0 H:Hp)(t:Th)(σ:L2.St)(A:List U1)(i:Nat)(ds:List D):Prop
 |mk (p:_) (vs:_) (A':_) (h_0:σ[i]?=Qs (Qs (.ref p))) (h_1:H p=Qs (.lst vs)) (h_2:QV K H0 ds vs) (h_3:Rc K H0 H (t.set i .no) σ A') (h_4:(∀x∈A',x∈A)) (h_5:p∈A) (h_6:(∀x∈A,x=p\/x∈A')) (h_7:A'.Nodup) (h_8:p∉A')
def Rc.zcK :∀{t:Th}{σ:L2.St}{A:Ql U1},Rc K H0 H t σ A->A.Nodup->∀{i:Nat}{ds:Ql D},t[i]?=Qs (.own ds)->zfq K H0 H t σ A i ds:=by
 intro _ _ _ h
 induction h with
 |nil =>
  intro n i d e
  simp at e
 |@no _ _ _ _ r ih =>
  intro n i d e
  cases i with
  |zero =>
   simp at e
  |succ i =>
   obtain⟨v,B,A',a1,a2,VC,a3,a4,a5,a6,a7,a8⟩:=ih n (i:=i) (ds:=d) (by simpa using e)
   exact⟨v,B,A',by simpa using a1,a2,VC,.no a3,a4,a5,a6,a7,a8⟩
 |@val _ _ _ _ _ h r ih =>
  intro n i d e
  cases i with
  |zero =>
   simp at e
  |succ i =>
   obtain⟨v,B,A',a1,a2,VC,a3,a4,a5,a6,a7,a8⟩:=ih n (i:=i) (ds:=d) (by simpa using e)
   exact⟨v,B,A',by simpa using a1,a2,VC,.val h a3,a4,a5,a6,a7,a8⟩
 |@own q vs _ _ _ A h1 h2 r ih =>
  intro n i d e
  cases i with
  |zero =>
   simp at e;subst e
   have n0:=M3.mp n
   exact⟨q,vs,A,rfl,h1,h2,.no r,λx hx=>MM _ hx,MN ..,λx hx=>MQ.mp hx,n0.2,n0.1⟩
  |succ i =>
   have n0:=M3.mp n
   obtain⟨p,vs,A',a1,a2,VC,a3,a4,a5,a6,a7,a8⟩:=ih n0.2 (i:=i) (ds:=d) (by simpa using e)
   refine⟨p,vs,q::A',by simpa using a1,a2,VC,.own h1 h2 a3,λx hx=>?_,MM _ a5,λx hx=>?_,M3.mpr ⟨λz=>n0.1 (a4 q z),a7⟩,λz=>?_⟩
   .rcases MQ.mp hx with w | w
    .rw[w];exact MN ..
    .exact MM _ (a4 x w)
   .rcases MQ.mp hx with w | w
    .rw[w];exact .inr (MN ..)
    .exact(a6 x w).imp id (MM _)
   .rcases MQ.mp z with w | w
    .exact n0.1 (w ▸ a5)
    .exact a8 w
 |@dp _ _ C _ _ _ h r ih =>
  intro n i d e
  cases i with
  |zero =>
   simp at e
  |succ i =>
   have n0:=MW.mp n
   obtain⟨p,vs,A',a1,a2,VC,a3,a4,a5,a6,a7,a8⟩:=ih n0.2.1 (i:=i) (ds:=d) (by simpa using e)
   refine⟨p,vs,C++A',by simpa using a1,a2,VC,.dp h a3,λx hx=>?_,MI _ a5,λx hx=>?_,MW.mpr ⟨n0.1,a7,λx hx y hy e=>n0.2.2 x hx y (a4 y hy) e⟩,λz=>?_⟩
   .rcases ML.mp hx with w | w
    .exact MJ _ w
    .exact MI _ (a4 x w)
   .rcases ML.mp hx with w | w
    .exact .inr (MJ _ w)
    .exact(a6 x w).imp id (MI _)
   .rcases ML.mp z with w | w
    .exact n0.2.2 p w p a5 rfl
    .exact a8 w
inductive zfa(K:MK)(F A:List U1)(H:Hp)(t:Th)(σ:L2.St)(i:Nat)(ds:List D):Prop
 |mk (p:_) (vs:_) (A':_) (h_0:σ[i]?=Qs (Qs (.ref p))) (h_1:RS K ([p]++F) H A' (t.set i .no) σ) (h_2:p∉F) (h_3:H p=Qs (.lst vs)) (h_4:QV K (ah (A'++([p]++F)) H) ds vs) (h_5:(∀x∈A',x∈A)) (h_6:p∈A)
def RS.zbV (R:RS K F H A t σ)(e:t[i]?=Qs (.own ds)) :
  zfa K F A H t σ i ds:=by
 obtain⟨p,vs,A',a1,a2,VC,a3,a4,a5,a6,a7,a8⟩:=R.rel.zcK R.nd e
 have s:QS (ah (A++F) H) (ah (A'++([p]++F)) H):=aZ H λx hx=>by
  rcases ML.mp hx with z | z
  .exact MJ _ (a4 x z)
  .rcases ML.mp z with z | z
   .rw[MS.mp z];exact MJ _ a5
   .exact MI _ z
 refine⟨p,vs,A',a1,⟨λq hp=>?_,a7,λq hp z=>?_,Rc.mono s a3 λ_ _ _ w=>w⟩,R.dj p a5,a2,QV.mono s VC,a4,a5⟩
 .rcases ML.mp hp with z | z
  .exact R.mu q (MJ _ (a4 q z))
  .rcases ML.mp z with z | z
   .rw[MS.mp z];exact R.mu p (MJ _ a5)
   .exact R.mu q (MI _ z)
 .rcases ML.mp z with z | z
  .rw[MS.mp z]at hp;exact a8 hp
  .exact R.dj q (a4 q hp) z
section
variable {fn:DM}{fns:m5}
def eL(f:DE):DM:=λt=>(f t).bind λr=>(toDn r).map λd=>(d,t)
def K4{F:Ql U1}:QS (ah (B++(A++F)) H) (ah (A++(B++F)) H):=aZ H λx hx=>by
 rcases ML.mp hx with z | z
 .exact MI _ (MJ _ z)
 .rcases ML.mp z with z | z
  .exact MJ _ z
  .exact MI _ (MI _ z)
def Aj(he:PE X a (dE X.K F fa)):PE X a (dM X.K F (eL fa)):=by
 refine PE.imp he ?_
 rintro σ H Q ⟨A,t,d,t',R,e,h⟩
 unfold eL at e
 rcases e1:fa t with _|r
 .rw[e1]at e;cases e
 rw[e1]at e
 simp only[MP]at e
 rcases e2:toDn r with _|d0
 .rw[e2]at e;cases e
 rw[e2]at e
 cases e
 refine⟨A,t,r,R,e1,λv H' gs q=>?_⟩
 obtain⟨B,b1,b2,b3⟩:=q.toDn R.mu gs e2
 exact h v H' B A ⟨gs,b1,λb hb z=>dZ R.mu (b2 b hb) (MI _ z),R.ze8 gs b2 b3.lists,λb hb=>.inr (b2 b hb),λb hb=>hb⟩ (Rn.mono K4 b3 λ_ _ _ w=>w)
def jW:m5:=λt=>Qs ([],t)
def fQ(f:DM)(g:m5):m5:=λt=>(f t).bind λq=>(g q.2).bind λw=>Qs (q.1::w.1,w.2)
def HA:PA X [] (Yg X.K F jW):=PA.imp gH λσ H Q ⟨A,t,ds,t',R,e,h⟩=>by cases e;exact h [] H [] A ⟨QS.refl H,NM,λb hb=>(by cases hb),R,λb hb=>(by cases hb),λb hb=>hb⟩ .nil
def Ai(ha:∀F,PE X a (dM X.K F fn))(hr:∀F,PA X es (Yg X.K F fns))(hs:Na (a::es) X.env=(Qf,eval a X.env)::Na es X.env:=by rfl):PA X (a::es) (Yg X.K F (fQ fn fns)):=by
 intro p pins s σ H Q I h
 obtain⟨A,t,ds,t',R,e,h⟩:=h
 unfold fQ at e
 rcases e1:fn t with _|q1
 .rw[e1]at e;cases e
 obtain⟨d1,t1⟩:=q1
 rw[e1]at e
 simp only[MP]at e
 rcases e2:fns t1 with _|q2
 .rw[e2]at e;cases e
 obtain⟨TF,t2⟩:=q2
 rw[e2]at e
 cases e
 rw[hs]
 show wpAny _ _ (spliced ((Qf,eval a X.env)::OY p (Na es X.env))) _ _ s
 refine Calls.spliced_cons (aG (ha F pins s σ H (λv H1 => ∃B1 A1,Mv X.K F A H H1 B1 A1 t1 σ/\Rn X.K (ah (A1++(B1++F)) H1) H1 d1 v B1) I ⟨A,t,d1,t1,R,e1,λv H1 B1 A1 m1 r1=>⟨B1,A1,m1,r1⟩⟩) λu s1 ⟨x,H1,I1,rx,B1,A1,m1,r1⟩=>?_)
 refine aG (hr (B1++F) p pins s1 σ H1 (λvs H2=>Q (x::vs) H2) I1 ⟨A1,t1,TF,t2,m1.rs,e2,λvs H2 B2 A2 m2 r2=>?_⟩) λus s2 ⟨xs,H2,I2,rx2,q2⟩=>⟨x::xs,H2,I2,.cons rx rx2,q2⟩
 have l1:RF H2 B1:=r1.lists.mono m2.sm
 have Yh:∀b∈B2,b∉B1:=λb hb z=>m2.dj b hb (MJ _ z)
 have mem:∀x,x∈A2++((B1++B2)++F)->x∈A2++(B2++(B1++F)):=λx hx=>by
  simp only[ML]at hx ⊢
  rcases hx with z | (z | z) |z
  .exact .inl z
  .exact .inr (.inr (.inl z))
  .exact .inr (.inl z)
  .exact .inr (.inr (.inr z))
 have zcE:∀x,x∈(B1++B2)++F->x∈B2++(B1++F):=λx hx=>by
  simp only[ML]at hx ⊢
  rcases hx with(z | z) |z
  .exact .inr (.inl z)
  .exact .inl z
  .exact .inr (.inr z)
 refine h (x::vs) H2 (B1++B2) A2 ⟨m1.sm.trans m2.sm,MW.mpr ⟨m1.nd,m2.nd,λy hy z hz e=>Yh z hz (e ▸ hy)⟩,λb hb=>?_,m2.rs.less zcE,λb hb=>?_,λb hb=>m1.sb b (m2.sb b hb)⟩ (.cons (B:=B1) (C:=B2) (Rn.RY (λy hy=>m2.rs.mu y (mem y hy)) (aV _ _) (Rn.mono (RJ:=ah B1 H2) (λb o w=>?_) r1 λ_ _ _ w=>m2.sm _ _ w)) (Rg.mono (aZ H2 mem) r2 λ_ _ _ w=>w))
 .rcases ML.mp hb with z | z
  .exact m1.dj b z
  .exact λw=>m2.dj b z (MI _ w)
 .rcases ML.mp hb with z | z
  .exact m1.fr b z
  .rcases m2.fr b z with w | w
   .exact .inl (m1.sb b w)
   .exact .inr (QS.free m1.sm w)
 .obtain⟨n,w⟩:=cD w
  exact bw (m2.sm _ _ w) λz=>n (MI _ (MJ _ z))
def oe(g:m5):DM:=λt=>(g t).bind λq=>if q.1.length<=1000 then Qs (.tup q.1,q.2) else Qn
def HB{x1}(h:PA X es (Yg X.K F fns)):PE X (.Tuple es x1 pos) (dM X.K F (oe fns)):=by
 refine PE.imp (sJ h) ?_
 rintro σ H Q ⟨A,t,d,t',R,e,h⟩
 unfold oe at e
 rcases e1:fns t with _|q
 .rw[e1]at e;cases e
 obtain⟨ds,t2⟩:=q
 rw[e1]at e
 simp only[MP]at e
 refine bZ e λhl e=>?_
 cases e
 refine⟨A,t,ds,t',R,e1,λvs H1 B A1 m1 r1=>⟨by rw[r1.length];exact Uy (by lia),λp hp=>?_⟩⟩
 have s1:=dW (o:=HO.tup vs) hp
 have np:p∉A1++(B++F):=dZ m1.rs.mu hp
 exact h _ _ B A1 ⟨m1.sm.trans s1,m1.nd,m1.dj,m1.rs.grow s1,m1.fr,m1.sb⟩ (.tup (RQ.of (bw bF np)) (Rg.mono (cT s1) r1 λ_ _ _ w=>s1 _ _ w))
def oU(f:DM):DS:=λt=>(f t).bind λq=>Qs (.rt (.dn q.1))
def GZ(ha:PE X a (dM X.K F fn)):PS X (.Return (Qs a) pos) (dS X.K F (oU fn)):=by
 refine PS.imp (sr ha) ?_
 rintro E σ H ⟨A,t,o,R,e,h⟩
 unfold oU at e
 refine aB e λq e1 e=>?_
 cases e
 refine⟨A,t,q.1,q.2,R,e1,λv H' B A' m r1=>h v H' A (Gr.of_same R.mu.left m.sm) ⟨B,m.nd,λb hb=>⟨m.fr b hb,m.dj b hb⟩,Rn.mono (aZ H' λa z=>MI _ z) r1 λ_ _ _ w=>w⟩⟩
end
end DL
namespace TS
section
variable (κ π:Oy->Int)
def rk(x:Oy):Int:=κ x*1048576+π x
def kg(l:Ql Oy):Prop:=l.Pairwise λa b=>rk κ π a<=rk κ π b
variable {κ π}
variable {X Y out:Ql Oy}
end
structure Vf(M:Model)(A:Ol)(E:M6->M0->Prop)(s:M0)(κ π:Oy->Int)(a₀:Array Oy)(kd:SortKind):Prop where
 lt:∀(st:Ox) (x y:Oy) (Q:Option Bool->Ox->Prop),kindOf st=kd->x∈a₀.toList->y∈a₀.toList->Q (Qs (decide (κ x<κ y))) st->wpS M A E s (lt' x y) Q st
 pi:∀x∈a₀.toList,0<=π x/\π x<1048576
section
variable {A:Ol}(C:Vf M A E s κ π a₀ kd)
theorem yM{ar:Array Oy}{z:Oy}{Q:Oy->Ox->Prop}{st:Ox}(hz:ar[i]?=Qs z)(h:Q z st):wpS M A E s (elem' ar i) Q st:=by
 rw[elem'_eq,hz];exact OH h
end
section
variable {A:Ol}(C:Vf M A E s κ π a₀ kd)
def nJ(π:Oy->Int)(l m:Ql Oy):Prop := ∀a∈l,∀b∈m,π a<=π b
end
def kA(f:Oy->Int)(xs:Array Oy)(i:Nat):Int:=match xs[i]? with
 |some p=>f p
 |none=>0
theorem j5{f:Oy->Int}{xs:Array Oy}{z:Oy}(h:xs[i]?=Qs z):kA f xs i=f z:=by unfold kA;rw[h]
theorem fS{f:Oy->Int}{xs ys:Array Oy}(h:xs[i]?=ys[j]?):kA f xs i=kA f ys j:=by unfold kA;rw[h]
structure S9(xs zs:Array Oy)(lo hi:Nat):Prop where
 pm:zs.Perm xs
 out:∀i,i<lo\/hi<=i->zs[i]?=xs[i]?
 ins:∀i,lo<=i->i<hi->∃j,lo<=j/\j<hi/\zs[i]?=xs[j]?
theorem S9.refl(xs:Array Oy)(lo hi:Nat):S9 xs xs lo hi:=⟨Array.Perm.refl _,λ_ _=>rfl,λi h1 h2=>⟨i,h1,h2,rfl⟩⟩
theorem S9.size{xs zs:Array Oy}{lo hi:Nat}(h:S9 xs zs lo hi):zs.size=xs.size:=h.pm.size_eq
theorem S9.wide{xs:Array Oy}{hi VP:Nat}(h:S9 xs zs lo hi)(g:hi<=VP):S9 xs zs lo VP where
 pm:=h.pm
 out:=λi Wf=>h.out i (by lia)
 ins:=λi h1 h2=>by
  by_cases z:i<hi
  .obtain⟨j,a,b,c⟩:=h.ins i h1 z
   exact⟨j,a,by lia,c⟩
  .exact⟨i,h1,h2,h.out i (by lia)⟩
theorem S9.X4{xs:Array Oy}{hi i0 j0:Nat}(h:S9 xs zs lo hi)(h1:lo<=i0)(h2:j0<=hi)(h3:j0<=zs.size):S9 xs (mirror zs i0 j0 ((j0 - i0) / 2)) lo hi where
 pm:=(mirror_perm _ _ _ _).trans h.pm
 out:=λi Wf=>by
  rw[getElem?_mirror_all h3,QU (by lia)]
  exact h.out i Wf
 ins:=λi a b=>by
  rw[getElem?_mirror_all h3]
  split
  .exact h.ins _ (by lia) (by lia)
  .exact h.ins i a b
theorem hV{f:Oy->Int}{i0 j0:Nat}(h3:j0<=zs.size)(k:Nat):kA f (mirror zs i0 j0 ((j0 - i0) / 2)) k=if i0<=k/\k<j0 then kA f zs (i0+j0 - 1 - k) else kA f zs k:=by
 have e:=getElem?_mirror_all (i:=i0) h3 k
 by_cases h1:i0<=k/\k<j0
 .rw[QO h1]at e ⊢;exact fS e
 .rw[QU h1]at e ⊢;exact fS e
section
variable {A:Ol}(C:Vf M A E s κ π a₀ kd)
def rA(κ π:Oy->Int)(xs:Array Oy)(i:Nat):Int:=kA κ xs i*1048576+kA π xs i
def pO(κ π:Oy->Int)(xs:Array Oy)(lo hi:Nat):Prop := ∀i j,lo<=i->i<=j->j<hi->rA κ π xs i<=rA κ π xs j
def iZ(π:Oy->Int)(xs:Array Oy)(m:Nat):Prop := ∀i j,i<=j->m<=j->j<xs.size->kA π xs i<=kA π xs j
structure TB(a₀:Array Oy)(kd:SortKind)(st:Ox):Prop where
 pm:(NV st).Perm a₀
 kind:kindOf st=kd
 fld:failedOf st=Qn
theorem TB.size{st:Ox}(h:TB a₀ kd st):(NV st).size=a₀.size:=h.pm.size_eq
theorem wo{a₀ xs:Array Oy}(h:xs.Perm a₀) (hi:i<xs.size):∃z,xs[i]?=Qs z/\z∈a₀.toList:=⟨xs[i],by simp[hi],(OZ.mp h).mem_iff.mp (by simp)⟩
include C in
theorem fN{xs:Array Oy}(h:xs.Perm a₀) (hi:i<xs.size):0<=kA π xs i/\kA π xs i<1048576:=by
 obtain⟨z,z1,z2⟩:=wo h hi
 rw[j5 z1]
 exact C.pi z z2
include C in
theorem nh{st:Ox}{Q:Qo Bool->Ox->Prop}(hB:TB a₀ kd st)(hi:i<a₀.size)(hj:j<a₀.size)(h:Q (Qs (decide (kA κ (NV st) i<kA κ (NV st) j))) st):wpS M A E s (ltAt' i j) Q st:=by
 obtain⟨x,x1,x2⟩:=wo hB.pm (i:=i) (by rw[hB.size];exact hi)
 obtain⟨y,y1,y2⟩:=wo hB.pm (i:=j) (by rw[hB.size];exact hj)
 rw[ltAt'_eq]
 refine N0 (wpS_get ?_)
 refine N0 (yM x1 (N0 (yM y1 (C.lt st x y Q hB.kind x2 y2 ?_))))
 rw[j5 x1,j5 y1]at h
 exact h
def ir(κ π:Oy->Int)(a₀:Array Oy)(kd:SortKind)(st:Ox)(lo hi:Nat)(Q9:Ox):Prop:=TB a₀ kd Q9/\NH Q9=NH st/\S9 (NV st) (NV Q9) lo hi/\pO κ π (NV Q9) lo hi
def pI(lo n nr:Nat):StateT Ox Sem (Qo (Qo Nat)×Nat) :=
 forIn [n:nr] ((Qn,n):Qo (Qo Nat)×Nat) λ_ r=>do
  let x <-ltAt' (lo+r.snd) (lo+r.snd - 1)
  match x with
  |some sm=>if sm=Qt then pure (OC (Qn,r.snd)) else pure (NF (Qn,r.snd+1))
  |_=>pure (OC (Qs Qn,r.snd))
include C in
theorem yO{st:Ox}{xs:Array Oy}{Q:Qo (Qo Nat)×Nat->Ox->Prop}(hB:TB a₀ kd st)(hn:1<=n)(Wc:n<=nr)(hs:lo+nr<=a₀.size)(fr:iZ π xs lo)(ch:S9 xs (NV st) lo (lo+n))(hr:pO κ π (NV st) lo (lo+n))
  (h:∀m,n<=m->m<=nr->pO κ π (NV st) lo (lo+m)->(m=nr\/kA κ (NV st) (lo+m)<kA κ (NV st) (lo+m - 1))->Q (Qn,m) st):wpS M A E s (pI lo n nr) Q st:=by
 unfold pI
 refine wpS_forRange (I:=λx c Q9=>Q9=st/\c=(Qn,x)/\pO κ π (NV st) lo (lo+x)) ?_ ?_ ⟨rfl,rfl,hr⟩
 .rintro x c Q9 V9 hx2 ⟨rfl,rfl,Vq⟩
  dsimp only
  refine N0 (nh C hB (by lia) (by lia) ?_)
  by_cases hl:kA κ (NV Q9) (lo+x)<kA κ (NV Q9) (lo+x - 1)
  .simp only[hl,decide_true,if_true]
   exact OH (h x V9 (by lia) Vq (.inr hl))
  .simp only[hl,decide_false,Nq,if_false]
   refine OH ⟨rfl,rfl,λi j a1 a2 a3=>?_⟩
   by_cases z:j<lo+x
   .exact Vq i j a1 a2 z
   .have ej:j=lo+x:=by lia
    subst ej
    by_cases zi:i=lo+x
    .subst zi;exact Om _
    .have sz:=hB.size
     have szx:=ch.size
     have q:=Vq i (lo+x - 1) a1 (by lia) (by lia)
     have p1:=fN C hB.pm (i:=i) (by lia)
     have p2:=fN C hB.pm (i:=lo+x - 1) (by lia)
     have p3:=fN C hB.pm (i:=lo+x) (by lia)
     have fx:kA π (NV Q9) i<=kA π (NV Q9) (lo+x):=by
      obtain⟨k,k1,k2,k3⟩:=(ch.wide (show lo+n<=lo+x by lia)).ins i a1 (by lia)
      rw[fS k3,fS (ch.out (lo+x) (by lia))]
      exact fr k (lo+x) (by lia) (by lia) (by lia)
     unfold rA at q ⊢
     lia
 .rintro c Q9 ⟨rfl,rfl,Vq⟩
  rw[show max n nr=nr by lia]at Vq ⊢
  exact h nr Wc (MZ _) Vq (.inl rfl)
def nv(lo n nr:Nat):StateT Ox Sem (Qo Nat):=do
 reverseSlice' lo (lo+n)
 let r <-pI lo n nr
 match r.fst with
 |some a=>pure a
 |none=>pure (Qs r.snd)
theorem qv{st:Ox}{Q:Unit->Ox->Prop}(h:Q () (setArr st (mirror (NV st) i j ((j - i) / 2)))):wpS M A E s (reverseSlice' i j) Q st:=by
 rw[reverseSlice'_eq];exact wpS_modify h
theorem TB.set{st:Ox}(h:TB a₀ kd st) (hp:zs.Perm (NV st)):TB a₀ kd (setArr st zs):=⟨hp.trans h.pm,h.kind,h.fld⟩
include C in
theorem yL{st:Ox}{Q:Qo Nat->Ox->Prop}(hB:TB a₀ kd st)(hp:NH st=NH SY)(hn:1<=n)(Wc:n<=nr)(hs:lo+nr<=a₀.size)(fr:iZ π (NV SY) lo)(ch:S9 (NV SY) (NV st) lo (lo+n))
  (hf:∀i j,lo<=i->i<=j->j<lo+n->rA κ π (NV st) j<=rA κ π (NV st) i) (h:∀m Q9,1<=m->m<=nr->ir κ π a₀ kd SY lo (lo+m) Q9->Q (Qs m) Q9):wpS M A E s (nv lo n nr) Q st:=by
 unfold nv
 have sz:lo+n<=(NV st).size:=by rw[hB.size];lia
 refine N0 (qv ?_)
 have hB':TB a₀ kd (setArr st (mirror (NV st) lo (lo+n) ((lo+n - lo) / 2))):=hB.set (mirror_perm _ _ _ _)
 have ch':S9 (NV SY) (mirror (NV st) lo (lo+n) ((lo+n - lo) / 2)) lo (lo+n):=ch.X4 (MZ _) (MZ _) sz
 refine N0 (yO C hB' hn Wc hs fr ch' (λi j a1 a2 a3=>?_) λm m1 m2 m3 _=>OH (h m _ (by lia) m2 ⟨hB',hp,ch'.wide (by lia),m3⟩))
 show rA κ π (mirror (NV st) _ _ _) i<=rA κ π (mirror (NV st) _ _ _) j
 unfold rA
 rw[hV sz,hV sz,hV sz,hV sz,QO (by lia),QO (by lia),QO (by lia),QO (by lia)]
 exact hf _ _ (by lia) (by lia) (by lia)
end
section
variable {A:Ol}(C:Vf M A E s κ π a₀ kd)
structure Dn(κ π:Oy->Int)(a₀:Array Oy)(kd:SortKind)(SY:Ox)(lo x q:Nat)(st:Ox):Prop where
 tb:TB a₀ kd st
 pd:NH st=NH SY
 ch:S9 (NV SY) (NV st) lo (lo+x)
 le:q+1<=x
 un:∀i,lo+x - (q+1)<=i->(NV st)[i]?=(NV SY)[i]?
 eq:∀i,lo+x - (q+1)<=i->i<lo+x->kA κ (NV st) i=kA κ (NV st) (lo+x - 1)
 fl:∀i j,lo<=i->i<=j->j<lo+x - (q+1)->rA κ π (NV st) j<=rA κ π (NV st) i
 gt:∀i,lo<=i->i<lo+x - (q+1)->kA κ (NV st) (lo+x - 1)<kA κ (NV st) i
def yH(κ π:Oy->Int)(zs:Array Oy)(lo hi:Nat):Prop := ∀i j,lo<=i->i<=j->j<hi->rA κ π zs j<=rA κ π zs i
include C in
theorem Dn.zaT{st:Ox}{x q:Nat}(h:Dn κ π a₀ kd SY lo x q st)(fr:iZ π (NV SY) lo)(hs:lo+x<=a₀.size):yH κ π (mirror (NV st) (lo+x - (q+1)) (lo+x) ((lo+x - (lo+x - (q+1))) / 2)) lo (lo+x):=by
 intro i j a1 a2 a3
 have sz:lo+x<=(NV st).size:=by rw[h.tb.size];lia
 have sz0:(NV SY).size=(NV st).size:=h.ch.size.symm
 have le:=h.le
 unfold rA
 rw[hV sz,hV sz,hV sz,hV sz]
 by_cases zi:lo+x - (q+1)<=i
 .rw[QO (by lia),QO (by lia),QO (by lia),QO (by lia),h.eq _ (by lia) (by lia),h.eq (lo+x - (q+1)+(lo+x) - 1 - i) (by lia) (by lia),fS (h.un (lo+x - (q+1)+(lo+x) - 1 - j) (by lia)),fS (h.un (lo+x - (q+1)+(lo+x) - 1 - i) (by lia))]
  have:=fr (lo+x - (q+1)+(lo+x) - 1 - j) (lo+x - (q+1)+(lo+x) - 1 - i) (by lia) (by lia) (by lia)
  lia
 .rw[QU (c:=_/\i<_) (by lia),QU (c:=_/\i<_) (by lia)]
  by_cases zj:lo+x - (q+1)<=j
  .rw[QO (by lia),QO (by lia),h.eq _ (by lia) (by lia)]
   have g:=h.gt i a1 (by lia)
   have p1:=fN C h.tb.pm (i:=lo+x - (q+1)+(lo+x) - 1 - j) (by lia)
   have p2:=fN C h.tb.pm (i:=i) (by lia)
   lia
  .rw[QU (by lia),QU (by lia)]
   exact h.fl i j a1 a2 (by lia)
include C in
theorem Dn.zaS{st:Ox}{x:Nat}(h:Dn κ π a₀ kd SY lo x 0 st)(hs:lo+x<=a₀.size):yH κ π (NV st) lo (lo+x):=by
 intro i j a1 a2 a3
 have sz:lo+x<=(NV st).size:=by rw[h.tb.size];lia
 have le:=h.le
 by_cases zj:j<lo+x - (0+1)
 .exact h.fl i j a1 a2 zj
 .have ej:j=lo+x - 1:=by lia
  by_cases zi:i=j
  .subst zi;exact Om _
  .have g:=h.gt i a1 (by lia)
   have p1:=fN C h.tb.pm (i:=lo+x - 1) (by lia)
   have p2:=fN C h.tb.pm (i:=i) (by lia)
   unfold rA
   rw[ej]
   lia
noncomputable def uf(lo n nr:Nat):StateT Ox Sem (Qo (Qo Nat)×Nat×Nat) :=
 forIn [n:nr] ((Qn,n,0):Qo (Qo Nat)×Nat×Nat) λ_ r=>do
  let x <-ltAt' (lo+r.snd.fst) (lo+r.snd.fst - 1)
  match x with
  |some sm =>
   if sm=Qt then
    if r.snd.snd > 0 then do
     reverseSlice' (lo+r.snd.fst - (r.snd.snd+1)) (lo+r.snd.fst)
     pure (NF (Qn,r.snd.fst+1,0))
    else pure (NF (Qn,r.snd.fst+1,0))
   else do
    let y <-ltAt' (lo+r.snd.fst - 1) (lo+r.snd.fst)
    match y with
    |some lg=>if lg=Qt then pure (OC (Qn,r.snd.fst,r.snd.snd)) else pure (NF (Qn,r.snd.fst+1,r.snd.snd+1))
    |_=>pure (OC (Qs Qn,r.snd.fst,r.snd.snd))
  |_=>pure (OC (Qs Qn,r.snd.fst,r.snd.snd))
include C in
theorem D4{st:Ox}{Q:Qo (Qo Nat)×Nat×Nat->Ox->Prop}(fr:iZ π (NV SY) lo)(hn:1<=n)(Wc:n<=nr)(hs:lo+nr<=a₀.size)(D0:Dn κ π a₀ kd SY lo n 0 st)
  (h:∀m q Q9,n<=m->m<=nr->Dn κ π a₀ kd SY lo m q Q9->Q (Qn,m,q) Q9):wpS M A E s (uf lo n nr) Q st:=by
 unfold uf
 refine wpS_forRange (I:=λx c Q9 => ∃q,c=(Qn,x,q)/\Dn κ π a₀ kd SY lo x q Q9) ?_ ?_ ⟨0,rfl,D0⟩
 .rintro x c Q9 V9 hx2 ⟨q,rfl,D⟩
  dsimp only
  have le:=D.le
  have sz:lo+x<=(NV Q9).size:=by rw[D.tb.size];lia
  have zgm:=D.tb.size
  refine N0 (nh C D.tb (by lia) (by lia) ?_)
  by_cases hl:kA κ (NV Q9) (lo+x)<kA κ (NV Q9) (lo+x - 1)
  .simp only[hl,decide_true,if_true]
   have mk:∀zs:Array Oy,zs.Perm (NV Q9)->S9 (NV SY) zs lo (lo+x)->yH κ π zs lo (lo+x)->(∀i,lo<=i->i<lo+x->∃j,lo<=j/\j<lo+x/\zs[i]?=(NV Q9)[j]?)->zs[lo+x]?=(NV Q9)[lo+x]?->(∀i,lo+x<=i->zs[i]?=(NV SY)[i]?)->Dn κ π a₀ kd SY lo (x+1) 0 (setArr Q9 zs):=λzs hp hc hf hin hx hun=>{
    tb:=D.tb.set hp
    pd:=D.pd
    ch:=hc.wide (by lia)
    le:=by lia
    un:=λi hi=>hun i (by lia)
    eq:=λi a b=>by congr 1;lia
    fl:=λi j a b c=>hf i j a b (by lia)
    gt:=λi a b=>by
     show kA κ zs (lo+(x+1) - 1)<kA κ zs i
     obtain⟨j,j1,j2,j3⟩:=hin i a (by lia)
     rw[show lo+(x+1) - 1=lo+x by lia,fS hx,fS j3]
     by_cases z:j<lo+x - (q+1)
     .have:=D.gt j j1 z
      lia
     .rw[D.eq j (by lia) j2]
      exact hl }
   by_cases hq:q > 0
   .rw[QO hq]
    refine N0 (qv (OH ⟨0,rfl,mk _ (mirror_perm _ _ _ _) (D.ch.X4 (by lia) (MZ _) sz) (D.zaT C fr (by lia)) (λi a b=>?_) ?_ (λi a=>?_)⟩))
    .rw[getElem?_mirror_all sz]
     split
     .exact⟨_,by lia,by lia,rfl⟩
     .exact⟨i,a,b,rfl⟩
    .rw[getElem?_mirror_all sz,QU (by lia)]
    .rw[getElem?_mirror_all sz,QU (by lia)]
     exact D.un i (by lia)
   .rw[QU hq]
    have:q=0:=by lia
    subst this
    have D1:=mk (NV Q9) (Array.Perm.refl _) D.ch (D.zaS C (by lia)) (λi a b=>⟨i,a,b,rfl⟩) rfl (λi a=>D.un i (by lia))
    exact OH ⟨0,rfl,⟨⟨D1.tb.pm,D1.tb.kind,D1.tb.fld⟩,D1.pd,D1.ch,D1.le,D1.un,D1.eq,D1.fl,D1.gt⟩⟩
  .simp only[hl,decide_false,Nq,if_false]
   refine N0 (nh C D.tb (by lia) (by lia) ?_)
   by_cases hg:kA κ (NV Q9) (lo+x - 1)<kA κ (NV Q9) (lo+x)
   .simp only[hg,decide_true,if_true]
    exact OH (h x q Q9 V9 (by lia) D)
   .simp only[hg,decide_false,Nq,if_false]
    have ee:kA κ (NV Q9) (lo+x)=kA κ (NV Q9) (lo+x - 1):=by lia
    refine OH ⟨q+1,rfl,⟨D.tb,D.pd,D.ch.wide (by lia),by lia,λi a=>D.un i (by lia),λi a b=>?_,λi j a b c=>D.fl i j a b (by lia),λi a b=>?_⟩⟩
    .rw[show lo+(x+1) - 1=lo+x by lia]
     by_cases z:i=lo+x
     .rw[z]
     .rw[ee];exact D.eq i (by lia) (by lia)
    .rw[show lo+(x+1) - 1=lo+x by lia,ee]
     exact D.gt i a (by lia)
 .rintro c Q9 ⟨q,rfl,D⟩
  rw[show max n nr=nr by lia]at D ⊢
  exact h nr q Q9 Wc (MZ _) D
def oT(lo n nr:Nat):StateT Ox Sem (Qo Nat):=do
 liftM (rule "list.sort.descending-run")
 let r <-uf lo (n+1) nr
 match r.fst with
 |some a=>pure a
 |none =>
  if r.snd.snd > 0 then do
   reverseSlice' (lo+r.snd.fst - (r.snd.snd+1)) (lo+r.snd.fst)
   nv lo r.snd.fst nr
  else nv lo r.snd.fst nr
include C in
theorem yN{st:Ox}{Q:Qo Nat->Ox->Prop}(fr:iZ π (NV SY) lo)(Wc:n+1<=nr)(hs:lo+nr<=a₀.size)(D0:Dn κ π a₀ kd SY lo (n+1) 0 st)
  (h:∀m Q9,1<=m->m<=nr->ir κ π a₀ kd SY lo (lo+m) Q9->Q (Qs m) Q9):wpS M A E s (oT lo n nr) Q st:=by
 unfold oT
 refine N0 (wpS_lift (wpAny_rule ⟨rfl,?_⟩))
 refine N0 (D4 C fr (by lia) Wc hs D0 λm q Q9 h1 h2 D=>?_)
 dsimp only
 have sz:lo+m<=(NV Q9).size:=by rw[D.tb.size];lia
 have le:=D.le
 by_cases hq:q > 0
 .rw[QO hq]
  exact N0 (qv (yL C (D.tb.set (mirror_perm _ _ _ _)) D.pd (by lia) h2 hs fr (D.ch.X4 (by lia) (MZ _) sz) (D.zaT C fr (by lia)) h))
 .rw[QU hq]
  have:q=0:=by lia
  subst this
  exact yL C D.tb D.pd (by lia) h2 hs fr D.ch (D.zaS C (by lia)) h
theorem LV(lo nr:Nat):countRun' lo nr=(do
  let r <-pI lo 1 nr
  match r.fst with
  |some a=>pure a
  |none =>
   if(r.snd == nr)=Qt then pure (Qs r.snd)
   else if r.snd > 1 then do
    let x <-ltAt' lo (lo+r.snd - 1)
    match x with
    |some rs=>if rs=Qt then pure (Qs r.snd) else do
      reverseSlice' lo (lo+r.snd)
      oT lo r.snd nr
    |_=>pure Qn
   else oT lo r.snd nr):=by
 rw[countRun'_eq]
 dsimp only
 unfold oT nv uf pI
 congr 1
 funext r
 obtain⟨r,n⟩:=r
 cases r with
 |some r=>rfl
 |none =>
  dsimp only
  split
  .rfl
  .split
   .congr 1
    funext x
    cases x with
    |none=>rfl
    |some rs =>
     dsimp only
     split
     .rfl
     .congr 1
      funext _u
      congr 1
      funext _v
      congr 1
      congr 1
      funext r2
      obtain⟨r2,n2,q2⟩:=r2
      cases r2 with
      |some r2=>rfl
      |none =>
       dsimp only
       split
       .congr 1
        funext _w
        congr 1
        funext _z
        congr 1
        funext r3
        obtain⟨r3,n3⟩:=r3
        cases r3<;>rfl
       .congr 1
        funext _z
        congr 1
        funext r3
        obtain⟨r3,n3⟩:=r3
        cases r3<;>rfl
   .congr 1
    funext _v
    congr 1
    congr 1
    funext r2
    obtain⟨r2,n2,q2⟩:=r2
    cases r2 with
    |some r2=>rfl
    |none =>
     dsimp only
     split
     .congr 1
      funext _w
      congr 1
      funext _z
      congr 1
      funext r3
      obtain⟨r3,n3⟩:=r3
      cases r3<;>rfl
     .congr 1
      funext _z
      congr 1
      funext r3
      obtain⟨r3,n3⟩:=r3
      cases r3<;>rfl
include C in
theorem D5{st:Ox}{Q:Qo Nat->Ox->Prop}(hB:TB a₀ kd st)(fr:iZ π (NV st) lo)(h1:1<=nr)(hs:lo+nr<=a₀.size)
  (h:∀m Q9,1<=m->m<=nr->ir κ π a₀ kd st lo (lo+m) Q9->Q (Qs m) Q9):wpS M A E s (countRun' lo nr) Q st:=by
 rw[LV]
 have sz:=hB.size
 refine N0 (yO C (xs:=NV st) hB (MZ 1) h1 hs fr (S9.refl _ _ _) (λi j a b c=>by rw[show i=j by lia];exact Om _) λn n1 n2 hr hor=>?_)
 dsimp only
 by_cases hn:n=nr
 .rw[QO (by simpa using hn)]
  exact OH (h n st n1 n2 ⟨hB,rfl,S9.refl _ _ _,hr⟩)
 rw[QU (by simpa using hn)]
 have hl:=hor.resolve_left hn
 by_cases hg:n > 1
 .rw[QO hg]
  refine N0 (nh C hB (by lia) (by lia) ?_)
  by_cases hro:kA κ (NV st) lo<kA κ (NV st) (lo+n - 1)
  .simp only[hro,decide_true,if_true]
   exact OH (h n st n1 n2 ⟨hB,rfl,S9.refl _ _ _,hr⟩)
  .simp only[hro,decide_false,Nq,if_false]
   have W7:lo+n<=(NV st).size:=by lia
   have all:∀i,lo<=i->i<lo+n->kA κ (NV st) i=kA κ (NV st) (lo+n - 1):=λi a b=>by
    have q1:=hr lo i (MZ _) a b
    have q2:=hr i (lo+n - 1) a (by lia) (by lia)
    have p1:=fN C hB.pm (i:=lo) (by lia)
    have p2:=fN C hB.pm (i:=i) (by lia)
    have p3:=fN C hB.pm (i:=lo+n - 1) (by lia)
    unfold rA at q1 q2
    lia
   have keys:∀i,lo<=i->i<lo+n->kA κ (mirror (NV st) lo (lo+n) ((lo+n - lo) / 2)) i=kA κ (NV st) (lo+n - 1):=λi a b=>by
    rw[hV W7,QO (by lia)]
    exact all _ (by lia) (by lia)
   have outs:∀i,lo+n<=i->(mirror (NV st) lo (lo+n) ((lo+n - lo) / 2))[i]?=(NV st)[i]?:=λi a=>by rw[getElem?_mirror_all W7,QU (by lia)]
   refine N0 (qv (yN C fr (by lia) hs ⟨hB.set (mirror_perm _ _ _ _),rfl,((S9.refl _ _ _).X4 (MZ _) (MZ _) W7).wide (by lia),by lia,λi a=>outs i (by lia),λi a b=>by congr 1;lia,λi j a b c=>?_,λi a b=>?_⟩ h))
   .show rA κ π (mirror (NV st) _ _ _) j<=rA κ π (mirror (NV st) _ _ _) i
    unfold rA
    rw[keys i a (by lia),keys j (by lia) (by lia),hV W7,hV W7,QO (by lia),QO (by lia)]
    have:=fr (lo+(lo+n) - 1 - j) (lo+(lo+n) - 1 - i) (by lia) (by lia) (by lia)
    lia
   .show kA κ (mirror (NV st) _ _ _) _<kA κ (mirror (NV st) _ _ _) _
    rw[keys i a (by lia),show lo+(n+1) - 1=lo+n by lia,fS (outs (lo+n) (MZ _))]
    exact hl
 .rw[QU hg]
  have:n=1:=by lia
  subst this
  refine yN C fr (by lia) hs ⟨hB,rfl,S9.refl _ _ _,by lia,λi a=>rfl,λi a b=>by congr 1;lia,λi j a b c=>?_,λi a b=>?_⟩ h
  .have:i=j:=by lia
   subst this;exact Om _
  .have:i=lo:=by lia
   subst this
   rw[Nat.add_sub_cancel]at hl
   exact hl
end
theorem BC{f:Oy->Int}{xs:Array Oy}{src d:Nat}(hs:src<xs.size)(hd:d<=src)(k:Nat):kA f (bubble xs src d) k=if k=src - d then kA f xs src else if src - d<k/\k<=src then kA f xs (k - 1) else kA f xs k:=by
 have e:=getElem?_bubble hs d hd k
 by_cases h1:k=src - d
 .rw[QO h1]at e ⊢;exact fS e
 .rw[QU h1]at e ⊢
  by_cases h2:src - d<k/\k<=src
  .rw[QO h2]at e ⊢;exact fS e
  .rw[QU h2]at e ⊢;exact fS e
theorem S9.bub{xs:Array Oy}{src d:Nat}(h:S9 xs zs lo src)(h1:lo<=src - d)(hd:d<=src)(h3:src<zs.size):S9 xs (bubble zs src d) lo (src+1) where
 pm:=(bubble_perm _ _ _).trans h.pm
 out:=λi hi=>by
  rw[getElem?_bubble h3 d hd,QU (by lia),QU (by lia)]
  exact h.out i (by lia)
 ins:=λi a b=>by
  rw[getElem?_bubble h3 d hd]
  split
  .exact⟨src,by lia,by lia,h.out src (by lia)⟩
  .split
   .obtain⟨j,j1,j2,j3⟩:=h.ins (i - 1) (by lia) (by lia)
    exact⟨j,j1,by lia,j3⟩
   .obtain⟨j,j1,j2,j3⟩:=h.ins i a (by lia)
    exact⟨j,j1,by lia,j3⟩
theorem GD{ar:Array Oy}(q:rA κ π ar i<=rA κ π ar j)(p1:0<=kA π ar i/\kA π ar i<1048576)(p2:0<=kA π ar j/\kA π ar j<1048576):kA κ ar i<=kA κ ar j:=by
 unfold rA at q
 lia
theorem GB{ar:Array Oy}(q:kA κ ar i<=kA κ ar j)(p:kA π ar i<=kA π ar j):rA κ π ar i<=rA κ π ar j:=by
 unfold rA
 lia
theorem GC{ar:Array Oy}(q:kA κ ar i<kA κ ar j)(p1:0<=kA π ar i/\kA π ar i<1048576)(p2:0<=kA π ar j/\kA π ar j<1048576):rA κ π ar i<=rA κ π ar j:=by
 unfold rA
 lia
section
variable {A:Ol}(C:Vf M A E s κ π a₀ kd)
include C in
theorem D6{st:Ox}{ok:Nat}{Q:Bool->Ox->Prop}(hB:TB a₀ kd st)(Rw:1<=ok)(hn:ok<=n)(hs:lo+n<=a₀.size)(fr:iZ π (NV st) (lo+ok))(hr:pO κ π (NV st) lo (lo+ok))
  (h:∀Q9,ir κ π a₀ kd st lo (lo+n) Q9->Q Qt Q9):wpS M A E s (binarySort' lo n ok) Q st:=by
 rw[binarySort'_eq]
 refine N0 (wpS_mono (wpS_forRange (I:=λk c Q9=>c=(Qn,())/\ir κ π a₀ kd st lo (lo+min k n) Q9) (Q:=λc Q9=>c=(Qn,())/\ir κ π a₀ kd st lo (lo+n) Q9) ?_ ?_ ?_) ?_)
 .rintro k c Q9 k1 k2 ⟨rfl,tb,pd,ch,rs⟩
  rw[show min k n=k by lia]at ch rs
  have sz:=tb.size
  have szx:=ch.size
  refine N0 (wpS_mono (wpS_forRange (I:=λx c Se=>Se=Q9/\∃l r,c=(Qn,l,r)/\l<=r/\r<=k/\r - l<=k - x/\(∀i,i<l->kA κ (NV Q9) (lo+i)<=kA κ (NV Q9) (lo+k))/\(∀i,r<=i->i<k->kA κ (NV Q9) (lo+k)<kA κ (NV Q9) (lo+i)))
   (Q:=λc Se=>Se=Q9/\∃l r,c=(Qn,l,r)/\l<=k/\(∀i,i<l->kA κ (NV Q9) (lo+i)<=kA κ (NV Q9) (lo+k))/\(∀i,l<=i->i<k->kA κ (NV Q9) (lo+k)<kA κ (NV Q9) (lo+i))) ?_ ?_ ⟨rfl,0,k,rfl,by lia,by lia,by lia,λi hi=>by lia,λi a b=>by lia⟩) ?_)
  .rintro x c Se _ x2 ⟨rfl,l,r,rfl,a1,a2,a3,a4,a5⟩
   dsimp only
   by_cases Va:l ≥ r
   .rw[QO Va]
    have:l=r:=by lia
    subst this
    exact OH ⟨rfl,l,l,rfl,a2,a4,a5⟩
   .rw[QU Va]
    refine N0 (nh C tb (by lia) (by lia) ?_)
    have up:∀i j,i<=j->j<k->kA κ (NV Se) (lo+i)<=kA κ (NV Se) (lo+j):=λi j q1 q2=>by
     have q:=rs (lo+i) (lo+j) (by lia) (by lia) (by lia)
     have p1:=fN C tb.pm (i:=lo+i) (by lia)
     have p2:=fN C tb.pm (i:=lo+j) (by lia)
     exact GD q p1 p2
    by_cases hl:kA κ (NV Se) (lo+k)<kA κ (NV Se) (lo+(l+r) / 2)
    .simp only[hl,decide_true,if_true]
     refine OH ⟨rfl,l,(l+r) / 2,rfl,by lia,by lia,by lia,a4,λi q1 q2=>?_⟩
     exact Int.lt_of_lt_of_le hl (up ((l+r) / 2) i q1 q2)
    .simp only[hl,decide_false,Nq,if_false]
     refine OH ⟨rfl,(l+r) / 2+1,r,rfl,by lia,by lia,by lia,λi q1=>?_,a5⟩
     exact Q1 (up i ((l+r) / 2) (Nat.le_of_lt_succ q1) (by lia)) (Int.not_lt.mp hl)
  .rintro c Se ⟨rfl,l,r,rfl,a1,a2,a3,a4,a5⟩
   have:l=r:=by lia
   subst this
   exact⟨rfl,l,l,rfl,a2,a4,a5⟩
  .rintro c Se ⟨rfl,l,r,rfl,a1,a4,a5⟩
   show wpS _ _ _ _ (do moveDown' (lo+k) (lo+l);pure (NF (Qn,()))) _ _
   rw[moveDown'_eq]
   have hk:lo+k<(NV Se).size:=by lia
   refine N0 (wpS_modify (OH ⟨rfl,tb.set (bubble_perm _ _ _),pd,?_,?_⟩))
   .rw[show min (k+1) n=k+1 by lia]
    exact ch.bub (by lia) (by lia) hk
   .rw[show min (k+1) n=k+1 by lia]
    intro i j b1 b2 b3
    show rA κ π (bubble (NV Se) (lo+k) (lo+k - (lo+l))) i<=rA κ π (bubble (NV Se) (lo+k) (lo+k - (lo+l))) j
    have pk:=fN C tb.pm hk
    have frk:∀i,lo<=i->i<lo+k->kA π (NV Se) i<=kA π (NV Se) (lo+k):=λi q1 q2=>by
     obtain⟨m,m1,m2,m3⟩:=ch.ins i q1 q2
     rw[fS m3,fS (ch.out (lo+k) (by lia))]
     exact fr m (lo+k) (by lia) (by lia) (by lia)
    have zcI:∀i,lo<=i->i<lo+l->rA κ π (NV Se) i<=rA κ π (NV Se) (lo+k):=λi q1 q2=>by
     have q:=a4 (i - lo) (by lia)
     rw[show lo+(i - lo)=i by lia]at q
     exact GB q (frk i q1 (by lia))
    have upA:∀i,lo+l<=i->i<lo+k->rA κ π (NV Se) (lo+k)<=rA κ π (NV Se) i:=λi q1 q2=>by
     have q:=a5 (i - lo) (by lia) (by lia)
     rw[show lo+(i - lo)=i by lia]at q
     exact GC q pk (fN C tb.pm (i:=i) (by lia))
    have rb:∀i,rA κ π (bubble (NV Se) (lo+k) (lo+k - (lo+l))) i=if i=lo+l then rA κ π (NV Se) (lo+k) else if lo+l<i/\i<=lo+k then rA κ π (NV Se) (i - 1) else rA κ π (NV Se) i:=λi=>by
     unfold rA
     rw[BC hk (by lia),BC hk (by lia),show lo+k - (lo+k - (lo+l))=lo+l by lia]
     split
     .rfl
     .split<;>rfl
    rw[rb,rb]
    by_cases z1:i=lo+l
    .rw[QO z1]
     by_cases z2:j=lo+l
     .rw[QO z2];exact Om _
     .rw[QU z2,QO (by lia)];exact upA _ (by lia) (by lia)
    .rw[QU z1]
     by_cases z3:lo+l<i/\i<=lo+k
     .rw[QO z3,QU (by lia),QO (by lia)];exact rs _ _ (by lia) (by lia) (by lia)
     .rw[QU z3]
      by_cases z2:j=lo+l
      .rw[QO z2];exact zcI _ b1 (by lia)
      .rw[QU z2]
       by_cases z4:lo+l<j/\j<=lo+k
       .rw[QO z4];exact rs _ _ b1 (by lia) (by lia)
       .rw[QU z4];exact rs _ _ b1 b2 (by lia)
 .rintro c Q9 ⟨hc,tb,pd,ch,rs⟩
  rw[show min (max (max ok 1) n) n=n by lia]at ch rs
  exact⟨hc,tb,pd,ch,rs⟩
 .refine⟨rfl,hB,rfl,S9.refl _ _ _,?_⟩
  rw[show min (max ok 1) n=ok by lia]
  exact hr
 .rintro c Q9 ⟨rfl,q⟩
  exact OH (h Q9 q)
end
def Ww:Nat->Ql (Ql Oy)->Ql (Nat×Nat×Nat)->Prop
 |_,[],[]=>True
 |lo,L::Ls,q::ps=>q.1=lo/\q.2.1=L.length/\Ww (lo+L.length) Ls ps
 |_,_,_=>False
theorem Ww.app:∀{Ls:Ql (Ql Oy)}{lo:Nat}{N:Ql Oy}{ps:Ql (Nat×Nat×Nat)}{pw:Nat},Ww lo Ls ps->Ww lo (Ls++[N]) (ps++[(lo+Ls.flatten.length,N.length,pw)])
 |[],lo,N,[],pw,_=>⟨by simp,rfl,trivial⟩
 |L::Ls,lo,N,q::ps,pw,h=>⟨h.1,h.2.1,by have:=Ww.app (N:=N) (pw:=pw) h.2.2;simpa[RM] using this⟩
 |[],_,_,_::_,_,h=>h.elim
 |_::_,_,_,[],_,h=>h.elim
section
variable {A:Ol}(C:Vf M A E s κ π a₀ kd)
structure Runs(κ π:Oy->Int)(a₀:Array Oy)(kd:SortKind)(st:Ox)(Ls:List (List Oy))(post:List Oy):Prop where
 tb:TB a₀ kd st
 ar:(NV st).toList=Ls.flatten++post
 mt:Ww 0 Ls (NH st).toList
 ok:∀L∈Ls,kg κ π L/\L≠[]
 sp:Ls.Pairwise (nJ π)
theorem Cp{xs:Array Oy}{F rest:Ql Oy}(e:xs.toList=F++rest)(h1:nJ π F rest)(h2:rest.Pairwise λa b=>π a<=π b):iZ π xs F.length:=by
 intro i j VO hm hj
 have hl:xs.size=F.length+rest.length:=by
  have:=congrArg List.length e
  simpa using this
 have ej:xs[j]?=Qs (rest[j - F.length]'(by lia)):=by
  rw[<-NL,e,Oc hm,MR]
 rw[j5 ej]
 by_cases z:i<F.length
 .have ei:xs[i]?=Qs (F[i]'z):=by rw[<-NL,e,NX z,MR z]
  rw[j5 ei]
  exact h1 _ (Oh _) _ (Oh _)
 .have ei:xs[i]?=Qs (rest[i - F.length]'(by lia)):=by rw[<-NL,e,Oc (by lia),MR]
  rw[j5 ei]
  by_cases w:i=j
  .subst w;exact Om _
  .exact PX.mp h2 _ _ (by lia) (by lia) (by lia)
theorem zL{xs:Array Oy}{z:Oy}(h:xs[i]?=Qs z):rA κ π xs i=rk κ π z:=by unfold rA rk;rw[j5 h,j5 h]
theorem C4{st Q9:Ox}{F rest:Ql Oy}{m:Nat}(e:(NV st).toList=F++rest)(hm:m<=rest.length)(c:ir κ π a₀ kd st F.length (F.length+m) Q9) :
  ∃N,(NV Q9).toList=F++N++rest.drop m/\N.Perm (rest.take m)/\kg κ π N/\N.length=m:=by
 obtain⟨tb,pd,ch,rs⟩:=c
 have hl:(NV st).size=F.length+rest.length:=by
  have:=congrArg List.length e
  simpa using this
 have WL:=ch.size
 have t1:(NV Q9).toList.take F.length=F:=by
  apply OL
  intro i
  rw[List.getElem?_take]
  split
  .rename_i hi
   have:=ch.out i (.inl hi)
   rw[NL,this, <-NL,e,NX hi]
  .rename_i hi
   rw[Pp (by lia)]
 have t2:(NV Q9).toList.drop (F.length+m)=rest.drop m:=by
  apply OL
  intro i
  rw[QL,QL,NL,ch.out _ (.inr (by lia)), <-NL,e,Oc (by lia)]
  congr 1;lia
 refine⟨((NV Q9).toList.drop F.length).take m,?_,?_,?_,?_⟩
 .have q:=Nz F.length (NV Q9).toList
  have q2:=Nz m ((NV Q9).toList.drop F.length)
  rw[Rq,t2]at q2
  rw[t1, <-q2]at q
  rw[Nv]
  exact q.symm
 .have q:=OZ.mp ch.pm
  have q0:=Nz F.length (NV Q9).toList
  have q2:=Nz m ((NV Q9).toList.drop F.length)
  rw[Rq,t2]at q2
  rw[t1, <-q2]at q0
  rw[<-q0,e]at q
  have q3:=(List.perm_append_left_iff _).mp q
  rw[<-Nz m rest]at q3
  simp only[List.drop_append_of_le_length,Nz]at q3
  have:rest=rest.take m++rest.drop m:=(Nz m rest).symm
  rw[this]at q3
  have e4:(rest.take m++rest.drop m).drop m=rest.drop m:=by rw[Nz]
  rw[e4]at q3
  exact(List.perm_append_right_iff _).mp q3
 .unfold kg
  rw[PX]
  intro i j hi hj VO
  simp only[List.getElem_take,List.getElem_drop]
  have Yb:j<m:=by simp at hj;lia
  have a1:(NV Q9)[F.length+i]?=Qs ((NV Q9).toList[F.length+i]'(by simp;lia)):=by rw[<-NL];exact MR _
  have a2:(NV Q9)[F.length+j]?=Qs ((NV Q9).toList[F.length+j]'(by simp;lia)):=by rw[<-NL];exact MR _
  have:=rs (F.length+i) (F.length+j) (by lia) (by lia) (by lia)
  rw[zL a1,zL a2]at this
  exact this
 .simp;lia
end
section
variable {A:Ol}(C:Vf M A E s κ π a₀ kd)
structure XM(κ π:Oy->Int)(a₀:Array Oy)(kd:SortKind)(lo:Nat)(st:Ox)(Ls:List (List Oy))(rest:List Oy):Prop where
 rn:Runs κ π a₀ kd st Ls rest
 ln:Ls.flatten.length=lo
 sp:nJ π Ls.flatten rest
 up:rest.Pairwise λa b=>π a<=π b
noncomputable def r6(sz lo n:Nat):StateT Ox Sem (ForInStep (Qo Unit×Nat)):=do
 let q <-get
 match (NH q).back? with
 |some (s1,n1,_)=>do
  let r <-forIn [0:sz] ((Qn,()):Qo Unit×Unit) λ_ _=>do
   let q <-get
   match (if(NH q).size > 1 then(NH q)[(NH q).size - 2]? else Qn) with
   |some (_,_,zcs) =>
    if zcs<=power' sz (2*s1+n1) (2*s1+n1+n1+n) sz then pure (OC (Qn,()))
    else do
     let b <-mergeAt' ((NH q).size - 2)
     if(!b)=Qt then pure (OC (Qs (),())) else pure (NF (Qn,()))
   |_=>pure (OC (Qn,()))
  match r.fst with
  |some a=>pure (OC (Qs a,lo))
  |none=>do
   modify λq=>setPending q ((NH q).modify ((NH q).size - 1) λx=>(x.fst,x.2.fst,power' sz (2*s1+n1) (2*s1+n1+n1+n) sz))
   modify λq=>setPending q ((NH q).push (lo,n,0))
   pure (NF (Qn,lo+n))
 |_=>do
  modify λq=>setPending q ((NH q).push (lo,n,0))
  pure (NF (Qn,lo+n))
theorem Mb{st:Ox}{Ls:Ql (Ql Oy)}{N rest:Ql Oy}(R:Runs κ π a₀ kd st Ls (N++rest))(hl:Ls.flatten.length=lo)(hn:N.length=n)(rN:kg κ π N)(nN:N≠[])(s1:nJ π Ls.flatten N)(s2:nJ π (Ls.flatten++N) rest)(hu:rest.Pairwise λa b=>π a<=π b) :
  XM κ π a₀ kd (lo+n) (setPending st ((NH st).push (lo,n,0))) (Ls++[N]) rest:=by
 refine⟨⟨⟨R.tb.pm,R.tb.kind,R.tb.fld⟩,?_,?_,λL hL=>?_,?_⟩,?_,?_,hu⟩
 .show(NV st).toList=_
  rw[R.ar];simp
 .show Ww 0 (Ls++[N]) ((NH st).push (lo,n,0)).toList
  have:=R.mt.app (N:=N) (pw:=0)
  rw[Array.toList_push]
  simpa[hl,hn] using this
 .rcases ML.mp hL with z | z
  .exact R.ok L z
  .rw[MS.mp z];exact⟨rN,nN⟩
 .refine PB.mpr ⟨R.sp,OQ _ _,λL hL L2 hL2=>?_⟩
  rw[MS.mp hL2]
  exact λa ha b hb=>s1 a (List.mem_flatten.mpr ⟨L,hL,ha⟩) b hb
 .simp[hl,hn]
 .simpa using s2
def xI(sz:Nat):StateT Ox Sem Unit:=do
 for _ in [0:sz] do
  let p:=NH (<-get)
  if p.size<=1 then break
  let i:=p.size - 2
  let bf:=if i > 0 then p[i - 1]?.map (·.2.1) else Qn
  let i:=if bf.any (· < (p[i+1]?.elim 0 (·.2.1))) then i - 1 else i
  if !(<-mergeAt' i) then return
theorem y8{α:Type}{m m':StateT Ox Sem α}{Q Q':α->Ox->Prop}{st:Ox}(h:wpS M A E s m' Q' st)(e:m=m')(g:∀r Q9,Q' r Q9->Q r Q9):wpS M A E s m Q st:=by
 subst e
 exact wpS_mono h g
end
theorem JQ{f r:Nat}(h:n<64):minRun' (f+1) n r=n+r:=by
 rw[minRun'_succ,QO h]
section
variable {A:Ol}(C:Vf M A E s κ π a₀ kd)
theorem D3{st:Ox}{sz:Nat}{Q:Unit->Ox->Prop}(hs:(NH st).size<=1)(h:Q () st):wpS M A E s (xI sz) Q st:=by
 unfold xI
 dsimp only
 refine N0 (wpS_mono (wpS_forRange (I:=λx c Q9=>c=(Qn,())/\Q9=st) (Q:=λc Q9=>c=(Qn,())/\Q9=st) ?_ ?_ ⟨rfl,rfl⟩) ?_)
 .rintro x c Se _ hx ⟨rfl,rfl⟩
  refine N0 (wpS_get ?_)
  rw[QO hs]
  exact OH ⟨rfl,rfl⟩
 .rintro c Se ⟨rfl,rfl⟩
  exact⟨rfl,rfl⟩
 .rintro c Se ⟨rfl,rfl⟩
  exact OH h
include C in
theorem D2{st:Ox}{Q:Unit->Ox->Prop}(hB:TB a₀ kd st)(hp:NH st = #[])(ha:NV st=a₀)(hu:a₀.toList.Pairwise λa b=>π a<=π b)(h2:2<=a₀.size)(h64:a₀.size<64)
  (h:∀Q9,TB a₀ kd Q9->kg κ π (NV Q9).toList->Q () Q9):wpS M A E s sortRuns' Q st:=by
 rw[sortRuns'_eq]
 refine N0 (wpS_get ?_)
 dsimp only
 rw[hB.size]
 have fin:∀Q9 Ls,Runs κ π a₀ kd Q9 Ls []->Ls.length<=1->Q () Q9:=λQ9 Ls R hl=>by
  refine h Q9 R.tb ?_
  rw[R.ar,Nt]
  match Ls,hl,R with
  |[],_,_=>exact List.Pairwise.nil
  |[L],_,R=>simpa using(R.ok L (by simp)).1
 have zaq:∀{lo Q9 Ls rest},XM κ π a₀ kd lo Q9 Ls rest->lo+rest.length=a₀.size:=λ{lo Q9 Ls rest} B=>by
  have e:=congrArg List.length B.rn.ar
  simp only[QD,Nl,B.ln]at e
  rw[B.rn.tb.size]at e
  lia
 have mr:minRun' a₀.size a₀.size 0=a₀.size:=by
  obtain⟨f,hf⟩:∃f,a₀.size=f+1:=⟨a₀.size - 1,by lia⟩
  rw[hf,JQ (by lia)]
  try lia
 have last:∀{lo Q9 Ls rest},XM κ π a₀ kd lo Q9 Ls rest->a₀.size<=lo->(NH Q9).size<=1->Ls.length<=1->wpS M A E s (xI a₀.size) Q Q9:=λ{lo Q9 Ls rest} B hlo hp1 hl1=>by
  have e:=zaq B
  have:rest=[]:=OP.mp (by lia)
  subst this
  exact D3 hp1 (fin Q9 Ls B.rn hl1)
 refine N0 (wpS_forRange (I:=λx c Q9 => ∃Ls rest lo,c=(Qn,lo)/\XM κ π a₀ kd lo Q9 Ls rest/\x<=lo/\(lo=0/\Ls=[]/\NH Q9 = #[]\/lo=a₀.size/\(NH Q9).size<=1/\Ls.length<=1)) ?_ ?_ ?_)
 .rintro x c Uv _ hx ⟨Ls,rest,lo,rfl,B,hxl,dj⟩
  dsimp only
  have eln:=zaq B
  by_cases Va:lo ≥ a₀.size
  .rw[QO Va]
   rcases dj with⟨d1,_,_⟩ | ⟨_,d2,d3⟩
   .lia
   .exact OH (last B Va d2 d3)
  rw[QU Va]
  obtain⟨lo0,ls0,pe0⟩:lo=0/\Ls=[]/\NH Uv = #[]:=by
   rcases dj with d | ⟨d,_⟩
   .exact d
   .lia
  have fr:iZ π (NV Uv) lo:=by
   have:=Cp B.rn.ar B.sp B.up
   rwa [B.ln]at this
  refine N0 (D5 C B.rn.tb fr (by lia) (by lia) λm Se m1 m2 cn=>?_)
  have push:∀(n:Nat) (TM:Ox),n=a₀.size->1<=n->n<=rest.length->ir κ π a₀ kd Uv lo (lo+n) TM->wpS M A E s (r6 a₀.size lo n) (λr Q9 => ∃Ls rest lo,r=NF (Qn,lo)/\XM κ π a₀ kd lo Q9 Ls rest/\x+1<=lo/\(lo=0/\Ls=[]/\NH Q9 = #[]\/lo=a₀.size/\(NH Q9).size<=1/\Ls.length<=1)) TM:=λn TM n0 n1 n2 cn=>by
   have Zo:ir κ π a₀ kd Uv Ls.flatten.length (Ls.flatten.length+n) TM:=by rw[B.ln];exact cn
   obtain⟨N,e1,e2,e3,e4⟩:=C4 B.rn.ar n2 Zo
   have up:=PB.mp ((Nz n rest).symm ▸ B.up)
   have Z9:NH TM = #[]:=cn.2.1.trans pe0
   have bt:=Mb (κ:=κ) (π:=π) (a₀:=a₀) (kd:=kd) (st:=TM) (Ls:=Ls) (N:=N) (rest:=rest.drop n) (lo:=lo) (n:=n) ⟨cn.1,by rw[e1];simp,by rw[cn.2.1];exact B.rn.mt,B.rn.ok,B.rn.sp⟩ B.ln e4 e3 (λz=>by rw[z]at e4;simp at e4;lia) (λa hA b hB=>B.sp a hA b (List.mem_of_mem_take (e2.mem_iff.mp hB))) (by
    intro a hA b hB
    rcases ML.mp hA with z | z
    .exact B.sp a z b (Qw hB)
    .exact up.2.2 a (e2.mem_iff.mp z) b hB) up.2.1
   unfold r6
   refine N0 (wpS_get ?_)
   rw[show(NH TM).back?=Qn by rw[Z9];rfl]
   refine N0 (wpS_modify (OH ⟨_,_,_,rfl,bt,by lia,.inr ⟨by lia,?_,?_⟩⟩))
   .show((NH TM).push (lo,n,0)).size<=1
    rw[Z9];simp
   .rw[ls0];simp
  dsimp only
  by_cases Ya:m<minRun' a₀.size a₀.size 0
  .rw[QO Ya]
   refine N0 (wpS_lift (wpAny_rule ⟨rfl,?_⟩))
   have fr2:iZ π (NV Se) (lo+m):=by
    have Zo:ir κ π a₀ kd Uv Ls.flatten.length (Ls.flatten.length+m) Se:=by rw[B.ln];exact cn
    obtain⟨N,e1,e2,e3,e4⟩:=C4 B.rn.ar (by lia) Zo
    have up:=PB.mp ((Nz m rest).symm ▸ B.up)
    have:=Cp (F:=Ls.flatten++N) e1 (λa hA b hB=>?_) up.2.1
    .rwa [Nl,B.ln,e4]at this
    .rcases ML.mp hA with z | z
     .exact B.sp a z b (Qw hB)
     .exact up.2.2 a (e2.mem_iff.mp z) b hB
   refine N0 (D6 C cn.1 m1 (by lia) (by lia) fr2 cn.2.2.2 λTM c3=>?_)
   have hf:ir κ π a₀ kd Uv lo (lo+min (a₀.size - lo) (minRun' a₀.size a₀.size 0)) TM:=by
    refine⟨c3.1,c3.2.1.trans cn.2.1,?_,c3.2.2.2⟩
    have w1:=cn.2.2.1.wide (show lo+m<=lo+min (a₀.size - lo) (minRun' a₀.size a₀.size 0) by lia)
    have w2:=c3.2.2.1
    exact⟨w2.pm.trans w1.pm,λi hi=>(w2.out i hi).trans (w1.out i hi),λi a b=>by
     obtain⟨j,j1,j2,j3⟩:=w2.ins i a b
     obtain⟨k,k1,k2,k3⟩:=w1.ins j j1 j2
     exact⟨k,k1,k2,j3.trans k3⟩⟩
   rw[QU (by decide)]
   refine y8 (push _ TM (by lia) (by lia) (by lia) hf) ?_ λr Q9 hq=>?_
   .unfold r6
    congr 1
    funext q
    cases(NH q).back? with
    |none=>rfl
    |some z =>
     obtain⟨a,b,c⟩:=z
     dsimp only
     congr 1
     funext r
     obtain⟨r,_⟩:=r
     cases r<;>rfl
   .obtain⟨Zu,Yv,YM,rfl,b1,b2,b3⟩:=hq
    exact⟨Zu,Yv,YM,rfl,b1,b2,b3⟩
  .rw[QU Ya]
   refine y8 (push m Se (by lia) m1 (by lia) cn) ?_ λr Q9 hq=>?_
   .unfold r6
    congr 1
    funext q
    cases(NH q).back? with
    |none=>rfl
    |some z =>
     obtain⟨a,b,c⟩:=z
     dsimp only
     congr 1
     funext r
     obtain⟨r,_⟩:=r
     cases r<;>rfl
   .obtain⟨Zu,Yv,YM,rfl,b1,b2,b3⟩:=hq
    exact⟨Zu,Yv,YM,rfl,b1,b2,b3⟩
 .rintro c Uv ⟨Ls,rest,lo,rfl,B,hxl,dj⟩
  rcases dj with⟨d1,_,_⟩ | ⟨_,d2,d3⟩
  .lia
  .exact last B (by lia) d2 d3
 .refine⟨[],a₀.toList,0,rfl,⟨⟨hB,by rw[ha];simp,?_,λL hL=>(by cases hL),List.Pairwise.nil⟩,rfl,λa hA=>(by cases hA),hu⟩,MZ _,.inl ⟨rfl,rfl,hp⟩⟩
  rw[hp];trivial
end
end TS
namespace L2
open PySem.Spec TS
section
variable {A:Ol}
theorem Fj{kw:Ql (Str×M6)}{Q:M6->M0->Prop}{P:Ql M6->Prop}(ha1:argsOk "sorted" ⟨[u],kw⟩)(ha2:∀x,argsOk "list.sort" ⟨[.ref x],kw⟩)
  (col:∀R:Ql M6->M0->Prop,(∀(h':U2) (tk:Nat) (us:Ql M6),(∀b o,s.heap.get? b=Qs o->h'.get? b=Qs o)->s.heap.objs.size<=h'.objs.size->P us->us.length<=100000->R us { s with heap:=h',toks:=tk })->wpAny (model prog w) A.in1 (collect u) R E s)
  (V3:∀(h':U2) (tk:Nat) (us:Ql M6),(∀b o,s.heap.get? b=Qs o->h'.get? b=Qs o)->s.heap.objs.size<=h'.objs.size->P us->us.length<=100000 ->
   wpAny (model prog w) A.in1.in1 (Builtin.«list.sort» ⟨[.ref h'.objs.size],kw⟩) (λfin s'=>fin=.done (.ret .none)/\Q (.ref h'.objs.size) s') E { s with heap:=h'.push (seqObj "list" us.toArray 0),toks:=tk }) :
  wpAny (model prog w) A (call (.builtin "sorted") [u] kw) Q E s:=by
 refine call_function_entry_kw kind_sorted plain_sorted entry_sorted ha1 ?_
 unfold Builtin.«sorted»
 refine MT (m:=checkCount "sorted" 1 1 _) (Nc ?_)
 refine MT (col _ λh' tk us hk hz hp hl=>?_)
 refine MT (wpAny_newList ?_ (by rw[sizeLine_eq];lia))
 have Y4:(h'.push (seqObj "list" us.toArray 0)).get? h'.objs.size=Qs (seqObj "list" us.toArray 0):=Nh _ rfl
 refine MT (wpAny_holding (wpAny_call_entry_kw slot_list_sort ⟨_,Y4,rfl⟩ entry_list_sort ?_ (ha2 _)))
 refine wpAny_mono (V3 h' tk us hk hz hp hl) (λfin s' hq=>?_) λ_ _ e=>e
 obtain⟨rfl,hq⟩:=hq
 exact⟨_,rfl,Nc ⟨_,rfl,hq⟩⟩
end
end L2
namespace DL
open PySem.Spec L2 TS
def aj(n:Nat):Ql Int:=(NI n).map λ(i:Nat)=>(i:Int)
def Jx(n:Nat):(aj n).length=n:=by simp[aj]
def Jy{x:Int}(h:(aj n)[i]?=Qs x):x=(i:Int)/\i<n:=by
 unfold aj at h
 rw[Nj]at h
 rcases e:(NI n)[i]? with _|j
 .rw[e]at h;cases h
 rw[e]at h
 obtain⟨h1,h2⟩:=Nm.mp e
 simp at h1 h2
 cases h
 exact⟨by rw[h2],h1⟩
def td{i:Int}(h0:0<=i)(h1:i<=100000):Builtin.Range.rangeFitsLong i=Qt:=by
 unfold Builtin.Range.rangeFitsLong
 have e:(2:Int) ^ 63=9223372036854775808:=by decide
 rw[e]
 simp only[MX,SI]
 lia
def Fp{n:Int}(h0:0<=n)(h1:n<=100000):Builtin.Range.small 0 n 1=Qt:=by
 have rs:Builtin.Range.rangeSize 0 n 1=n:=by simp only[Builtin.Range.rangeSize];lia
 unfold Builtin.Range.small
 rw[rs,td (i:=0) (by lia) (by lia),td h0 h1,td (i:=1) (by lia) (by lia),QO (by lia),td (i:=n+(1 - 1)) (by lia) (by lia),NW]
 rfl
open PySem.Spec L2
def kW(i:Nat):Th->Nat:=λt=>match t[i]? with
 |some (.val (.int n))=>n.natAbs+1
 |_=>0
end DL
namespace TS
section
variable {A:Ol}
theorem W0{α:Type}:∀l:Ql α,l.zip l=l.map λx=>(x,x)
 |[]=>rfl
 |x::l=>by rw[Nu,W0 l];rfl
theorem HC(vs:Ql M6):(vs.toArray.zip vs.toArray).toList=vs.map λx=>(x,x):=by
 have:=ksk_zip vs.toArray vs
 rw[this,List.toList_toArray,W0]
theorem HD(vs:Ql M6):(vs.toArray.zip vs.toArray).size=vs.length:=by rw[Array.size_zip,Nd];lia
end
def XG(h:U2)(d:U1)(es:Array DictEntry)(ep:Nat):Prop := ∃o,h.get? d=Qs o/\o.ExactDict/\o.data=.dict es ep
theorem XG.ty{d:U1}{es:Array DictEntry}(x:XG s.heap d es ep):s.TypeIs (.ref d) "dict":=let ⟨o,a,r,_⟩:=x;⟨o,a,r.1⟩
section
variable {A:Ol}
theorem Gp{d:U1}{es:Array DictEntry}{Q:M6->M0->Prop}(nm:(d == sysModules)=Qf)(x:XG s.heap d es ep)
  (q:Q (.ref s.heap.objs.size) { s with heap:=s.heap.push { cls:=.type "dict_keyiterator",data:=.fields #[.ref d,.int 0 0,.int es.size 0,.int ep 0] } }):wpAny (model prog w) A (pyIter (.ref d)) Q E s:=by
 have ty:=x.ty
 obtain⟨o,a,r,dd⟩:=x
 refine wpAny_pyIter_slot ty F.slot_dict_iter (wpAny_call_entry F.slot_dict_iter ty F.entry_dict_iter ?_ (F.args_dict_iter_1 _))
 unfold Builtin.«dict.__iter__» Builtin.Dict.dictSlotNone
 refine MT (MT (wpAny_notOrdered_dict ty ?_))
 show wpAny _ _ (pure (M7 d)) _ _ s
 refine Nc ?_
 show wpAny _ _ (Builtin.Dict.showsAll d >>= _) _ _ s
 unfold Builtin.Dict.showsAll
 rw[QU (by rw[nm];exact MU)]
 refine MT (Nc (MT (wpAny_dictEntries a dd (MT (wpAny_dictEpoch a dd ?_)))))
 exact MT (wpAny_newObj_type (Nc ⟨_,rfl, "dict_keyiterator",_,⟨_,Nh _ rfl,rfl⟩,F.slot_dict_keyiterator_next.lookup,by simpa[rawInt] using q⟩))
theorem Gq{it d:U1}{es:Array DictEntry}{Q:Qo M6->M0->Prop}(ki:s.heap.IsKeyIter it d i es.size ep)(x:XG s.heap d es ep)(hi:i<es.size)
  (q:∀h',h'.IsKeyIter it d (i+1) es.size ep->Heap.SameBut it s.heap h'->Q (Qs es[i].key) { s with heap:=h' }):wpAny (model prog w) A (pyNext (.ref it)) Q E s:=by
 have ty:=ki.typeIs
 obtain⟨o,ho,hc,hd⟩:=ki
 obtain⟨od,a,r,dd⟩:=x
 have ow:Builtin.Dict_items.ownsTuple "dict_keyiterator"=Qf:=by decide
 have nn : ¬ ((M7 d == Pw)=Qt):=MU
 unfold pyNext
 refine MT (wpAny_attempt (wpAny_callSpecial?_slot (name:=Str.ofString "__next__") ty F.slot_dict_keyiterator_next (wpAny_call_entry F.slot_dict_keyiterator_next ty F.entry_dict_keyiterator_next ?_ (F.args_dict_keyiterator_next_1 _))))
 refine MT (Nc (MT (MT ?_)))
 first | refine MT (wpAny_typeNameOfWhole_keyiter ty (Nc (MT (wpAny_fieldsOf ho hd ?_)))) |refine MT (wpAny_typeNameOf_keyiter ty (Nc (MT (wpAny_fieldsOf ho hd ?_))))
 simp only[ow,Nq,if_false]
 show wpAny _ _ (if(M7 d == Pw)=Qt then _ else _) _ _ s
 rw[QU nn]
 refine MT (Nc (MT (wpAny_dictEntries a dd ?_)))
 rw[QU (by simp)]
 refine MT (Nc (MT (wpAny_dictEpoch a dd ?_)))
 rw[QU (by simp)]
 refine Nc ?_
 have ng : ¬ ((i:Int)<0):=by lia
 simp only[ng,if_false,N7,PY hi]
 refine MT ?_
 first | refine MT (wpAny_typeNameOfWhole_keyiter ty (Nc (MT (wpAny_isOneOf_keyiter ty ?_)))) |refine MT (wpAny_typeNameOf_keyiter ty (Nc (MT (wpAny_isOneOf_keyiter ty ?_))))
 show wpAny _ _ (setField (.ref it) 1 (rawInt ((i:Int)+1)) >>= _) _ _ s
 refine MT (wpAny_setField ho hd (by simp) ?_)
 have k2:(s.heap.update it (Obj.mapFields (·.setIfInBounds 1 (rawInt ((i:Int)+1))))).IsKeyIter it d (i+1) es.size ep:=⟨_,Po _ ho (Obj.isFreed_of_fields (Obj.data_mapFields hd _)),(Obj.cls_mapFields ..).trans hc,by rw[Obj.data_mapFields hd];simp[rawInt]⟩
 refine MT (wpAny_holding (MT (wpAny_isOneOf_keyiter (s:={ s with heap:=s.heap.update it (Obj.mapFields (·.setIfInBounds 1 (rawInt ((i:Int)+1)))) }) k2.typeIs ?_)))
 show wpAny _ _ (pure es[i].key) _ _ _
 exact Nc (Nc ⟨_,rfl,Nc (q _ k2 (Heap.SameBut.update ..))⟩)
theorem Gs{it d:U1}{es:Array DictEntry}{Q:Qo M6->M0->Prop}(hh:A.handled=Qn)(ki:s.heap.IsKeyIter it d es.size es.size ep)(x:XG s.heap d es ep)
  (q:∀h',Heap.ExtBut it s.heap h'->Q Qn { s with heap:=h' }):wpAny (model prog w) A (pyNext (.ref it)) Q E s:=by
 have ty:=ki.typeIs
 obtain⟨o,ho,hc,hd⟩:=ki
 obtain⟨od,a,r,dd⟩:=x
 have ow:Builtin.Dict_items.ownsTuple "dict_keyiterator"=Qf:=by decide
 have nn : ¬ ((M7 d == Pw)=Qt):=MU
 unfold pyNext
 refine MT (wpAny_attempt (wpAny_callSpecial?_slot (name:=Str.ofString "__next__") ty F.slot_dict_keyiterator_next (wpAny_call_entry F.slot_dict_keyiterator_next ty F.entry_dict_keyiterator_next ?_ (F.args_dict_keyiterator_next_1 _))))
 refine MT (Nc (MT (MT ?_)))
 first | refine MT (wpAny_typeNameOfWhole_keyiter ty (Nc (MT (wpAny_fieldsOf ho hd ?_)))) |refine MT (wpAny_typeNameOf_keyiter ty (Nc (MT (wpAny_fieldsOf ho hd ?_))))
 simp only[ow,Nq,if_false]
 show wpAny _ _ (if(M7 d == Pw)=Qt then _ else _) _ _ s
 rw[QU nn]
 refine MT (Nc (MT (wpAny_dictEntries a dd ?_)))
 rw[QU (by simp)]
 refine MT (Nc (MT (wpAny_dictEpoch a dd ?_)))
 rw[QU (by simp)]
 refine Nc ?_
 have ng : ¬ ((es.size:Int)<0):=by lia
 simp only[ng,if_false,N7,Array.getElem?_eq_none (MZ es.size)]
 refine MT ?_
 first | refine MT (wpAny_typeNameOfWhole_keyiter ty (Nc ?_)) |refine MT (wpAny_typeNameOf_keyiter ty (Nc ?_))
 show wpAny _ _ (setField (.ref it) 0 .none >>= _) _ _ s
 refine MT (wpAny_setField ho hd (by simp) ?_)
 show wpAny _ _ (newExc (.type "StopIteration") [] >>= _) _ _ _
 refine MT ?_
 simp only[newExc,newTuple]
 refine MT (wpAny_newObj_type (MT (m:=firstArgMember _ _) (wpAny_of_eq (a:=Pw) (by first | rfl | (simp only[firstArgMember];rfl)) ?_)) (by size_fits))
 refine wpAny_newObj_type ?_ (by size_fits)
 simp only[raiseNew]
 refine MT (wpAny_handled ?_)
 rw[show A.in1.handled=Qn from hh]
 refine MT (Nc (wpAny_throw ?_))
 refine MT (wpAny_isInstance (T := "StopIteration") (b:=Qt) ⟨_,Nh _ rfl,rfl⟩ isSubtype_stop ?_)
 exact Nc (q _ (((Heap.SameBut.update ..).extBut.push _).push _))
end
def adr:M6->U1
 |.ref a=>a
 |_=>0
section
variable {A:Ol}
theorem vH(bs:Ql U1):(((bs.map M7).toArray.zip (bs.map M7).toArray)).toList=bs.map λb=>(M7 b,M7 b):=by
 rw[HC,Nk]
 rfl
theorem sx(bs:Ql U1):((bs.map M7).toArray.zip (bs.map M7).toArray).size=bs.length:=by rw[HD,MY]
theorem Hj{α:Type}{R:α->α->Prop}:∀{l:Ql α},l.length<=1->l.Pairwise R
 |[],_=>List.Pairwise.nil
 |[z],_=>OQ _ _
end
end TS
namespace DL
open PySem.Spec L2
def Pn(I:Ql Nat)(σ σ':L2.St):Prop := ∀i∈I,σ'[i]?=σ[i]?
inductive dP(K:MK)(F:List U1)(I:List Nat)(g:DS)(E:Ends)(σ:L2.St)(H:Hp):Prop
 |mk (A:_) (t:_) (t':_) (h_0:RS K F H A t σ) (h_1:g t=Qs (.nx t')) (h_2:∀σ' H' A',Gr A H A' H'->RS K F H' A' t' σ'->Pn I σ σ'->E.nx σ' H')
def kh(g:DS):Prop := ∀t o,g t=Qs o->∃t',o=.nx t'
section
variable {rest:Ql U4}
def dY(h1:PS X st (dP X.K F I g1))(h2:RU X rest (dP X.K F I g2)):RU X (st::rest) (dP X.K F I (aE g1 g2)):=by
 refine RU.imp (vA h1 h2) ?_
 rintro E σ H ⟨A,t,t2,R,e,h⟩
 unfold aE at e
 refine aB e λo1 e1 e=>?_
 cases o1 with
 |nx t'=>exact⟨A,t,t',R,e1,λσ' H' A' g' R' n'=>⟨A',t',t2,R',e,λWB U0 A'' g'' R'' n''=>h _ _ _ (g'.trans g'') R'' λi hi=>(n'' i hi).trans (n' i hi)⟩⟩
 |rt r=>cases e
 |bk t2=>cases e
 |ct t2=>cases e
def lW(h1:PS X st (dP X.K F I g1)):RU X [st] (dP X.K F I g1):=sj h1
end
end DL
namespace L2
open PySem.Spec
def Fc(te:TE)(g1 g2:TG):TS:=λD σ H=>te σ H λx H1=>g1 x σ H1 λσ2 H2=>g2 x σ2 H2 D.nx
theorem He{t1 t2:U3}{g1 g2:TG}(he:PE X e te)(Y8:PG X t1 g1)(Y7:PG X t2 g2)(hs:swapsWithSole [t1,t2] e pos.line X.env=pure Qf:=by rfl)(hw:swappedStores [t1,t2] e X.env=pure Qn:=by rfl)
  (h1:(assignEach [t1,t2] X.env).map (·.2)=[assign t1 X.env,assign t2 X.env]:=by rfl):PS X (.Assign [t1,t2] e pos) (Fc te g1 g2):=by
 intro pins s σ H D I h
 refine wpAny_Assign_stores (aG (he pins s σ H _ I h) λv s1 ⟨x,H1,I1,r1,q1⟩=>?_) hs hw
 rw[h1]
 show wpAny _ _ (holding [v] (assign t1 X.env v) >>= λ_=>assign t2 X.env v) _ _ s1
 refine MT (wpAny_holding (aG (Y8 pins s1 σ H1 x v _ I1 r1 q1) λ_ s2 q=>?_))
 obtain⟨σ2,H2,I2,q2⟩:=q
 exact aG (Y7 pins s2 σ2 H2 x v _ I2 r1 q2) λ_ s3 ⟨σ',H',I',q⟩=>⟨σ',H',I',q⟩
def vu:V->V->V->Hp->(Hp->Prop)->Prop:=λo i v H Q => ∃p H',o=.ref p/\XI H p i v H'/\Q H'
theorem Ft(hu:X.A.units+1<cLine):uF X vu:=by
 intro pins s σ H o i v ov iv u Q I ro ri rv h
 obtain⟨p,H',rfl,g,q⟩:=h
 cases ro
 exact LJ hu I g ri rv λs' I'=>⟨H',I',q⟩
end L2
namespace DL
open PySem.Spec L2
def yy(K:MK)(F:Ql U1)(g:TG)(k:D->Th->Qo Th):Prop :=
 ∀σ H A t t' d (Q:L2.St->Hp->Prop),RS K F H A t σ->aP d=Qt->k d t=Qs t'->After K F A H Q t'->g (sV d) σ H Q
section
variable {gt2:TG}{YQ:D->Th->Qo Th}
def fR(i:Nat)(fk:DE):D->Th->Qo Th:=λd t=>match o9 i fk (dC d) t with
 |some (.nx t')=>Qs t'
 |_=>Qn
def za :yy X.K F (xq (uP i) (dE X.K F fb) vu) (fR i fb):=by
 intro σ H A t t' d Q R sd e h
 unfold fR o9 at e
 simp only[dC,MP]at e
 rcases e2:fb t with _|kk
 .rw[e2]at e;cases e
 rw[e2]at e
 simp only[MP]at e
 rcases eo:oy t i (.cl d) kk with _|o
 .rw[eo]at e;cases e
 rw[eo]at e
 unfold oy at eo
 split at eo
 case h_2=>cases eo
 rename_i ks ds k z ek
 replace eo:=S0 eo
 obtain⟨ok,eo⟩:=eo
 simp only[MX,SI]at ok
 cases eo
 cases e
 obtain⟨p,a1,a2,l,hp,mk⟩:=R.zcl z ok.1.1
 refine⟨_,a1,A,t,kk,R,e2,λy H2 gs q2=>?_⟩
 have ey:=Kp q2.full ek
 subst ey
 obtain⟨pz,pl⟩:=GN k d l
 obtain⟨A2,R',g'⟩:=mk H2 _ _ gs pl (GP sd ok.1.1)
 have hlen:(d4 ks (ds.map sV)).length<Nn:=by
  unfold d4
  rw[Qm]
  exact ND (Nat.min_le_left _ _) (Nb ok.2 (by rw[sizeLine_eq];decide))
 refine⟨p,_,rfl,XI.k (gs _ _ hp) hlen,?_⟩
 rw[pz]
 exact h _ _ _ g' R'
def mN(k1 k2:D->Th->Qo Th)(f:DE):DS:=λt=>(f t).bind λr=>if aP r.d then(k1 r.d t).bind λt1=>(k2 r.d t1).map Out.nx else Qn
def G5{t1 t2:U3}(he:PE X a (dE X.K F fa))(Y8:PG X t1 gt)(Y7:PG X t2 gt2)(h1:yy X.K F gt kt)(h2:yy X.K F gt2 YQ)(hs:swapsWithSole [t1,t2] a pos.line X.env=pure Qf:=by rfl)(hw:swappedStores [t1,t2] a X.env=pure Qn:=by rfl)
  (hh:(assignEach [t1,t2] X.env).map (·.2)=[assign t1 X.env,assign t2 X.env]:=by rfl):PS X (.Assign [t1,t2] a pos) (dS X.K F (mN kt YQ fa)):=by
 refine PS.imp (He he Y8 Y7 hs hw hh) ?_
 rintro E σ H ⟨A,t,o,R,e,h⟩
 unfold mN at e
 rcases e1:fa t with _|r
 .rw[e1]at e;cases e
 rw[e1]at e
 simp only[MP]at e
 replace e:=S0 e
 obtain⟨sd,e⟩:=e
 rcases e3:kt r.d t with _|ta
 .rw[e3]at e;cases e
 rw[e3]at e
 simp only[MP]at e
 rcases e4:YQ r.d ta with _|tb
 .rw[e4]at e;cases e
 rw[e4]at e
 cases e
 refine⟨A,t,r,R,e1,λv H1 gs q=>?_⟩
 have ev:=vt q.full sd
 subst ev
 refine h1 σ H1 A t ta r.d _ (R.grow gs) sd e3 λσ2 H2 A2 S8 R2=>?_
 refine h2 σ2 H2 A2 ta tb r.d _ R2 sd e4 λσ3 H3 A3 US R3=>?_
 exact h _ _ _ (((Gr.of_same R.mu.left gs).trans S8).trans US) R3
def Am(i:Nat) (hu:X.A.units+64<cLine)(hb:PE X b (dE X.K F fb))(hN:X.N[i]?=Qs x:=by rfl)(hv:dh X.env.scope x:=by first | exact Or.inl rfl | exact Or.inr (Or.inl rfl) |exact Or.inr (Or.inr rfl))(hd:Sv x:=by decide)
  (R9:Tj x:=by decide)
  (ha:∀v,assign (.Subscript (.Name x p0) b Tn) X.env v=(do
   let ov <-holding [v] (eval (.Name x p0) X.env)
   let iv <-holding [v,ov] (eval b X.env)
   standAt Tn
   holding [v,ov,iv] (setItem ov iv v)
   release [v,ov,iv] []):=by intro _;rfl):PG X (.Subscript (.Name x p0) b Tn) (xq (uP i) (dE X.K F fb) vu):=vP (dz (i:=i) hN hv hd R9) hb (Ft (by lia)) ha
end
end DL
namespace TS
section
variable {A:Ol}
theorem CO{I:U1}{fp:Ql U1}{items:Array M6}{St:Nat->U2->Prop}(W:Walks prog w A I fp [I] items.size (λi v=>items[i]?=Qs v) St):∀(n i:Nat) (s:M0) (Q:Ql M6->M0->Prop),St i s.heap->i+n<=items.size ->
  (∀h' tk,St (i+n) h'->(∀b o,b≠I->s.heap.get? b=Qs o->h'.get? b=Qs o)->Q ((items.toList.drop i).take n) { s with heap:=h',toks:=tk })->wpAny (model prog w) A (draw (.ref I) n) Q E s
 |0,i,s,Q,st,_,hQ=>by
  show wpAny _ _ (pure []) Q E s
  exact Nc (by simpa using hQ s.heap s.toks st λ_ _ _ e=>e)
 |n+1,i,s,Q,st,hle,hQ=>by
  have lt:i<items.size:=by lia
  show wpAny _ _ (pyNext (.ref I) >>= _) Q E s
  refine MT (W.item i s _ _ lt st λv h1 tk p Uv k1=>?_)
  have ev:v=items[i]:=by
   rw[PY lt]at p
   exact(Ni p).symm
  subst ev
  refine MT (wpAny_holding (CO W n (i+1) _ _ Uv (by lia) λh2 Yn Se k2=>Nc ?_))
  have hd:items.toList.drop i=items[i]::items.toList.drop (i+1):=by simp[NO,lt]
  have:=hQ h2 Yn (by rw[show i+(n+1)=i+1+n by lia];exact Se) λb o nb e=>k2 b o nb (k1 b o (by simpa using nb) e)
  rw[hd,List.take_succ_cons]at this
  exact this
theorem Ei{items:Array M6}{targets:Ql (Bool×(M6->Sem Unit))}{Q:Unit->M0->Prop}(hh:A.handled=Qn)(hl:s.heap.IsList l items)(hn:targets.length=items.size)(hs:targets.findIdx? (·.1)=Qn)
  (h:∀h' tk,(∀b o,s.heap.get? b=Qs o->h'.get? b=Qs o)->wpAny (model prog w) A (assignInOrder (targets.map (·.2)) items.toList) Q E { s with heap:=h',toks:=tk }) :
  wpAny (model prog w) A (unpack (.ref l) targets) Q E s:=by
 have ll:l<s.heap.objs.size:=by obtain⟨o,g,_⟩:=hl;exact Nf g
 unfold unpack
 rw[hn,hs]
 refine MT (wpAny_holding ?_)
 unfold unpackItems
 refine MT ?_
 unfold notIterableAtAll
 refine MT (wpAny_specialOf hl.typeIs F.slot_list_iter.lookup ?_)
 refine Nc ?_
 simp only[Nq,if_false]
 refine MT (wpAny_holding (wpAny_pyIter_list hl ?_))
 have W:=Walks.list (prog:=prog) (w:=w) (A:=A) hh s.heap.objs.size l (NC ll) items
 refine MT (wpAny_holding (CO W items.size 0 _ _ ⟨⟨_,Nh _ rfl,rfl,rfl⟩,hl.push _⟩ (by lia) λh1 tk Uv k1=>?_))
 have WN:List.take items.size (List.drop 0 items.toList)=items.toList:=by
  rw[List.drop_zero];exact Ph (by simp)
 rw[WN,QU (by simp)]
 rw[O4]at Uv
 refine MT (wpAny_holding (W.done _ _ _ Uv λh2 Yn k2=>?_))
 simp only[Option.isSome_none,Nq,if_false]
 refine Nc (h h2 Yn λb o e=>k2 b o (λz=>absurd (Nf e) (by rw[MS.mp z];exact Oo _)) (k1 b o (NC (Nf e)) (MV _ e)))
end
end TS
namespace L2
open PySem.Spec TS
def xu(K:MK)(n:Nat)(t:eV):TG:=λv σ H Q => ∃a xs,v=.ref a/\Rm K H a xs/\xs.length=n/\t xs σ H Q
theorem vQ{k:Nat}{t:eV}(hc:X.calm=Qt)(h:pP X es t)(hn:(assignEach es X.env).length=n:=by rfl)(Sf:(assignEach es X.env).findIdx? (·.1)=Qn:=by rfl):PG X (.Tuple es k pos) (xu X.K n t):=by
 intro pins s σ H v u Q I r hw
 obtain⟨a,xs,e1,hq,hl,hw⟩:=hw
 subst e1
 cases r
 obtain⟨Q7,rv,pl,hz⟩:=I.list hq
 rw[arm_assign_Tuple]
 refine MT (wpAny_standAt (Ei (I.ok.hd hc) (DL.PlainL.Tt pl) (by simp[hn, <-hl,rv.length]) Sf λh' tk hk=>?_))
 exact h pins _ σ H xs _ Q (I.kept (t':=tk) hk) (by simpa using rv) hw
end L2
namespace DL
open PySem.Spec L2
def j6(n:Nat)(k:Ql D->Th->Qo Th):D->Th->Qo Th:=λd t=>match d with
 |.lst ds=>if ds.length=n then k ds t else Qn
 |_=>Qn
def uO{g':eV}{k':Ql D->Th->Qo Th}(h2:pK K F g' k'):c8 K F (xu K n g') (j6 n k'):=by
 intro σ H A t t' d x Q R r e h
 unfold j6 at e
 split at e
 .rename_i ds
  split at e
  .rename_i hl
   cases r with
   |@lst _ p vs h1 hr=>exact⟨p,vs,rfl,Rm.mono (aV _ _) h1,by rw[hr.length];exact hl,h2 σ H A t t' ds vs Q R hr e h⟩
  .cases e
 .cases e
end DL
namespace L2
open PySem.Spec
theorem Gm{k:aK}{v:M6}(h:jX k v=Qt):RelV (kV k) v:=by
 rcases iJ h with⟨i,t,rfl,rfl⟩ | ⟨x,t,rfl,rfl⟩
 .exact⟨t,rfl⟩
 .exact⟨t,rfl⟩
end L2
namespace DL
open PySem.Spec L2
def RS.Yo{d:D}(R:RS K F H A t σ)(e:t[i]?=Qs (.dp d)) :
  ∃v B A',σ[i]?=Qs (Qs v)/\RS K (B++F) H A' (t.set i .no) σ/\B.Nodup/\(∀b∈B,b∉F)/\Rn K (ah (A++F) H) H d v B/\(∀x∈A',x∈A)/\(∀x∈B,x∈A):=by
 obtain⟨v,B,A',a1,a2,a3,a4,a5,a6,a7,a8,a9⟩:=R.rel.zcL R.nd e
 have s:QS (ah (A++F) H) (ah (A'++(B++F)) H):=aZ H λx hx=>by
  rcases ML.mp hx with z | z
  .exact MJ _ (a4 x z)
  .rcases ML.mp z with z | z
   .exact MJ _ (a5 x z)
   .exact MI _ z
 refine⟨v,B,A',a1,⟨λp hp=>?_,a8,λp hp z=>?_,Rc.mono s a3 λ_ _ _ w=>w⟩,a7,λb hb=>R.dj b (a5 b hb),a2,a4,a5⟩
 .rcases ML.mp hp with z | z
  .exact R.mu p (MJ _ (a4 p z))
  .rcases ML.mp z with z | z
   .exact R.mu p (MJ _ (a5 p z))
   .exact R.mu p (MI _ z)
 .rcases ML.mp z with z | z
  .exact a9 p hp z
  .exact R.dj p (a4 p hp) z
section
variable {rest:Ql U4}
def Hl (hJ:i∉I)(hN:X.N.Nodup)(hi:X.N[i]?=Qs x)(hx:Loc X.env.scope x)(he:PE X a (dE X.K F fa))(hs:swapsWith a (Qs (.Name x pos')) pos.line X.env=pure Qf:=by rfl)(hf:X.fn x=Qt\/X.env.scope.names.lookup x=Qs .local:=by first | exact .inl rfl | exact .inr rfl | assumption) :
  PS X (.Assign [.Name x pos'] a pos) (dP X.K F I (aM i fa)):=by
 refine PS.imp (vG hN hi hx he hs hf) ?_
 rintro E σ H ⟨A,t,t',R,e,h⟩
 unfold aM at e
 rcases e1:fa t with _|r1
 .rw[e1]at e;cases e
 rw[e1]at e
 have e:(cJ t i r1).map Out.nx=Qs (.nx t'):=e
 rcases e2:cJ t i r1 with _|t2
 .rw[e2]at e;cases e
 rw[e2]at e
 cases e
 refine⟨A,t,r1,R,e1,λv H' gs q=>?_⟩
 obtain⟨A',g',R'⟩:=R.put gs q e2
 exact h _ _ _ g' R' λk hk=>Nx (λ(z:i=k)=>hJ (z ▸ hk))
end
def oV(g:gx):DE:=λt=>(g t).bind λq=>if q.1.length<=1000&&q.2.isEmpty then Qs (.dn (.lst q.1)) else Qn
def HM(h:PA X es (WW X.K F fns)):PE X (.List es pos) (dE X.K F (oV fns)):=by
 refine PE.imp (Au h) ?_
 rintro σ H Q ⟨A,t,r,R,e,h⟩
 unfold oV at e
 rcases e1:fns t with _|q
 .rw[e1]at e;cases e
 obtain⟨ds,I⟩:=q
 rw[e1]at e
 simp only[MP]at e
 refine bZ e λok e=>?_
 cases e
 simp only[MX,SI,Q3]at ok
 obtain⟨hl,rfl⟩:=ok
 refine⟨A,t,ds,[],R,e1,λvs H1 B g1 n1 f1 r1=>⟨by rw[r1.length];exact Uy (by lia),λp hp=>?_⟩⟩
 have s1:=dW (o:=HO.lst vs) hp
 have np:p∉B:=dZ r1.lists hp
 refine h _ _ (g1.trans s1) ⟨p::B,M3.mpr ⟨np,n1⟩,λb hb=>?_,.lst bF (Rg.mono (jo hp) r1 λb hb o w=>s1 _ _ w)⟩
 rcases MQ.mp hb with z | z
 .rw[z];exact QS.free g1 hp
 .rcases f1 b z with w | ⟨i,hi,_⟩
  .exact w
  .cases hi
def fE(f:DE):DI:=λt=>(f t).bind λr=>match r.d with
 |.tup ds=>Qs (r.ok,ds)
 |_=>Qn
def Fg (hl:vs.length=ds.length):Src K ds (yD K p) (λP H=>RQ K (ah P H) p vs/\QV K (ah P H) ds vs) where
 keep:=λP H P' H' q s=>⟨RQ.mono s q.1,QV.mono s q.2⟩
 stop:=λP H q=>⟨vs,RQ.mono (aV _ _) q.1,by lia⟩
 go:=λP H i q hi=>⟨vs,vs[i]'(by lia),RQ.mono (aV _ _) q.1,MR (by lia)⟩
 Td:=λP H i x H' q mu y hi=>by
  obtain⟨e1,e2⟩:=y
  subst e1
  exact⟨QS.refl _,q.2.UT (e2 vs (RQ.mono (aV _ _) q.1))⟩
def sD(hl:PE X a (dE X.K F fa)):PI X tg a (dI X.K F (fE fa)):=by
 refine PI.imp (HG hl) ?_
 rintro σ H R ⟨A,t,b,ds,RR,e,h⟩
 unfold fE at e
 refine aB e λr e1 e=>?_
 refine⟨A,t,r,RR,e1,λv H1 gs q=>?_⟩
 have e:(match r.d with | .tup ds=>Qs (r.ok,ds) |_=>Qn)=Qs (b,ds):=e
 split at e
 case h_2=>cases e
 rename_i WV z
 cases e
 have cl:=Rz.SS RR.mu gs q
 rw[z]at cl
 cases cl with
 |@tup _ p vs h1 h2=>exact⟨p,rfl,⟨vs,RQ.mono (aV _ _) h1⟩,h _ H1 _ gs (Fg h2.length) ⟨h1,h2⟩⟩
mutual
def Rn.fl{K:MK}{H0 H:Hp}:∀{d:D}{v:V}{B:List U1},Rn K H0 H d v B->flat d=Qt->Rep K H0 d v/\B=[]
 |_,_,_,.flat _ r,_=>⟨r,rfl⟩
 |_,_,_,.tup h r,f=>⟨.tup h (Rg.fl r (by simpa[flat] using f)).1,(Rg.fl r (by simpa[flat] using f)).2⟩
 |_,_,_,.lst _ _,f=>by simp[flat]at f
 |_,_,_,.RX _ _ _,f=>by simp[flat]at f
 |_,_,_,.Sw _,f=>by simp[flat]at f
 |_,_,_,.obj _ _ _,f=>by simp[flat]at f
def Rg.fl{K:MK}{H0 H:Hp}:∀{ds:List D}{vs:List V}{B:List U1},Rg K H0 H ds vs B->RB ds=Qt->QV K H0 ds vs/\B=[]
 |_,_,_,.nil,_=>⟨.nil,rfl⟩
 |_,_,_,.cons h r,f=>by
  simp only[RB,MX]at f
  obtain⟨a1,a2⟩:=Rn.fl h f.1
  obtain⟨b1,b2⟩:=Rg.fl r f.2
  exact⟨.cons a1 b1,by rw[a2,b2];rfl⟩
end
def xR:DS:=λ_=>Qn
def G0 :PS X st (dS X.K F xR):=by
 intro E pins s σ H I h
 obtain⟨A,t,o,R,e,h⟩:=h
 cases e
def Ss:∀ns:Ql Int,RB (ns.map D.int)=Qt
 |[]=>rfl
 |n::ns=>by simp[RB,flat,Ss ns]
structure Res where
 γ:Type
 rel:MK->Hp->U1->γ->List U1->Prop
 mono:∀{K:MK}{H H':Hp}{p:U1}{w:γ}{B:List U1},rel K H p w B->(∀b o,H b=Qs o->(sT o=Qf\/b∈B)->H' b=Qs o)->rel K H' p w B
 lists:∀{K:MK}{H:Hp}{p:U1}{w:γ}{B:List U1},rel K H p w B->RF H B
structure RW(ρ:Res)(K:MK)(F:List U1)(H:Hp)(A:List U1)(t:Th)(σ:L2.St)(p:U1)(w:ρ.γ)(B:List U1):Prop where
 rs:RS K (B++F) H A t σ
 rel:ρ.rel K H p w B
 nd:B.Nodup
 dj:∀b∈B,b∉F
def Ch(B:Ql U1)(H H':Hp):Prop := ∀b o,b∉B->H b=Qs o->H' b=Qs o
def Ch.refl :Ch B H H:=λ_ _ _ h=>h
def Ch.of (g:QS H H'):Ch B H H':=λb o _ h=>g b o h
def Ch.trans (a:Ch B H H1)(b:Ch B H1 H2):Ch B H H2:=λx o n h=>b x o n (a x o n h)
def gq(B:Ql U1)(H H':Hp):Hp:=λb=>if b∈B then H' b else H b
def wj{b:U1}(h:b∈B):gq B H H' b=H' b:=QO h
def kG{b:U1}(h:b∉B):gq B H H' b=H b:=QU h
def mi (c:Ch B H H'):QS (gq B H H') H':=λb o h=>by
 by_cases z:b∈B
 .rwa [wj z]at h
 .rw[kG z]at h;exact c b o z h
section
variable {ρ:Res}{B':Ql U1}{t':Th}{w w':ρ.γ}
def RW.grow(R:RW ρ K F H A t σ p w B)(g:QS H H'):RW ρ K F H' A t σ p w B:=⟨R.rs.grow g,ρ.mono R.rel λb o h _=>g b o h,R.nd,R.dj⟩
def RW.V5(R:RW ρ K F H A t σ p w B){b:U1}(hb:b∈B):b∉A:=λz=>R.rs.dj b z (MJ _ hb)
def RW.step(R:RW ρ K F H A t σ p w B)(g:Gr A H A' H')(R':RS K (B++F) H' A' t' σ'):RW ρ K F H' A' t' σ' p w B :=
 ⟨R',ρ.mono R.rel λb o h k=>g.kp b o (λz=>by
  rcases k with k | k
  .obtain⟨⟨u,m⟩,e⟩:=R.rs.mu b (MJ _ z)
   have m:sT u=Qt:=m
   rw[h]at e;cases e
   rw[k]at m;cases m
  .exact R.V5 k z) h,R.nd,R.dj⟩
def RW.chg(R:RW ρ K F H A t σ p w B)(c:Ch B H H')(q:ρ.rel K H' p w' B):RW ρ K F H' A t σ p w' B:=by
 have hs:QS (ah (A++(B++F)) H) (ah (A++(B++F)) H'):=λb o h=>by
  obtain⟨n,h⟩:=cD h
  exact bw (c b o (λz=>n (MI _ (MJ _ z))) h) n
 refine⟨⟨λb hb=>?_,R.rs.nd,R.rs.dj,Rc.mono hs R.rs.rel λb hb o h=>c b o (λz=>R.V5 z hb) h⟩,q,R.nd,R.dj⟩
 by_cases z:b∈B
 .exact ρ.lists q b z
 .obtain⟨o,e⟩:=R.rs.mu b hb
  exact⟨o,c b _ z e⟩
def RW.al(R:RW ρ K F H A t σ p w B){b:U1}(hb:b∈B):H b≠Qn:=by
 obtain⟨o,e⟩:=ρ.lists R.rel b hb
 rw[e];simp
def RW.V6(R:RW ρ K F H A t σ p w B)(R':RW ρ K F H' A t σ p w' B):RF (gq B H H') (A++(B++F)):=λb hb=>by
 by_cases z:b∈B
 .rw[wj z];exact ρ.lists R'.rel b z
 .rw[kG z];exact R.rs.mu b hb
def RW.zcC(R:RW ρ K F H A t σ p w B)(R':RW ρ K F H' A t σ p w' B):RS K (B++F) (gq B H H') A t σ:=by
 refine⟨R.V6 R',R.rs.nd,R.rs.dj,Rc.mono (λb o h=>?_) R.rs.rel λb hb o h=>by rw[kG λz=>R.V5 z hb];exact h⟩
 obtain⟨n,h⟩:=cD h
 exact bw (by rw[kG λz=>n (MI _ (MJ _ z))];exact h) n
def Rz.Um(R:RW ρ K F H A t σ p w B)(h:Rz K (B++F) A H H2 r v):Rz K (B++F) A (gq B H H1) H2 r v:=by
 have fr:∀{b:U1},H b=Qn->gq B H H1 b=Qn:=λ{b} e=>by rw[kG λz=>R.al z e];exact e
 cases r with
 |cl d=>exact h
 |tm d=>exact h
 |nw xs =>
  obtain⟨q,vs,rfl,h1,h2,h3⟩:=h
  exact⟨q,vs,rfl,fr h1,h2,h3⟩
 |dn d =>
  obtain⟨C,h1,h2,h3⟩:=h
  exact⟨C,h1,λb hb=>fr (h2 b hb),h3⟩
def Rz.zcD(R':RW ρ K F H1 A t σ p w' B)(h:Rz K (B++F) A (gq B H H1) H2 r v):Rz K (B++F) A H H2 r v:=by
 have fr:∀{b:U1},gq B H H1 b=Qn->H b=Qn:=λ{b} e=>by
  by_cases z:b∈B
  .rw[wj z]at e;exact absurd e (R'.al z)
  .rwa [kG z]at e
 cases r with
 |cl d=>exact h
 |tm d=>exact h
 |nw xs =>
  obtain⟨q,vs,rfl,h1,h2,h3⟩:=h
  exact⟨q,vs,rfl,fr h1,h2,h3⟩
 |dn d =>
  obtain⟨C,h1,h2,h3⟩:=h
  exact⟨C,h1,λb hb=>fr (h2 b hb),h3⟩
def Rz.ZX(R:RW ρ K F H A t σ p w B)(h:Rz K (B++F) A H H1 r v)(c:Ch B H1 H2):Rz K (B++F) A H H2 r v:=by
 have hs:∀P:Ql U1,(∀b∈B,b∈P)->QS (ah P H1) (ah P H2):=λP hP b o h=>by
  obtain⟨n,h⟩:=cD h
  exact bw (c b o (λz=>n (hP b z)) h) n
 have s1:=hs (A++(B++F)) λb hb=>MI _ (MJ _ hb)
 cases r with
 |cl d=>exact Rep.mono s1 h
 |tm d=>exact Rep.mono (hs (B++F) λb hb=>MJ _ hb) h
 |nw xs =>
  obtain⟨q,vs,rfl,h1,h2,h3⟩:=h
  exact⟨q,vs,rfl,h1,c q _ (λz=>R.al z h1) h2,QV.mono (hs _ λb hb=>MM _ (MI _ (MJ _ hb))) h3⟩
 |dn d =>
  obtain⟨C,h1,h2,h3⟩:=h
  exact⟨C,h1,h2,Rn.mono (hs _ λb hb=>MI _ (MI _ (MJ _ hb))) h3 λb hb o e=>c b o (λz=>R.al z (h2 b hb)) e⟩
def Rz.early(R1:RW ρ K F H1 A t σ p w B)(c:Ch B H H1)(h:Rz K (B++F) A H1 H2 r v):Rz K (B++F) A H H2 r v:=by
 have fr:∀{b:U1},H1 b=Qn->H b=Qn:=λ{b} e=>by
  cases z:H b with
  |none=>rfl
  |some o =>
   by_cases y:b∈B
   .exact absurd e (R1.al y)
   .rw[c b o y z]at e;cases e
 cases r with
 |cl d=>exact h
 |tm d=>exact h
 |nw xs =>
  obtain⟨q,vs,rfl,h1,h2,h3⟩:=h
  exact⟨q,vs,rfl,fr h1,h2,h3⟩
 |dn d =>
  obtain⟨C,h1,h2,h3⟩:=h
  exact⟨C,h1,λb hb=>fr (h2 b hb),h3⟩
def So.early(R1:RW ρ K F H1 A t σ p w B)(c:Ch B H H1):∀{rs:Ql Ev}{vs:Ql V},So K (B++F) A H1 H2 rs vs->So K (B++F) A H H2 rs vs
 |_,_,.nil=>.nil
 |_,_,.cons h r=>.cons (h.early R1 c) (So.early R1 c r)
def So.Um(R:RW ρ K F H A t σ p w B):∀{rs:Ql Ev}{vs:Ql V},So K (B++F) A H H2 rs vs->So K (B++F) A (gq B H H1) H2 rs vs
 |_,_,.nil=>.nil
 |_,_,.cons h r=>.cons (h.Um R) (So.Um R r)
end
abbrev WE(ρ:Res):=Th->ρ.γ->Qo (Ev×ρ.γ)
abbrev WA(ρ:Res):=Th->ρ.γ->Qo (Ql Ev×ρ.γ)
abbrev WT(ρ:Res):=Th->ρ.γ->Qo (Bool×ρ.γ)
inductive wE(ρ:Res)(K:MK)(F:List U1)(p:U1)(f:WE ρ)(σ:L2.St)(H:Hp)(Q:VK):Prop
 |mk (A:_) (B:_) (t:_) (w:_) (r:_) (w':_) (h_0:RW ρ K F H A t σ p w B) (h_1:f t w=Qs (r,w')) (h_2:∀v H',Ch B H H'->RW ρ K F H' A t σ p w' B->Rz K (B++F) A H H' r v->Q v H')
inductive wA(ρ:Res)(K:MK)(F:List U1)(p:U1)(f:WA ρ)(σ:L2.St)(H:Hp)(Q:List V->Hp->Prop):Prop
 |mk (A:_) (B:_) (t:_) (w:_) (rs:_) (w':_) (h_0:RW ρ K F H A t σ p w B) (h_1:f t w=Qs (rs,w')) (h_2:∀vs H',Ch B H H'->RW ρ K F H' A t σ p w' B->So K (B++F) A H H' rs vs->Q vs H')
inductive wT(ρ:Res)(K:MK)(F:List U1)(p:U1)(f:WT ρ)(σ:L2.St)(H:Hp)(Q:Bool->Hp->Prop):Prop
 |mk (A:_) (B:_) (t:_) (w:_) (b:_) (w':_) (h_0:RW ρ K F H A t σ p w B) (h_1:f t w=Qs (b,w')) (h_2:∀H',Ch B H H'->RW ρ K F H' A t σ p w' B->Q b H')
def bg(ρ:Res)(f:DE):WE ρ:=λt w=>(f t).map λr=>(r,w)
def jK(ρ:Res)(f:DT):WT ρ:=λt w=>(f t).map λr=>(r,w)
def cL{ρ:Res}(k:Ev->Ev->Qo Ev)(fa fb:WE ρ):WE ρ:=λt w=>(fa t w).bind λq1=>(fb t q1.2).bind λq2=>(k q1.1 q2.1).map λr=>(r,q2.2)
def SU{ρ:Res}:WA ρ:=λ_ w=>Qs ([],w)
def aX{ρ:Res}(f:WE ρ)(g:WA ρ):WA ρ:=λt w=>(f t w).bind λq1=>(g t q1.2).bind λq2=>Qs (q1.1::q2.1,q2.2)
def mG{ρ:Res}(k:Ql Ev->Qo Ev)(g:WA ρ):WE ρ:=λt w=>(g t w).bind λq=>(k q.1).map λr=>(r,q.2)
def km{ρ:Res}(f:WE ρ):WT ρ:=λt w=>(f t w).bind λq=>match q.1.d with
 |.bl b=>Qs (b,q.2)
 |_=>Qn
def Vi{ρ:Res}(f g:WT ρ):WT ρ:=λt w=>(f t w).bind λq=>if q.1 then Qs q else g t q.2
def ZU{ρ:Res}(f g:WT ρ):WT ρ:=λt w=>(f t w).bind λq=>if q.1 then g t q.2 else Qs q
section
variable {ρ:Res}{rest:Ql U3}{fa fb fc:WE ρ}{g:WA ρ}{ft fu:WT ρ}
def aU{f:DE}(h:∀F',PE X a (dE X.K F' f)):PE X a (wE ρ X.K F p (bg ρ f)):=by
 rintro pins s σ H Q I ⟨A,B,t,w,r,w',R,e,k⟩
 unfold bg at e
 rcases e1:f t with _|r1
 .rw[e1]at e;cases e
 rw[e1]at e
 cases e
 exact h (B++F) pins s σ H Q I ⟨A,t,_,R.rs,e1,λv H' gs q=>k v H' (Ch.of gs) (R.grow gs) q⟩
def z5{f:DT}(h:∀F',PT X a (dT X.K F' f)):PT X a (wT ρ X.K F p (jK ρ f)):=by
 rintro pins s σ H Q I ⟨A,B,t,w,r,w',R,e,k⟩
 unfold jK at e
 rcases e1:f t with _|r1
 .rw[e1]at e;cases e
 rw[e1]at e
 cases e
 exact h (B++F) pins s σ H Q I ⟨A,t,_,R.rs,e1,λH' gs=>k H' (Ch.of gs) (R.grow gs)⟩
inductive ze9(ρ:Res)(X:Cx)(F:List U1)(p:U1)(fa fb:WE ρ)(k:Ev->Ev->Option Ev)(σ:L2.St)(H:Hp)(Q:VK):Prop
 |mk (A:_) (B:_) (t:_) (w:_) (r1:_) (r2:_) (r:_) (w':_) (h_0:RW ρ X.K F H A t σ p w B) (h_1:k r1 r2=Qs r) (h_2:(∀v H',Ch B H H'->RW ρ X.K F H' A t σ p w' B->Rz X.K (B++F) A H H' r v->Q v H')) (h_3:wE ρ X.K F p fa σ H λx H1=>wE ρ X.K F p fb σ H1 λy H2=>Ch B H H2/\RW ρ X.K F H2 A t σ p w' B/\Rz X.K (B++F) A H H2 r1 x/\Rz X.K (B++F) A H H2 r2 y)
def uM{k:Ev->Ev->Qo Ev}(h:wE ρ X.K F p (cL k fa fb) σ H Q):ze9 ρ X F p fa fb k σ H Q:=by
 obtain⟨A,B,t,w,r,w',R,e,h⟩:=h
 unfold cL at e
 rcases e1:fa t w with _|q1
 .rw[e1]at e;cases e
 rw[e1]at e
 have e:((fb t q1.2).bind λq2=>(k q1.1 q2.1).map λr=>(r,q2.2))=Qs (r,w'):=e
 rcases e2:fb t q1.2 with _|q2
 .rw[e2]at e;cases e
 rw[e2]at e
 have e:((k q1.1 q2.1).map λr=>(r,q2.2))=Qs (r,w'):=e
 rcases e3:k q1.1 q2.1 with _|r0
 .rw[e3]at e;cases e
 rw[e3]at e
 cases e
 exact⟨A,B,t,w,q1.1,q2.1,_,_,R,e3,h,A,B,t,w,q1.1,q1.2,R,e1,λx H1 c1 R1 v1=>⟨A,B,t,q1.2,q2.1,q2.2,R1,e2,λy H2 c2 R2 v2=>⟨c1.trans c2,R2,v1.ZX R c2,v2.early R1 c1⟩⟩⟩
def ud{H3:Hp}{w w':ρ.γ}{z:V}(R:RW ρ X.K F H A t σ p w B)(R2:RW ρ X.K F H2 A t σ p w' B)(c:Ch B H H2)(gs:QS H2 H3)(q:Rz X.K (B++F) A (gq B H H2) H3 r z)
  (h:∀v H',Ch B H H'->RW ρ X.K F H' A t σ p w' B->Rz X.K (B++F) A H H' r v->Q v H'):Q z H3:=h z H3 (c.trans (Ch.of gs)) (R2.grow gs) (q.zcD R2)
def fO{k:Ev->Ev->Qo Ev}(ho:∀F',SX X F' (binaryOp op) k)(ha:PE X a (wE ρ X.K F p fa))(hb:PE X b (wE ρ X.K F p fb)):PE X (.BinOp a op b pos) (wE ρ X.K F p (cL k fa fb)):=by
 intro pins s σ H Q I h
 obtain⟨A,B,t,w,r1,r2,r,w',R,e,h,k⟩:=uM h
 refine wpAny_BinOp (pE ha hb I k λv u s2 x y H2 I2 rx ry q=>?_)
 obtain⟨c,R2,q1,q2⟩:=q
 exact ho (B++F) pins s2 σ (gq B H H2) H2 A x y v u Q r1 r2 r I2 (R.V6 R2) (mi c) rx ry (q1.Um R) (q2.Um R) e λz H' g' q'=>ud R R2 c g' q' h
def vy{op:CmpOp}{k:Ev->Ev->Qo Ev}(ho:∀F',SX X F' (compareOp op) k)(ha:PE X a (wE ρ X.K F p fa))(hb:PE X b (wE ρ X.K F p fb))(hm:behindInMarks op b=Qf:=by first | exact vZ _ | (with_unfolding_all rfl)) :
  PT X (.Compare a [op] [b] pos) (wT ρ X.K F p (km (cL k fa fb))):=by
 rintro pins s σ H Q I ⟨A0,B0,t0,w0,b',w0',R0,e0,h0⟩
 unfold km at e0
 refine aB e0 λq0 e1 e0=>?_
 have e0:(match q0.1.d with | .bl b=>Qs (b,q0.2) |_=>Qn)=Qs (b',w0'):=e0
 have w1:wE ρ X.K F p (cL k fa fb) σ H (λz H'=>Ch B0 H H'/\RW ρ X.K F H' A0 t0 σ p q0.2 B0/\Rep X.K H' q0.1.d z):=⟨A0,B0,t0,w0,q0.1,q0.2,R0,e1,λv H' c R q=>⟨c,R,q.full⟩⟩
 obtain⟨A,B,t,w,r1,r2,r,w',R,e,h,k⟩:=uM w1
 refine wpAny_isTrue_Compare1 (pE ha hb I k λv u s2 x y H2 I2 rx ry q=>?_) hm
 obtain⟨c,R2,q1,q2⟩:=q
 refine aG (ho (B++F) pins s2 σ (gq B H H2) H2 A x y v u (λz H'=>Ch B0 H H'/\RW ρ X.K F H' A0 t0 σ p q0.2 B0/\Rep X.K H' q0.1.d z) r1 r2 r I2 (R.V6 R2) (mi c) rx ry (q1.Um R) (q2.Um R) e λz H' g' q'=>ud R R2 c g' q' h) λcc s3 ⟨z,H3,I3,r3,c3,R3,q3⟩=>?_
 split at e0
 .rename_i b2 z2
  cases e0
  rw[z2]at q3
  cases q3
  cases r3
  exact wpAny_truthy_bool ⟨H3,I3,h0 H3 c3 R3⟩
 .cases e0
def GH{op}(ha:PT X a (wT ρ X.K F p ft)):PW X (.BoolOp op [a] pos) (wT ρ X.K F p ft):=by
 cases op with
 |And=>exact zX ha
 |Or=>exact GJ ha
def GG(ha:PT X a (wT ρ X.K F p ft))(hb:PW X (.BoolOp .Or (b::rest) pos) (wT ρ X.K F p fu)):PW X (.BoolOp .Or (a::b::rest) pos) (wT ρ X.K F p (Vi ft fu)):=by
 refine PW.imp (GK ha hb) ?_
 rintro σ H Q ⟨A,B,t,w,r,w',R,e,h⟩
 unfold Vi at e
 refine aB e λq e1 e=>?_
 obtain⟨q1,q2⟩:=q
 refine⟨A,B,t,w,q1,q2,R,e1,λH1 c1 R1=>?_⟩
 cases q1 with
 |true=>cases e;exact h H1 c1 R1
 |false=>exact⟨A,B,t,q2,r,w',R1,e,λH2 c2 R2=>h H2 (c1.trans c2) R2⟩
def ez:PA X [] (wA ρ X.K F p SU):=PA.imp gH λσ H Q ⟨A,B,t,w,rs,w',R,e,h⟩=>by cases e;exact h [] H Ch.refl R .nil
def bL(ha:PE X a (wE ρ X.K F p fa))(hr:PA X es (wA ρ X.K F p g))(hs:Na (a::es) X.env=(Qf,eval a X.env)::Na es X.env:=by rfl):PA X (a::es) (wA ρ X.K F p (aX fa g)):=by
 refine PA.imp (gI ha hr hs) ?_
 rintro σ H Q ⟨A,B,t,w,rs,w',R,e,h⟩
 unfold aX at e
 refine aB e λq1 e1 e=>?_
 have e:((g t q1.2).bind λq2=>Qs (q1.1::q2.1,q2.2))=Qs (rs,w'):=e
 refine aB e λq2 e2 e=>?_
 cases e
 exact⟨A,B,t,w,q1.1,q1.2,R,e1,λx H1 c1 R1 v1=>⟨A,B,t,q1.2,q2.1,q2.2,R1,e2,λxs H2 c2 R2 v2=>h _ _ (c1.trans c2) R2 (.cons (v1.ZX R c2) (v2.early R1 c1))⟩⟩
inductive zfo(ρ:Res)(X:Cx)(F:List U1)(p:U1)(g:WA ρ)(k:List Ev->Option Ev)(σ:L2.St)(H:Hp)(Q:VK):Prop
 |mk (A:_) (B:_) (t:_) (w:_) (rs:_) (r:_) (w':_) (h_0:RW ρ X.K F H A t σ p w B) (h_1:g t w=Qs (rs,w')) (h_2:k rs=Qs r) (h_3:(∀v H',Ch B H H'->RW ρ X.K F H' A t σ p w' B->Rz X.K (B++F) A H H' r v->Q v H'))
def Iw{k:Ql Ev->Qo Ev}(h:wE ρ X.K F p (mG k g) σ H Q):zfo ρ X F p g k σ H Q:=by
 obtain⟨A,B,t,w,r,w',R,e,h⟩:=h
 unfold mG at e
 rcases e1:g t w with _|q1
 .rw[e1]at e;cases e
 rw[e1]at e
 have e:((k q1.1).map λr=>(r,q1.2))=Qs (r,w'):=e
 rcases e2:k q1.1 with _|r0
 .rw[e2]at e;cases e
 rw[e2]at e
 cases e
 exact⟨A,B,t,w,q1.1,_,_,R,e1,e2,h⟩
def HK{k:Nat}{q:Pos}(c:Ua X.prog X.w X.K X.mg X.base x k G)(hr:Sh k X.A)(ha:PA X (a::es) (wA ρ X.K F p g))(hg:Gl X x:=by rfl)(TQ:Sv x:=by decide)
  (he:Na (a::es) X.env=(Qf,eval a X.env)::Na es X.env:=by rfl) (SQ:(OY pos (Na es X.env)).any (·.1)=Qf:=by rfl):PE X (.Call (.Name x q) (a::es) [] pos) (wE ρ X.K F p (mG (aO G) g)):=by
 obtain⟨f,fd,ps,h1,h2,h3,h4⟩:=c.ex
 refine PE.imp (vS h4 hr hg h1 h2 h3 .nil (E:=E0) jR ha TQ he SQ) ?_
 intro σ H Q h
 obtain⟨A,B,t,w,rs,r,w',R,e1,e,h⟩:=Iw h
 refine⟨A,B,t,w,rs,w',R,e1,λvs H1 c R1 q1=>?_⟩
 show SO X.K G (vs++[]) H1 Q E0
 rw[Nt]
 exact yj (R.V6 R1) (mi c) (q1.Um R) e λv H' g' q'=>ud R R1 c g' q' h
def KA{x:V}{r1 r2:Ev}(m:RF H0 (A++F))(gs:QS H0 H2)(q1:Rz X.K F A H0 H2 r1 x)(q2:Rz X.K F A H0 H2 r2 y)(e:az r1 r2=Qs r)(h:∀v,Rz X.K F A H0 H2 r v->Q v H2):nO X.K x y H2 Q\/rV X.K x y H2 Q:=by
 have p2:=q2.full
 have m2:=m.mono gs
 have key:∀(P:Ql U1),Rep X.K (ah P H2) r1.d x->(∀d v,Rep X.K (ah P H2) d v->Rz X.K F A H0 H2 (if r1.ok||flat d then Ev.cl d else Ev.tm d) v)->nO X.K x y H2 Q\/rV X.K x y H2 Q:=λP hP fin=>by
  unfold az at e
  split at e
  .rename_i ds i z1 z2
   rw[z2]at p2
   cases cC p2
   rw[z1]at hP
   cases hP with
   |@lst _ p vs h1 h2 =>
    rcases e4:RP ds i with _|d
    .rw[e4]at e;cases e
    rw[e4]at e
    have e:(if r1.ok||flat d then Ev.cl d else Ev.tm d)=r:=by simpa using e
    obtain⟨v,e5,rv⟩:=QV.RP h2 e4
    exact .inl ⟨p,vs,i,v,rfl,rfl,Rm.mono (aV _ _) h1,e5,h v (e ▸ fin d v rv)⟩
  .rename_i ds i z1 z2
   rw[z2]at p2
   cases cC p2
   rw[z1]at hP
   cases hP with
   |@tup _ p vs h1 h2 =>
    rcases e4:RP ds i with _|d
    .rw[e4]at e;cases e
    rw[e4]at e
    have e:(if r1.ok||flat d then Ev.cl d else Ev.tm d)=r:=by simpa using e
    obtain⟨v,e5,rv⟩:=QV.RP h2 e4
    exact .inr ⟨p,vs,i,v,rfl,rfl,RQ.mono (aV _ _) h1,e5,h v (e ▸ fin d v rv)⟩
  .cases e
 by_cases c:r1.ok=Qt
 .refine key (A++F) (q1.clean m gs c) λd v rv=>?_
  rw[c,Qv,QO rfl]
  exact rv
 .refine key F (q1.UB m) λd v rv=>?_
  have c:r1.ok=Qf:=by simpa using c
  rw[c,Pe]
  split
  .rename_i f;exact Rep.RY m2 f (Rep.mono (aV _ _) rv)
  .exact rv
def Ao(ha:PE X a (wE ρ X.K F p fa))(hb:PE X b (wE ρ X.K F p fb))(hs:mX b:=by intro _ _;rfl):PE X (.Subscript a b pos) (wE ρ X.K F p (cL az fa fb)):=by
 refine PE.imp (nW (Xm.or tO) ha hb hs) ?_
 rintro σ H Q h0
 obtain⟨A,B,t,w,r1,r2,r,w',R,e,h,k⟩:=uM h0
 obtain⟨A1,B1,t1,w1,Z5,w11,R1,e1,k1⟩:=k
 refine⟨A1,B1,t1,w1,Z5,w11,R1,e1,λx H1 c1 R1' q1=>?_⟩
 obtain⟨A2,B2,t2,w2,r22,w22,R2,XB,k2⟩:=k1 x H1 c1 R1' q1
 refine⟨A2,B2,t2,w2,r22,w22,R2,XB,λy H2 c2 R2' q2=>?_⟩
 obtain⟨c,R3,v1,v2⟩:=k2 y H2 c2 R2' q2
 exact KA (X:=X) (R.V6 R3) (mi c) (v1.Um R) (v2.Um R) e λv q=>ud R R3 c (QS.refl _) q h
end
end DL
variable{ρ:DL.Res}
namespace DL
open PySem.Spec L2
inductive OW(γ:Type) where
 |nx (t:Th) (w:γ) |rt (r:Ev) (w:γ) |bk (t:Th) (w:γ) |ct (t:Th) (w:γ)
abbrev WS(ρ:Res):=Th->ρ.γ->Qo (OW ρ.γ)
def uI(ρ:Res)(K:MK)(F:Ql U1)(p:U1)(A B:Ql U1)(H:Hp)(N:L2.St->Hp->Prop)(t:Th)(w:ρ.γ):Prop := ∀σ' H' A' B',Gr (A++B) H (A'++B') H'->RW ρ K F H' A' t σ' p w B'->N σ' H'
def MD(ρ:Res)(K:MK)(F:Ql U1)(p:U1)(A B:Ql U1)(H:Hp)(N:VK)(r:Ev)(w:ρ.γ):Prop := ∀v H' A' B',Gr (A++B) H (A'++B') H'->ρ.rel K H' p w B'->B'.Nodup->(∀b∈B',b∉F)->T9 K (B'++F) (A++B) H H' r v->N v H'
def VZ(ρ:Res)(K:MK)(F:Ql U1)(p:U1)(A B:Ql U1)(H:Hp)(E:Ends):OW ρ.γ->Prop
 |.nx t w=>uI ρ K F p A B H E.nx t w
 |.bk t w=>uI ρ K F p A B H E.bk t w
 |.ct t w=>uI ρ K F p A B H E.ct t w
 |.rt r w=>MD ρ K F p A B H E.rt r w
inductive wS(ρ:Res)(K:MK)(F:List U1)(p:U1)(g:WS ρ)(E:Ends)(σ:L2.St)(H:Hp):Prop
 |mk (A:_) (B:_) (t:_) (w:_) (o:_) (h_0:RW ρ K F H A t σ p w B) (h_1:g t w=Qs o) (h_2:VZ ρ K F p A B H E o)
def VZ.back{ρ:Res}{K:MK}{F:Ql U1}{p:U1}{A B A1 B1:Ql U1}{H H1:Hp}{E:Ends}{o:OW ρ.γ}(h:VZ ρ K F p A B H E o)(g:Gr (A++B) H (A1++B1) H1):VZ ρ K F p A1 B1 H1 E o:=by
 cases o with
 |nx t w=>exact λσ' H' A' B' g' R=>h σ' H' A' B' (g.trans g') R
 |bk t w=>exact λσ' H' A' B' g' R=>h σ' H' A' B' (g.trans g') R
 |ct t w=>exact λσ' H' A' B' g' R=>h σ' H' A' B' (g.trans g') R
 |rt r w=>exact λv H' A' B' g' q n d R=>h v H' A' B' (g.trans g') q n d (R.back g)
section
variable {B':Ql U1}{t':Th}{w w':ρ.γ}
def RW.Xx(R:RW ρ K F H A t σ p w B)(g:Gr A H A' H'):Gr (A++B) H (A'++B) H' where
 kp:=λb o n h=>g.kp b o (λz=>n (MJ _ z)) h
 al:=λb hb=>by
  rcases ML.mp hb with z | z
  .exact g.al b z
  .obtain⟨o,e⟩:=ρ.lists R.rel b z
   rw[g.kp b _ (R.V5 z) e];simp
 nw:=λb hb=>by
  rcases ML.mp hb with z | z
  .exact(g.nw b z).imp (MJ _) id
  .exact .inl (MI _ z)
def RW.Vz(c:Ch B H H')(R':RW ρ K F H' A t σ p w' B):Gr (A++B) H (A++B) H' where
 kp:=λb o n h=>c b o (λz=>n (MI _ z)) h
 al:=λb hb=>by
  rcases ML.mp hb with z | z
  .obtain⟨o,e⟩:=R'.rs.mu b (MJ _ z)
   rw[e];simp
  .exact R'.al z
 nw:=λb hb=>.inl hb
def T9.weak(h:T9 K F A H H' r v)(s:∀b∈A,b∈A'):T9 K F A' H H' r v:=by
 cases r with
 |cl d=>exact h
 |tm d=>exact h
 |nw xs =>
  obtain⟨q,vs,rfl,h1,h2,h3,h4⟩:=h
  exact⟨q,vs,rfl,h1.imp (s q) id,h2,h3,h4⟩
 |dn d =>
  obtain⟨C,h0,h1,h2⟩:=h
  exact⟨C,h0,λb hb=>⟨(h1 b hb).1.imp (s b) id,(h1 b hb).2⟩,h2⟩
def RW.put{i:Nat}(R:RW ρ K F H A t σ p w B)(c:Ch B H H')(R':RW ρ K F H' A t σ p w' B)(q:Rz K (B++F) A H H' r v)(e:cJ t i r=Qs t') :
  ∃A',Gr (A++B) H (A'++B) H'/\RW ρ K F H' A' t' (σ.set i (Qs v)) p w' B:=by
 obtain⟨A',g,RR⟩:=(R.zcC R').put (mi c) (q.Um (H1:=H') R) e
 refine⟨A',⟨λb o n h=>c b o (λz=>n (MI _ z)) h,λb hb=>?_,λb hb=>?_⟩,RR,R'.rel,R'.nd,R'.dj⟩
 .rcases ML.mp hb with z | z
  .exact g.al b z
  .exact R'.al z
 .rcases ML.mp hb with z | z
  .rcases g.nw b z with y | y
   .exact .inl (MJ _ y)
   .by_cases x:b∈B
    .exact .inl (MI _ x)
    .rw[kG x]at y
     exact .inr y
  .exact .inl (MI _ z)
end
def oL{γ:Type}(w:γ):Out->OW γ
 |.nx t=>.nx t w
 |.rt r=>.rt r w
 |.bk t=>.bk t w
 |.ct t=>.ct t w
def cy(ρ:Res)(g:DS):WS ρ:=λt w=>(g t).map (oL w)
def nK{ρ:Res}:WS ρ:=λt w=>Qs (.nx t w)
def bj{ρ:Res}(g1 g2:WS ρ):WS ρ:=λt w=>(g1 t w).bind λo=>match o with
 |.nx t' w'=>g2 t' w'
 |.rt r w'=>Qs (.rt r w')
 |.bk t' w'=>Qs (.bk t' w')
 |.ct t' w'=>Qs (.ct t' w')
def iB{ρ:Res}(c:WT ρ)(g1 g2:WS ρ):WS ρ:=λt w=>(c t w).bind λq=>if q.1 then g1 t q.2 else g2 t q.2
def jN{ρ:Res}(f:WE ρ):WS ρ:=λt w=>(f t w).map λq=>.rt q.1 q.2
def dO{ρ:Res}(i:Nat)(f:WE ρ):WS ρ:=λt w=>(f t w).bind λq=>(cJ t i q.1).map λt'=>.nx t' q.2
def eM{ρ:Res}(k:D->Th->Qo Th)(body:WS ρ):Ql D->Th->ρ.γ->Qo (OW ρ.γ)
 |[],t,w=>Qs (.nx t w)
 |d::ds,t,w=>(k d t).bind λt1=>(body t1 w).bind λo=>match o with
  |.nx t' w'=>eM k body ds t' w'
  |.ct t' w'=>eM k body ds t' w'
  |.bk t' w'=>Qs (.nx t' w')
  |.rt r w'=>Qs (.rt r w')
section
variable {rest:Ql U3}{fa fb fc:WE ρ}{g g1 g2:WS ρ}{ft fu:WT ρ}
def df{f:DS}(h:∀F',PS X st (dS X.K F' f)):PS X st (wS ρ X.K F p (cy ρ f)):=by
 rintro pins s σ H E I ⟨A,B,t,w,o,R,e,k⟩
 unfold cy at e
 rcases e1:f t with _|o1
 .rw[e1]at e;cases e
 rw[e1]at e
 have e:oL w o1=o:=by simpa using e
 subst e
 refine h (B++F) pins s σ H E I (j9 R.rs e1 ?_)
 cases o1 with
 |nx t'=>exact λσ' H' A' g' R'=>k σ' H' A' B (R.Xx g') (R.step g' R')
 |bk t'=>exact λσ' H' A' g' R'=>k σ' H' A' B (R.Xx g') (R.step g' R')
 |ct t'=>exact λσ' H' A' g' R'=>k σ' H' A' B (R.Xx g') (R.step g' R')
 |rt r =>
  refine λv H' A' g' q=>k v H' A' B (R.Xx g') (ρ.mono R.rel λb o h y=>g'.kp b o (λz=>?_) h) R.nd R.dj (q.weak λb hb=>MJ _ hb)
  rcases y with y | y
  .obtain⟨⟨u,m⟩,e⟩:=R.rs.mu b (MJ _ z)
   have m:sT u=Qt:=m
   rw[h]at e;cases e
   rw[y]at m;cases m
  .exact R.V5 y z
def sg:RU X [] (wS ρ X.K F p nK):=by
 refine RU.imp Aa ?_
 rintro E σ H ⟨A,B,t,w,o,R,e,h⟩
 cases e
 refine h σ H A B (Gr.refl λb hb=>?_) R
 rcases ML.mp hb with z | z
 .exact R.rs.mu b (MJ _ z)
 .exact ρ.lists R.rel b z
def bX(h1:PS X st (wS ρ X.K F p g1))(h2:RU X XW (wS ρ X.K F p g2)):RU X (st::XW) (wS ρ X.K F p (bj g1 g2)):=by
 refine RU.imp (vA h1 h2) ?_
 rintro E σ H ⟨A,B,t,w,o,R,e,h⟩
 unfold bj at e
 refine aB e λo1 e1 e=>?_
 refine⟨A,B,t,w,o1,R,e1,?_⟩
 cases o1 with
 |nx t' w'=>exact λσ' H' A' B' g' R'=>⟨A',B',t',w',o,R',e,h.back g'⟩
 |rt r w'=>cases e;exact h
 |bk t2 w'=>cases e;exact h
 |ct t2 w'=>cases e;exact h
def fz(h1:PS X st (wS ρ X.K F p g1)):RU X [st] (wS ρ X.K F p g1):=sj h1
def sh{s1 s2:Ql U4}(hc:PT X c (wT ρ X.K F p ft))(ha:RU X s1 (wS ρ X.K F p g1))(hb:RU X s2 (wS ρ X.K F p g2)):PS X (.If c s1 s2 pos) (wS ρ X.K F p (iB ft g1 g2)):=by
 refine PS.imp (Ac hc ha hb) ?_
 rintro E σ H ⟨A,B,t,w,o,R,e,h⟩
 unfold iB at e
 refine aB e λq e1 e=>?_
 obtain⟨r1,w1⟩:=q
 refine⟨A,B,t,w,r1,w1,R,e1,λH1 c1 R1=>?_⟩
 cases r1 with
 |true=>exact⟨A,B,t,w1,o,R1,e,h.back (RW.Vz c1 R1)⟩
 |false=>exact⟨A,B,t,w1,o,R1,e,h.back (RW.Vz c1 R1)⟩
def sf(ha:PE X a (wE ρ X.K F p fa)):PS X (.Return (Qs a) pos) (wS ρ X.K F p (jN fa)):=by
 refine PS.imp (sr ha) ?_
 rintro E σ H ⟨A,B,t,w,o,R,e,h⟩
 unfold jN at e
 rcases e1:fa t w with _|q
 .rw[e1]at e;cases e
 rw[e1]at e
 cases e
 exact⟨A,B,t,w,q.1,q.2,R,e1,λv H' c R' y=>h v H' A B (RW.Vz c R') R'.rel R'.nd R'.dj ((T9.of R.rs.mu y).weak λb hb=>MJ _ hb)⟩
def g6 (hN:X.N.Nodup)(hi:X.N[i]?=Qs x)(hx:Loc X.env.scope x)(he:PE X a (wE ρ X.K F p fa))(hs:swapsWith a (Qs (.Name x pos')) pos.line X.env=pure Qf:=by rfl)(hf:X.fn x=Qt\/X.env.scope.names.lookup x=Qs .local:=by first | exact .inl rfl | exact .inr rfl | assumption) :
  PS X (.Assign [.Name x pos'] a pos) (wS ρ X.K F p (dO i fa)):=by
 refine PS.imp (vG hN hi hx he hs hf) ?_
 rintro E σ H ⟨A,B,t,w,o,R,e,h⟩
 unfold dO at e
 refine aB e λq e1 e=>?_
 have e:((cJ t i q.1).map λt'=>OW.nx t' q.2)=Qs o:=e
 rcases e2:cJ t i q.1 with _|t'
 .rw[e2]at e;cases e
 rw[e2]at e
 cases e
 refine⟨A,B,t,w,q.1,q.2,R,e1,λv H' c R' y=>?_⟩
 obtain⟨A',g',RR⟩:=R.put c R' y e2
 exact h _ _ _ _ g' RR
def Ll{E:Ends}{w:ρ.γ}{o:OW ρ.γ}{Good:Ql U1->Hp->Prop}(S:Src K ds J Good)(ht:∀F',c8 K F' gt kt)(R:RW ρ K F H A t σ p w B)(e:eM kt g ds t w=Qs o)(h:VZ ρ K F p A B H E o)(g0:Good (A++(B++F)) H) :
  ∃W:Nat->Nat->L2.St->Hp->Prop,(∃m,W 0 m σ H)/\∀i m σ H,W i m σ H ->
   (J.stop i H/\E.nx σ H)\/(J.go i H/\∃N:L2.St->Hp->Prop,(∀σ' H',N σ' H'->∃m',m' < m/\W (i+1) m' σ' H')/\∀x H',J.Td i H x H'->gt x σ H' λσ2 H2=>wS ρ K F p g { E with nx:=N,ct:=N,bk:=E.nx } σ2 H2):=by
 have same:∀{A B A' B':Ql U1}{H H':Hp},Gr (A++B) H (A'++B') H'->QS (ah (A++(B++F)) H) (ah (A'++(B'++F)) H'):=λ{A B A' B' H H'} g=>by
  have:=g.same (F:=F)
  rwa [Nv,Nv]at this
 refine⟨λi m σ H=>i+m=ds.length/\∃A B t w o,eM kt g (ds.drop i) t w=Qs o/\RW ρ K F H A t σ p w B/\VZ ρ K F p A B H E o/\Good (A++(B++F)) H,⟨ds.length,by lia,A,B,t,w,o,by simpa using e,R,h,g0⟩,?_⟩
 rintro i m σ H ⟨hm,A,B,t,w,o,e,R,h,gd⟩
 cases m with
 |zero =>
  have z:i=ds.length:=by lia
  subst z
  rw[OG]at e
  cases e
  refine .inl ⟨S.stop _ _ gd,h σ H A B (Gr.refl λb hb=>?_) R⟩
  rcases ML.mp hb with z | z
  .exact R.rs.mu b (MJ _ z)
  .exact ρ.lists R.rel b z
 |succ m =>
  have hi:i<ds.length:=by lia
  refine .inr ⟨S.go _ _ i gd hi,λσ' H'=>i+1+m=ds.length/\∃A B t w o,eM kt g (ds.drop (i+1)) t w=Qs o/\RW ρ K F H' A t σ' p w B/\VZ ρ K F p A B H' E o/\Good (A++(B++F)) H',λσ' H' q=>⟨m,NP m,q⟩,λx H' y=>?_⟩
  obtain⟨gs,d,hd,rd⟩:=S.Td _ _ i x H' gd R.rs.mu y hi
  have ed:ds.drop i=d::ds.drop (i+1):=by
   have Uq:ds[i]=d:=by
    rw[MR hi]at hd
    exact Ni hd
   rw[<-Uq]
   exact NO hi
  rw[ed]at e
  simp only[eM]at e
  refine aB e λt1 e1 e=>?_
  have R0:=R.grow gs
  refine ht (B++F) σ H' A t t1 d x _ R0.rs rd e1 λσ2 A2 US R2=>?_
  have RW2:=R0.step US R2
  have S8:Gr (A++B) H (A2++B) H':=(RW.Vz (Ch.of gs) R0).trans (R0.Xx US)
  have e:((g t1 w).bind λo=>match o with
    |.nx t' w'=>eM kt g (ds.drop (i+1)) t' w'
    |.ct t' w'=>eM kt g (ds.drop (i+1)) t' w'
    |.bk t' w'=>Qs (.nx t' w')
    |.rt r w'=>Qs (.rt r w'))=Qs o:=e
  refine aB e λo2 e2 e=>?_
  refine⟨A2,B,t1,w,o2,RW2,e2,?_⟩
  cases o2 with
  |nx t' w'=>exact λσ' H' A' B' g' R'=>⟨by lia,A',B',t',w',o,e,R',h.back (S8.trans g'),S.keep _ _ _ _ gd (same (S8.trans g'))⟩
  |ct t' w'=>exact λσ' H' A' B' g' R'=>⟨by lia,A',B',t',w',o,e,R',h.back (S8.trans g'),S.keep _ _ _ _ gd (same (S8.trans g'))⟩
  |bk t' w'=>cases e;exact λσ' H' A' B' g' R'=>h σ' H' A' B' (S8.trans g') R'
  |rt r w'=>cases e;exact VZ.back (o:=.rt r w') h S8
end
def qJ(N:Ql Str)(p:U1)(ds:Ql D):Th:=.val (.adr p) ::(ds.map Sl.val++M8 (N.length - 1 - ds.length) Sl.no)
def Ax{γ:Type}:OW γ->Qo (Ev×γ)
 |.rt r w=>Qs (r,w)
 |.nx _ w=>Qs (.cl .Ri,w)
 |_=>Qn
def lS{ρ:Res}(N:Ql Str)(g:U1->WS ρ)(p:U1)(w:ρ.γ)(ds:Ql D):Qo (Ev×ρ.γ):=(g p (qJ N p ds) w).bind Ax
open Classical in
noncomputable def gK{ρ:Res}(k:Nat)(N:Ql Str)(g:U1->WS ρ):ρ.γ->Ql D->Qo (Ev×ρ.γ):=λw ds =>
 if ds.length+1=k then(if h:∃o,∀p,lS N g p w ds=Qs o then Qs h.choose else Qn) else Qn
def JM{ρ:Res}{k:Nat}{g:U1->WS ρ}{w:ρ.γ}{o:Ev×ρ.γ}(hl:ds.length+1=k)(h:∀p,lS N g p w ds=Qs o):gK k N g w ds=Qs o:=by
 unfold gK
 have hx:∃o,∀p,lS N g p w ds=Qs o:=⟨o,h⟩
 rw[QO hl,dif_pos hx]
 have:=hx.choose_spec 0
 rw[h 0]at this
 exact this.symm
def A8{ρ:Res}{k:Nat}{g:U1->WS ρ}{w:ρ.γ}{o:Ev×ρ.γ}(h:gK k N g w ds=Qs o):ds.length+1=k/\∀p,lS N g p w ds=Qs o:=by
 unfold gK at h
 split at h
 case isFalse=>cases h
 rename_i hl
 split at h
 case isFalse=>cases h
 rename_i hx
 cases h
 exact⟨hl,hx.choose_spec⟩
inductive U7(ρ:Res)(K:MK)(G:ρ.γ->List D->Option (Ev×ρ.γ))(vs:List V)(H:Hp)(Q:VK)(x_:XK):Prop
 |mk (Fo:List U1) (p:U1) (B:List U1) (w:ρ.γ) (ds:List D) (r:Ev) (w':ρ.γ) (Tf:List V) (h_0:vs=.ref p::Tf) (h_1:RF H (B++Fo)) (h_2:B.Nodup) (h_3:(∀b∈B,b∉Fo)) (h_4:ρ.rel K H p w B) (h_5:QV K (ah (B++Fo) H) ds Tf) (h_6:G w ds=Qs (r,w')) (h_7:∀v H',Ch B H H'->ρ.rel K H' p w' B->Rz K (B++Fo) [] H H' r v->Q v H')
def DP(ρ:Res):Prop := ∀{K:MK}{H H':Hp}{p:U1}{w w':ρ.γ}{B B':Ql U1},ρ.rel K H p w B->ρ.rel K H' p w' B'->B'=B
def mC (fx:DP ρ){mg:Str->Qo M6}{f:U1}{k m:Nat}(Fn:L2.R8 K x qual st f fd)(S:Sr N ps (bp st))(hm:ps.length=m)(g:U1->WS ρ)
  (Vv:∀(Ru:M6) (A:Ol) (outer:Ql Env) (s:M0) (H:Hp) (E:XK) (F:Ql U1) (p:U1),Sh k (A.deeper (envOfC qual (bp st) s.heap.objs.size f Ru)) ->
   RU (jz bz P w K mg base N qual (bp st) f Ru A outer s H E).V4 (fW st) (wS ρ K F p (g p))):RO P w K mg base bz (k+1) f fd ps (U7 ρ K (gK m N g)):=by
 refine Fn.ok S (λvs H Q E h=>?_) (λRu A outer s H vs Q E hr h=>?_)
 .obtain⟨Fo,p,B,w,ds,r,w',Tf,rfl,_,_,_,_,h2,hg,_⟩:=h
  have:=(A8 hg).1
  rw[M9,h2.length,hm];exact this
 .obtain⟨Fo,p,B,w,ds,r,w',Tf,rfl,hl,nd,dj,rel,h2,hg,cont⟩:=h
  have Vp:=(A8 hg).2 p
  unfold lS at Vp
  refine aB Vp λo ho Vp=>?_
  have Vp:Ax o=Qs (r,w'):=Vp
  refine⟨_,Vv Ru A outer s H E Fo p hr,[],B,qJ N p ds,w,o,⟨⟨hl,NM,λq hq=>(by cases hq),?_⟩,rel,nd,dj⟩,ho,?_⟩
  .unfold qJ L2.start
   simp only[M4,OS,M9,h2.length]
   refine .val (.adr p) ?_
   have:=Rc.start (K:=K) (H0:=ah ([]++(B++Fo)) H) (H:=H) (Rc.X0 (N.length - (ds.length+1))) h2
   have e:N.length - 1 - ds.length=N.length - (ds.length+1):=by lia
   rw[e]
   exact this
  .have ch:∀{A' B' H'},Gr ([]++B) H (A'++B') H'->Ch B H H':=λg b o n q=>g.kp b o n q
   cases o with
   |nx t' w1 =>
    cases Vp
    exact λσ' H' A' B' g' R'=>cont .Ri H' (ch g') (fx rel R'.rel ▸ R'.rel) .Ri
   |bk t' w1=>cases Vp
   |ct t' w1=>cases Vp
   |rt r' w1 =>
    cases Vp
    intro v H' A' B' g' q n d y
    have eB:=fx rel q
    subst eB
    refine cont v H' (ch g') q ?_
    have fr:∀{b:U1},(b∈[]++B'\/H b=Qn)->b∉B'++Fo->H b=Qn:=λh n=>by
     rcases h with h | h
     .exact absurd (MJ _ h) n
     .exact h
    cases r with
    |cl d=>exact y
    |tm d=>exact y
    |nw xs =>
     obtain⟨q,Tf,rfl,h1,h2,h3,h4⟩:=y
     exact⟨q,Tf,rfl,fr h1 h2,h3,h4⟩
    |dn d =>
     obtain⟨C,h1,h2,h3⟩:=y
     exact⟨C,h1,λb hb=>fr (h2 b hb).1 (h2 b hb).2,h3⟩
structure Ut(ρ:Res)(P:NA)(w:OX)(K:MK)(mg:Str->Option M6)(base:TL)(x:Str)(k:Nat)(G:ρ.γ->List D->Option (Ev×ρ.γ)):Prop where
 ex:∃(a:U1) (fd:N8) (ps:List Str),mg x=Qs (.ref a)/\N2 K (.ref a)=Qt/\L2.Binds K fd ps []/\RO P w K mg base bz k a fd ps (U7 ρ K G)
def Df.UX{mg:Str->Qo M6}{a:U1}{k:Nat}{G:ρ.γ->Ql D->Qo (Ev×ρ.γ)}(d:Df K mg x st ps a fd)(h:RO P w K mg base bz k a fd ps (U7 ρ K G)):Ut ρ P w K mg base x k G :=
 ⟨a,fd,ps,d.mgx,d.fn.kp,d.bd,h⟩
def eX{ρ:Res}(p:U1)(G:ρ.γ->Ql D->Qo (Ev×ρ.γ))(ga:WA ρ):WE ρ:=λt w=>(ga t w).bind λq=>match q.1 with
 |.cl (.adr q0)::rs=>if q0=p then(G q.2 (rs.map Ev.d)).map λz=>(gD (rs.all Ev.ok) z.1,z.2) else Qn
 |_=>Qn
def Eh{ok:Bool}(m1:RF H1 (A++(B++F)))(m':RF H' (A++(B++F)))(fr:∀b,H1 b=Qn->H b=Qn)(w:Rz K (B++(if ok then A++F else F)) [] H1 H' r v):Rz K (B++F) A H H' (gD ok r) v:=by
 cases ok with
 |true =>
  have le:∀P:Ql U1,QS (ah (P++([]++(B++(A++F)))) H') (ah (P++(A++(B++F))) H'):=λP=>aZ H' λb hb=>by
   simp only[ML,Og,false_or]at hb ⊢
   rcases hb with z | z | z | z<;>simp[z]
  cases r with
  |cl d=>exact Rep.mono (le []) w
  |tm d =>
   refine Rep.mono (aZ H' λb hb=>?_) w
   simp only[ML,if_true]at hb ⊢
   rcases hb with z | z | z<;>simp[z]
  |nw xs =>
   obtain⟨q,us,rfl,h1,h2,h3⟩:=w
   exact⟨q,us,rfl,fr _ h1,h2,QV.mono (le [q]) h3⟩
  |dn d =>
   obtain⟨C,h1,h2,h3⟩:=w
   exact⟨C,h1,λb hb=>fr _ (h2 b hb),Rn.mono (le C) h3 λ_ _ _ q=>q⟩
 |false =>
  cases r with
  |cl d =>
   show Rz K (B++F) A H H' (if flat d then .cl d else .tm d) v
   split
   .rename_i f;exact Rep.RY m' f (Rep.mono (aV _ _) w)
   .exact w
  |tm d =>
   show Rz K (B++F) A H H' (if flat d then .cl d else .tm d) v
   split
   .rename_i f;exact Rep.RY m' f (Rep.mono (aV _ _) w)
   .exact w
  |nw xs =>
   obtain⟨q,us,rfl,h1,h2,h3⟩:=w
   have np:q∉A++(B++F):=dZ m1 h1
   show Rz K (B++F) A H H' (if RB xs then .nw xs else .tm (.lst xs)) _
   split
   .rename_i f
    refine⟨q,us,rfl,fr _ h1,h2,QV.RY (P:=q ::(A++(B++F))) (λb hb=>?_) f (QV.mono (aV _ _) h3)⟩
    rcases MQ.mp hb with rfl | hb
    .exact⟨mL us,h2⟩
    .exact m' b hb
   .exact .lst (Rm.of (bw h2 λz=>np (MI _ z))) (QV.mono (aZ H' λb z=>MM _ z) h3)
  |dn d =>
   obtain⟨C,h1,h2,h3⟩:=w
   exact⟨C,h1,λb hb=>fr _ (h2 b hb),h3.RY (h3.lists.app m') (aV _ _)⟩
section
variable {rest:Ql U3}{fa fb fc:WE ρ}{ga:WA ρ}
def eI{k:Nat}{G:ρ.γ->Ql D->Qo (Ev×ρ.γ)}{q:Pos}(c:Ut ρ X.prog X.w X.K X.mg X.base x k G)(hr:Sh k X.A)(ha:PA X (a::es) (wA ρ X.K F p ga))(hg:Gl X x:=by rfl)(TQ:Sv x:=by decide)
  (he:Na (a::es) X.env=(Qf,eval a X.env)::Na es X.env:=by rfl) (SQ:(OY pos (Na es X.env)).any (·.1)=Qf:=by rfl):PE X (.Call (.Name x q) (a::es) [] pos) (wE ρ X.K F p (eX p G ga)):=by
 obtain⟨f,fd,ps,h1,h2,h3,h4⟩:=c.ex
 refine PE.imp (vS h4 hr hg h1 h2 h3 .nil (E:=E0) jR ha TQ he SQ) ?_
 rintro σ H Q ⟨A,B,t,w,r,w',R,e,h⟩
 unfold eX at e
 rcases e1:ga t w with _|q1
 .rw[e1]at e;cases e
 rw[e1]at e
 obtain⟨rs0,w1⟩:=q1
 refine⟨A,B,t,w,rs0,w1,R,e1,λvs H1 c R1 y=>?_⟩
 show U7 ρ X.K G (vs++[]) H1 Q E0
 rw[Nt]
 simp only[MP]at e
 split at e
 case h_2=>cases e
 rename_i q0 rs
 replace e:=S0 e
 obtain⟨XA,e⟩:=e
 subst XA
 cases y with
 |@cons _ v0 _ Tf y1 y2 =>
  have y1:Rep X.K (ah (A++(B++F)) H1) (.adr q0) v0:=y1
  cases y1
  rcases e2:G w1 (rs.map Ev.d) with _|z
  .rw[e2]at e;cases e
  rw[e2]at e
  obtain⟨r0,w0⟩:=z
  have e:Qs (gD (rs.all Ev.ok) r0,w0)=Qs (r,w'):=e
  cases e
  have fr:∀b,H1 b=Qn->H b=Qn:=λb e=>by
   cases z:H b with
   |none=>rfl
   |some o =>
    by_cases y:b∈B
    .exact absurd e (R1.al y)
    .rw[c b o y z]at e;cases e
  refine⟨if rs.all Ev.ok then A++F else F,q0,B,w1,rs.map Ev.d,r0,w',Tf,rfl,λb hb=>?_,R1.nd,λb hb z=>?_,R1.rel,?_,e2,λv H' c' Z4 w2=>?_⟩
  .refine R1.rs.mu b ?_
   split at hb<;>simp only[ML]at hb ⊢
   .rcases hb with z | z | z<;>simp[z]
   .rcases hb with z | z<;>simp[z]
  .split at z
   .rcases ML.mp z with z | z
    .exact R1.V5 hb z
    .exact R1.dj b hb z
   .exact R1.dj b hb z
  .by_cases ok:rs.all Ev.ok=Qt
   .rw[QO ok]
    refine QV.mono (aZ H1 λb hb=>?_) ((y2.Um (H1:=H1) R).clean (R.V6 R1) (mi c) ok)
    simp only[ML]at hb ⊢
    rcases hb with z | z | z<;>simp[z]
   .rw[QU ok]
    exact(y2.Um (H1:=H1) R).UB (R.V6 R1)
  .have R2:=R1.chg c' Z4
   exact h v H' (c.trans c') R2 (Eh R1.rs.mu R2.rs.mu fr w2)
end
def af:Res where
 γ:=Int×Int
 rel:=λK H p w B=>B=[p]/\H p=Qs (.lst [.int w.1,.int w.2])
 mono:=λ{K H H' p w B} ⟨e,h⟩ k=>⟨e,k p _ h (.inr (by rw[e];exact MS.mpr rfl))⟩
 lists:=λ{K H p w B} ⟨e,h⟩ b hb=>by
  subst e
  rw[MS.mp hb]
  exact⟨mL _,h⟩
def lX:DP af:=λ{K H H' p w w' B B'} h h'=>h'.1.trans h.1.symm
def gR(p:U1)(i:Nat)(k:Int):WE af:=λt w=>match t[i]? with
 |some (.val (.adr q))=>if q=p then(if k=0 then Qs (.cl (.int w.1),w) else if k=1 then Qs (.cl (.int w.2),w) else Qn) else Qn
 |_=>Qn
def jO(p:U1)(i:Nat)(k:Int)(f:WE af):WS af:=λt w=>(f t w).bind λq=>match t[i]?,q.1.d with
 |some (.val (.adr q0)),.int n=>if q0=p then(if k=0 then Qs (.nx t (n,q.2.2)) else if k=1 then Qs (.nx t (q.2.1,n)) else Qn) else Qn
 |_,_=>Qn
section
variable {rest:Ql U3}{fa fb fc:WE af}{ga:WA af}
def l5(i:Nat){k:Int}(hN:X.N[i]?=Qs x:=by rfl)(hv:dh X.env.scope x:=by first | exact Or.inl rfl | exact Or.inr (Or.inl rfl) |exact Or.inr (Or.inr rfl))(hd:Sv x:=by decide)
  (R9:Tj x:=by decide) (hs:mX (.Constant (.int k) j p2):=by intro _ _;rfl):PE X (.Subscript (.Name x p1) (.Constant (.int k) j p2) pos) (wE af X.K F p (gR p i k)):=by
 refine PE.imp (nW (Xm.or tO) (dz (i:=i) hN hv hd R9) vR hs) ?_
 rintro σ H Q ⟨A,B,t,w,r,w',R,e,h⟩
 unfold gR at e
 split at e
 case h_2=>cases e
 rename_i q z
 replace e:=S0 e
 obtain⟨XA,e⟩:=e
 subst XA
 obtain⟨v,h1,h2⟩:=R.rs.rel.Wn z
 cases h2
 have hp:=R.rel.2
 refine⟨_,h1,.inl ?_⟩
 by_cases k0:k=0
 .subst k0
  rw[QO rfl]at e
  cases e
  exact⟨q,_,0,.int w.1,rfl,rfl,Rm.of hp,rfl,h _ H Ch.refl R (.int _)⟩
 .rw[QU k0]at e
  by_cases k1:k=1
  .subst k1
   rw[QO rfl]at e
   cases e
   exact⟨q,_,1,.int w.2,rfl,rfl,Rm.of hp,rfl,h _ H Ch.refl R (.int _)⟩
  .rw[QU k1]at e;cases e
def z9(i:Nat){k:Int}(he:PE X a (wE af X.K F p fa))(hN:X.N[i]?=Qs x:=by rfl)(hv:dh X.env.scope x:=by first | exact Or.inl rfl | exact Or.inr (Or.inl rfl) |exact Or.inr (Or.inr rfl))(hd:Sv x:=by decide)
  (R9:Tj x:=by decide)
  (ha:∀v,assign (.Subscript (.Name x p0) (.Constant (.int k) j p2) Tn) X.env v=(do
   let ov <-holding [v] (eval (.Name x p0) X.env)
   let iv <-holding [v,ov] (eval (.Constant (.int k) j p2) X.env)
   standAt Tn
   holding [v,ov,iv] (setItem ov iv v)
   release [v,ov,iv] []):=by intro _;rfl)
  (hs:swapsWithSole [.Subscript (.Name x p0) (.Constant (.int k) j p2) Tn] a pos.line X.env=pure Qf:=by rfl) (hw:swappedStores [.Subscript (.Name x p0) (.Constant (.int k) j p2) Tn] a X.env=pure Qn:=by rfl)
  (h1:(assignEach [.Subscript (.Name x p0) (.Constant (.int k) j p2) Tn] X.env).map (·.2)=[assign (.Subscript (.Name x p0) (.Constant (.int k) j p2) Tn) X.env]:=by rfl) :
  PS X (.Assign [.Subscript (.Name x p0) (.Constant (.int k) j p2) Tn] a pos) (wS af X.K F p (jO p i k fa)):=by
 refine PS.imp (su he (vP (dz (i:=i) hN hv hd R9) vR qT ha) hs hw h1) ?_
 rintro E σ H ⟨A,B,t,w,o,R,e,h⟩
 unfold jO at e
 rcases e1:fa t w with _|q1
 .rw[e1]at e;cases e
 rw[e1]at e
 obtain⟨r1,w1⟩:=q1
 simp only[MP]at e
 split at e
 case h_2=>cases e
 rename_i q0 n z1 z2
 replace e:=S0 e
 obtain⟨XA,e⟩:=e
 subst XA
 refine⟨A,B,t,w,r1,w1,R,e1,λv H1 c R1 y=>?_⟩
 obtain⟨u,s1,s2⟩:=R1.rs.rel.Wn z1
 cases s2
 have y:=y.full
 rw[z2]at y
 cases cC y
 have hp:=R1.rel.2
 have eB:=R1.rel.1
 have fin:∀(w2:Int×Int),Ch B H1 (upd H1 q0 (.lst [.int w2.1,.int w2.2]))/\RW af X.K F (upd H1 q0 (.lst [.int w2.1,.int w2.2])) A t σ q0 w2 B:=λw2=>by
  have cc:Ch B H1 (upd H1 q0 (.lst [.int w2.1,.int w2.2])):=λb o nb hb=>by
   rw[aN (λz=>nb (by rw[eB,z];exact MS.mpr rfl))];exact hb
  exact⟨cc,R1.chg cc ⟨eB,bF⟩⟩
 refine⟨_,s1,?_⟩
 by_cases k0:k=0
 .subst k0
  rw[QO rfl]at e
  cases e
  obtain⟨cc,RR⟩:=fin (n,w1.2)
  exact⟨q0,_,0,0,rfl,rfl,hp,rfl,h _ _ _ _ ((RW.Vz c R1).trans (RW.Vz cc RR)) RR⟩
 .rw[QU k0]at e
  by_cases k1:k=1
  .subst k1
   rw[QO rfl]at e
   cases e
   obtain⟨cc,RR⟩:=fin (w1.1,n)
   exact⟨q0,_,1,1,rfl,rfl,hp,rfl,h _ _ _ _ ((RW.Vz c R1).trans (RW.Vz cc RR)) RR⟩
  .rw[QU k1]at e;cases e
end
abbrev WI(ρ:Res):=Th->ρ.γ->Qo ((Bool×Ql D)×ρ.γ)
inductive wI(ρ:Res)(K:MK)(F:List U1)(p:U1)(fs:WI ρ)(σ:L2.St)(H:Hp)(R:It->Hp->Prop):Prop
 |mk (A:_) (B:_) (t:_) (w:_) (b:_) (ds:_) (w':_) (h_0:RW ρ K F H A t σ p w B) (h_1:fs t w=Qs ((b,ds),w')) (h_2:∀J H1 Good,Ch B H H1->RW ρ K F H1 A t σ p w' B->Src K ds J Good->Good (SS b A (B++F)) H1->R J H1)
def iK(ρ:Res)(fs:DI):WI ρ:=λt w=>(fs t).map λq=>(q,w)
def kS{ρ:Res}(f:WE ρ):WI ρ:=λt w=>(f t w).bind λq=>match q.1.d with
 |.int n=>if c7 n then Qs ((Qt,cU 0 n.toNat),q.2) else Qn
 |_=>Qn
def eO{ρ:Res}(k:D->Th->Qo Th)(ft:WT ρ)(fe:WE ρ):Ql D->Th->ρ.γ->Qo (Ql D×ρ.γ)
 |[],_,w=>Qs ([],w)
 |d::ds,t,w=>(k d t).bind λt1=>(ft t1 w).bind λq=>if q.1 then(fe t1 q.2).bind λz=>(eO k ft fe ds t1 z.2).map λys=>(z.1.d::ys.1,ys.2) else eO k ft fe ds t1 q.2
def oR{ρ:Res}(n:Nat)(cap:Ql Nat)(fs:WI ρ)(k:D->Th->Qo Th)(ft:WT ρ)(fe:WE ρ):WE ρ:=λt w=>(fs t w).bind λq=>(fI t cap).bind λc=>if q.1.2.length<=50000 then(eO k ft fe q.1.2 (M8 n Sl.no++c.2.map Sl.val) q.2).bind λys=>if(q.1.1&&c.1)||RB ys.1 then Qs (.nw ys.1,ys.2) else Qn else Qn
def xV{ρ:Res}{k:D->Th->Qo Th}{ft:WT ρ}{fe:WE ρ}:∀{ds:Ql D}{t:Th}{w:ρ.γ}{ys:Ql D×ρ.γ},eO k ft fe ds t w=Qs ys->ys.1.length<=ds.length
 |[],t,w,ys,e=>by cases e;simp
 |d::ds,t,w,ys,e=>by
  unfold eO at e
  refine aB e λt1 e1 e=>?_
  have e:((ft t1 w).bind λq=>if q.1 then(fe t1 q.2).bind λz=>(eO k ft fe ds t1 z.2).map λys=>(z.1.d::ys.1,ys.2) else eO k ft fe ds t1 q.2)=Qs ys:=e
  refine aB e λq e2 e=>?_
  obtain⟨b,w1⟩:=q
  cases b with
  |false=>have:=xV (ds:=ds) (t:=t1) e;simp;lia
  |true =>
   have e:((fe t1 w1).bind λz=>(eO k ft fe ds t1 z.2).map λys=>(z.1.d::ys.1,ys.2))=Qs ys:=e
   refine aB e λz e3 e=>?_
   have e:((eO k ft fe ds t1 z.2).map λys=>(z.1.d::ys.1,ys.2))=Qs ys:=e
   cases e4:eO k ft fe ds t1 z.2 with
   |none=>rw[e4]at e;cases e
   |some us=>rw[e4]at e;cases e;have:=xV e4;simp;lia
def RW.W4{ρ:Res}{K:MK}{P B:Ql U1}{H:Hp}{t:Th}{σ:L2.St}{p d:U1}{w:ρ.γ}{vs ws:Ql V}(R:RW ρ K P H [] t σ p w B)(hd:d∈P)(e:H d=Qs (.lst vs)):RW ρ K P (upd H d (.lst ws)) [] t σ p w B :=
 ⟨RS.W4 R.rs (MI _ hd),ρ.mono R.rel λb o h k=>by
  rw[aN]
  .exact h
  .intro z
   subst z
   rcases k with k | k
   .rw[e]at h;cases h;cases k
   .exact R.dj _ k hd,R.nd,R.dj⟩
def x9{P:Ql U1}{Ha Hb:Hp}(c:Ch B Ha Hb):QS (ah (B++P) Ha) (ah (B++P) Hb):=λx o z=>by
 obtain⟨nx,z⟩:=cD z
 exact bw (c x o (λy=>nx (MJ _ y)) z) nx
def LX{d:U1}{o:HO}(hn:H1 d=Qn)(sm:Ch B H1 H)(s:Ch B H H'):Ch B H1 (upd H' d o):=λb u nx z=>by
 rw[aN (λw=>by rw[w,hn]at z;cases z)]
 exact s _ _ nx (sm _ _ nx z)
def w8{b d:Bool}(hd:d=Qt->b=Qt):∀x∈B++SS d A F,x∈SS b A (B++F):=λx hx=>by
 rcases ML.mp hx with y | y
 .exact tU x (MJ _ y)
 .cases d with
  |false=>exact tU x (MI _ y)
  |true =>
   rw[hd rfl]
   exact(ML.mp y).elim (λz=>MJ _ z) λz=>MI _ (MI _ z)
inductive CW(ρ:Res)(K:MK)(kt:D->Th->Option Th)(ft:WT ρ)(fe:WE ρ)(ds xs:List D)(wf:ρ.γ)(H1:Hp)(P B:List U1)(p d:U1)(Good:List U1->Hp->Prop)(i m:Nat)(σ:L2.St)(H:Hp):Prop
 |mk (th:Th) (wn:ρ.γ) (acc rest:List D) (vs:List V) (hm:i+m=ds.length) (R:RW ρ K P H [] th σ p wn B) (ec:eO kt ft fe (ds.drop i) th wn=Qs (rest,wf)) (ex:acc++rest=xs) (hv:H d=Qs (.lst vs)) (hr:QV K (ah (B++P) H) acc vs) (sm:Ch B H1 H) (gg:Good (B++P) H)
def CW.step{ρ:Res}{K:MK}{kt:D->Th->Qo Th}{ft:WT ρ}{fe:WE ρ}{ds xs:Ql D}{wf:ρ.γ}{H1:Hp}{P B:Ql U1}{p d:U1}{Good:Ql U1->Hp->Prop}{J:It}{g:TG}{i m:Nat}{σ:L2.St}{H:Hp}(src:Src K ds J Good)(hk:c8 K (B++P) g kt)(hp:d∈P)(nB:d∉B)(hn:H1 d=Qn)(hx:xs.length<=50000)
  (c:CW ρ K kt ft fe ds xs wf H1 P B p d Good i (m+1) σ H):J.go i H/\∃N:L2.St->Hp->Prop,(∀σ2 H2,N σ2 H2->∃m',m' < m+1/\CW ρ K kt ft fe ds xs wf H1 P B p d Good (i+1) m' σ2 H2)/\∀x H2,J.Td i H x H2->g x σ H2 λσ2 H3 => ∃F',wT ρ K F' p ft σ2 H3 λb H4 =>
   if b=Qt then ∃F',wE ρ K F' p fe σ2 H4 λv H5 => ∃vs,H5 d=Qs (.lst vs)/\vs.length<Nn/\N σ2 (upd H5 d (.lst (vs++[v]))) else N σ2 H4:=by
 obtain⟨th,wn,acc,rest,vs,hm,R,ec,ex,hv,hr,sm,gg⟩:=c
 have TN:i<ds.length:=by lia
 have VN:i+1+m=ds.length:=by lia
 refine⟨src.go _ _ i gg TN,CW ρ K kt ft fe ds xs wf H1 P B p d Good (i+1) m,λ_ _ q=>⟨m,NP m,q⟩,λx H2 y=>?_⟩
 obtain⟨RZ,d',hd,rd⟩:=src.Td _ _ i x H2 gg R.rs.mu y TN
 rw[xN TN hd]at ec
 refine aB ec λt1 k1 ec=>?_
 refine aB ec λq k2 ec=>?_
 obtain⟨bb,w2⟩:=q
 have R0:=R.grow RZ
 refine hk σ H2 [] th t1 d' x _ R0.rs rd k1 λσ2 A2 S8 R2=>?_
 have A20:=vY R2 S8
 subst A20
 refine⟨P,[],B,t1,wn,bb,w2,R0.step S8 R2,k2,λH3 c3 R3=>?_⟩
 have XF:=(Ch.of (B:=B) RZ).trans c3
 clear R R0 R2 RZ c3 S8 k1 k2 y rd TN hm
 cases bb with
 |false=>exact oA ⟨t1,w2,acc,rest,vs,VN,R3,ec,ex,XF _ _ nB hv,QV.mono (x9 XF) hr,sm.trans XF,src.keep _ _ _ _ gg (x9 XF)⟩
 |true =>
  refine aB (show(fe t1 w2).bind _=Qs (rest,wf) from ec) λz k3 ec=>?_
  obtain⟨re,w3⟩:=z
  refine sX ec λys k4 ec=>?_
  obtain⟨ys,w4⟩:=ys
  cases ec
  refine oz ⟨P,[],B,t1,w2,re,w3,R3,k3,λv H4 c4 R4 q4=>?_⟩
  have Zt:=XF.trans c4
  have hv4:H4 d=Qs (.lst vs):=Zt _ _ nB hv
  have hu:QS (ah (B++P) H4) (ah (B++P) (upd H4 d (.lst (vs++[v])))):=tR (MI _ hp)
  have s5:=(x9 Zt).trans hu
  exact⟨vs,hv4,yt hr.length ex hx,t1,w3,acc++[re.d],ys,vs++[v],VN,R4.W4 hp hv4,k4,by rw[Nv];exact ex,bF,(QV.mono s5 hr).app (QV.one (Rep.mono hu (q4.UB R3.rs.mu))),LX hn sm Zt,src.keep _ _ _ _ gg s5⟩
def EA{fs:WI ρ}{g:TG}{ft:WT ρ}{fe:WE ρ}(hk:∀F',c8 X.K F' g kt) (h:wE ρ X.K F p (oR n cap fs kt ft fe) σ H Q) :
  lO n cap (wI ρ X.K F p fs) g (λσ H Q => ∃F',wT ρ X.K F' p ft σ H Q) (λσ H Q => ∃F',wE ρ X.K F' p fe σ H Q) σ H Q:=by
 obtain⟨A,B,t,w,r,w',R,e,h⟩:=h
 refine aB e λq e1 e=>?_
 refine aB e λc e2 e=>?_
 obtain⟨⟨b,ds⟩,w1⟩:=q
 obtain⟨c,XE⟩:=c
 refine bZ e λhlen e=>?_
 refine aB e λys e3 e=>?_
 obtain⟨xs,wf⟩:=ys
 refine bZ e λok e=>?_
 cases e
 refine⟨A,B,t,w,b,ds,w1,R,e1,λJ H1 Good ch R1 src gd d hD=>?_⟩
 obtain⟨XD,Wt,Ws⟩:=uo R1.rs e2
 have nB:d∉B:=λz=>R1.al z hD
 have hb:(b&&c)=Qt->b=Qt:=λz=>(Ng.mp z).1
 have hc:(b&&c)=Qt->c=Qt:=λz=>(Ng.mp z).2
 have SY:QS (ah (B++SS (b&&c) A F) H1) (ah (B++(d::SS (b&&c) A F)) (upd H1 d (.lst []))):=λx o z=>by
  obtain⟨nx,z⟩:=cD z
  have nd:x≠d:=λy=>by rw[y,hD]at z;cases z
  refine bw (by rw[aN nd];exact z) λy=>?_
  rcases ML.mp y with y | y
  .exact nx (MJ _ y)
  .exact(MQ.mp y).elim nd λy=>nx (MI _ y)
 have mu0:∀x∈B++SS (b&&c) A F,x∈A++(B++F):=λx hx=>tT x (w8 hb x hx)
 refine⟨CW ρ X.K kt ft fe ds xs wf H1 (d::SS (b&&c) A F) B p d Good,⟨ds.length,⟨_,w1,[],xs,[],O4 _,⟨⟨λq hq=>?_,NM,λp hp=>(by cases hp),?_⟩,ρ.mono R1.rel λx o z _=>by rw[aN (λy=>by rw[y,hD]at z;cases z)];exact z,R1.nd,λx hx z=>?_⟩,e3,rfl,bF,.nil,Ch.of (dW hD),src.keep _ _ _ _ gd ((aZ H1 (w8 hb)).trans SY)⟩⟩,λi m σ' H' c'=>?_⟩
 .have hq:q∈B++(d::SS (b&&c) A F):=hq
  by_cases z:q=d
  .exact⟨mL [],by rw[z];exact bF⟩
  .have y:q∈B++SS (b&&c) A F:=(ML.mp hq).elim (λy=>MJ _ y) λy=>(MQ.mp y).elim (λy=>absurd y z) λy=>MI _ y
   obtain⟨us,y⟩:=R1.rs.mu q (mu0 q y)
   exact⟨us,by rw[aN z];exact y⟩
 .unfold ke
  rw[Wt]
  exact Rc.YB (QV.mono ((aZ H1 (w8 hc)).trans SY) Ws) n
 .rcases MQ.mp z with y | y
  .exact nB (y ▸ hx)
  .rcases ML.mp (tT x y) with u | u
   .exact R1.V5 hx u
   .exact R1.dj x hx u
 cases m with
 |succ m=>exact .inr (c'.step src (hk _) (MN ..) nB hD (NG (xV e3) hlen))
 |zero =>
  obtain⟨th,wn,acc,rest,vs,hm,RR,ec,ex,hv,hr,sm,gg⟩:=c'
  cases hm
  rw[OG]at ec
  cases ec
  rw[Nt]at ex
  subst ex
  have R2:=R1.chg sm RR.rel
  have fr:H d=Qn:=by
   cases z:H d with
   |none=>rfl
   |some o=>rw[ch d o nB z]at hD;cases hD
  refine .inl ⟨src.stop _ _ gg,h _ H' (ch.trans sm) R2 ⟨d,vs,rfl,fr,hv,?_⟩⟩
  rcases PR _ _ ▸ ok with k | k
  .refine QV.mono (aZ H' λx hx=>?_) hr
   rw[k]
   show x∈B++(d ::(A++F))
   simp only[ML,MQ]at hx ⊢
   rcases hx with z | z | z | z<;>simp[z]
  .refine QV.RY (P:=d ::(A++(B++F))) (λq hq=>?_) k (QV.mono (aV _ _) hr)
   rcases MQ.mp hq with z | z
   .exact⟨mL vs,by rw[z];exact hv⟩
   .exact R2.rs.mu q z
section
variable {rest:Ql U3}{fa fb fc:WE ρ}{ga:WA ρ}
def ny{ρ:Res}:WT ρ:=λ_ w=>Qs (Qt,w)
def GQ :Tq Y [] (wT ρ Y.K F p ny):=Tq.imp z6 λσ H Q ⟨A,B,t,w,b,w',R,e,h⟩=>by cases e;exact h H Ch.refl R
def sC{fs:DI}(h:∀F',PI X tg a (dI X.K F' fs)):PI X tg a (wI ρ X.K F p (iK ρ fs)):=by
 rintro pins s σ H R I ⟨A,B,t,w,b,ds,w',RR,e,k⟩
 unfold iK at e
 rcases e1:fs t with _|q
 .rw[e1]at e;cases e
 rw[e1]at e
 cases e
 exact h (B++F) pins s σ H R I ⟨A,t,b,ds,RR.rs,e1,λJ H1 Good gs S gd=>k J H1 Good (Ch.of gs) (RR.grow gs) S gd⟩
def gZ{ρ:Res}(k:D->Th->Qo Th)(fs:WI ρ)(body:WS ρ):WS ρ:=λt w=>(fs t w).bind λq=>if q.1.1 then eM k body q.1.2 t q.2 else Qn
def si{fs:WI ρ}{g:WS ρ}(hp:PassesOwn (model X.prog X.w) X.A X.env X.xe)(hc:X.calm=Qt)(hi:PI X tg a (wI ρ X.K F p fs))(hg:PG X tg gt)(ht:∀F',c8 X.K F' gt kt)(hb:RU X body (wS ρ X.K F p g))
  (hs:∀x,foldedSetIterable a X.env x=pure x:=by intro _;rfl):PS X (.For tg a body [] pos) (wS ρ X.K F p (gZ kt fs g)):=by
 rintro pins s σ H E I ⟨A,B,t,w,o,R,e,h⟩
 unfold gZ at e
 refine aB e λq e1 e=>?_
 obtain⟨⟨bb,ds⟩,w1⟩:=q
 have e:(if bb then eM kt g ds t w1 else Qn)=Qs o:=e
 cases bb with
 |false=>cases e
 |true =>
  refine ku hp hc hi hg hb hs pins s σ H E I ⟨A,B,t,w,Qt,ds,w1,R,e1,λJ H1 Good c R1 S gd=>?_⟩
  exact Ll S ht R1 e (h.back (RW.Vz c R1)) gd
end
def Rc.zaf{d:D}(hr:Rep K H0 d v) (h:Rc K H0 H t σ A):∀i:Nat,t[i]?=Qs .no->σ[i]?=Qs (Qs v)->Rc K H0 H (t.set i (.val d)) σ A:=by
 induction h with
 |nil=>intro i e;simp at e
 |no r ih =>
  intro i e f
  cases i with
  |zero =>
   simp at f
   subst f
   exact .val hr r
  |succ i=>exact .no (ih i (by simpa using e) (by simpa using f))
 |val h r ih =>
  intro i e f
  cases i with
  |zero=>simp at e
  |succ i=>exact .val h (ih i (by simpa using e) (by simpa using f))
 |own h1 h2 r ih =>
  intro i e f
  cases i with
  |zero=>simp at e
  |succ i=>exact .own h1 h2 (ih i (by simpa using e) (by simpa using f))
 |dp h r ih =>
  intro i e f
  cases i with
  |zero=>simp at e
  |succ i=>exact .dp h (ih i (by simpa using e) (by simpa using f))
def Rc.fgt (h:Rc K H0 H t σ A):∀i:Nat,∃A',A'.Sublist A/\Rc K H0 H (t.set i .no) σ A':=by
 induction h with
 |nil=>intro i;exact⟨[],Np _,.nil⟩
 |no r ih =>
  intro i
  cases i with
  |zero=>exact⟨_,Np _,.no r⟩
  |succ i=>obtain⟨A',s,q⟩:=ih i;exact⟨A',s,.no q⟩
 |val h r ih =>
  intro i
  cases i with
  |zero=>exact⟨_,Np _,.no r⟩
  |succ i=>obtain⟨A',s,q⟩:=ih i;exact⟨A',s,.val h q⟩
 |own h1 h2 r ih =>
  intro i
  cases i with
  |zero=>exact⟨_,OR _ _,.no r⟩
  |succ i=>obtain⟨A',s,q⟩:=ih i;exact⟨_,s.cons₂ _,.own h1 h2 q⟩
 |dp h r ih =>
  intro i
  cases i with
  |zero=>exact⟨_,O5 _ _,.no r⟩
  |succ i=>obtain⟨A',s,q⟩:=ih i;exact⟨_,N4 (Np _) s,.dp h q⟩
def T9.zcN (h:T9 K (B++F) A H H' r v):T9 K F A H H' r v:=by
 have le:∀P:Ql U1,QS (ah (P++(B++F)) H') (ah (P++F) H'):=λP=>aZ H' λb hb=>by
  rcases ML.mp hb with z | z
  .exact MJ _ z
  .exact MI _ (MI _ z)
 cases r with
 |cl d=>exact Rep.mono (le []) h
 |tm d=>exact Rep.mono (le []) h
 |nw xs =>
  obtain⟨q,vs,rfl,h1,h2,h3,h4⟩:=h
  exact⟨q,vs,rfl,h1,λz=>h2 (MI _ z),h3,QV.mono (le [q]) h4⟩
 |dn d =>
  obtain⟨C,h0,h1,h2⟩:=h
  exact⟨C,h0,λb hb=>⟨(h1 b hb).1,λz=>(h1 b hb).2 (MI _ z)⟩,Rn.mono (le C) h2 λ_ _ _ q=>q⟩
def kq{γ:Type}(i:Nat):OW γ->Out
 |.nx t _=>.nx (t.set i .no)
 |.rt r _=>.rt r
 |.bk t _=>.bk (t.set i .no)
 |.ct t _=>.ct (t.set i .no)
open Classical in
noncomputable def k7(i:Nat)(g:U1->WS af):DS:=λt=>match t[i]? with
 |some (.own [.int c,.int n])=>if h:∃o,∀p,(g p (t.set i (.val (.adr p))) (c,n)).map (kq i)=Qs o then Qs h.choose else Qn
 |_=>Qn
open Classical in
def KS{g:U1->WS af}{c n:Int}{o:Out}(e:t[i]?=Qs (.own [.int c,.int n]))(h:∀p,(g p (t.set i (.val (.adr p))) (c,n)).map (kq i)=Qs o):k7 i g t=Qs o:=by
 unfold k7
 have hx:∃o,∀p,(g p (t.set i (.val (.adr p))) (c,n)).map (kq i)=Qs o:=⟨o,h⟩
 rw[e]
 show(if h:∃o,∀p,(g p (t.set i (.val (.adr p))) (c,n)).map (kq i)=Qs o then Qs h.choose else Qn)=Qs o
 rw[dif_pos hx]
 have:=hx.choose_spec 0
 rw[h 0]at this
 exact this.symm
def G1(i:Nat){g:U1->WS af}(h:∀p,RU X XW (wS af X.K F p (g p))):RU X XW (dS X.K F (k7 i g)):=by
 intro pins s σ H E I q
 obtain⟨A,t,o,R,e,post⟩:=j8 q
 unfold k7 at e
 split at e
 case h_2=>cases e
 rename_i c n z
 split at e
 case isFalse=>cases e
 rename_i hx
 have WN:=hx.choose_spec
 have eo:hx.choose=o:=by simpa using e
 rw[eo]at WN
 obtain⟨p,vs,b1,b2,b3,b4⟩:=R.rel.T7 z
 have ev:vs=[.int c,.int n]:=by
  cases b4 with
  |cons r1 r' =>
   cases r' with
   |cons r2 r3=>cases r3;cases r1;cases r2;rfl
 subst ev
 obtain⟨A',sub,pn,mk⟩:=R.rel.Xk i R.nd z b1
 have W8:∀b∈A',b∈A:=λb hb=>sub.subset hb
 have hs:QS (ah (A++F) H) (ah (A'++([p]++F)) H):=aZ H λb hb=>by
  rcases ML.mp hb with y | y
  .exact MJ _ (W8 b y)
  .rcases ML.mp y with y | y
   .rw[MS.mp y];exact MJ _ b2
   .exact MI _ y
 have hi:i<t.length:=(Nm.mp z).1
 have rel:Rc X.K (ah (A'++([p]++F)) H) H (t.set i (.val (.adr p))) σ A':=by
  have:=Rc.zaf (.adr p) (mk _ H hs λ_ _ _ w=>w) i (by simp[hi]) b1
  rwa [Qx]at this
 have RWp:RW af X.K F H A' (t.set i (.val (.adr p))) σ p (c,n) [p]:=⟨⟨λb hb=>?_,R.nd.sublist sub,λb hb w=>?_,rel⟩,⟨rfl,b3⟩,(by simp),λb hb=>?_⟩
 .have hp:=WN p
  rcases ho:g p (t.set i (.val (.adr p))) (c,n) with _|ow
  .rw[ho]at hp;cases hp
  rw[ho]at hp
  have hp:kq i ow=o:=by simpa using hp
  refine h p pins s σ H E I ⟨A',[p],_,(c,n),ow,RWp,ho,?_⟩
  have gr:∀{A2 B2 A3:Ql U1}{H':Hp},Gr (A'++[p]) H (A2++B2) H'->(∀b∈A3,b∈A2)->Gr A H A3 H':=λ{A2 B2 A3 H'} g s3=>by
   have nA:∀b,b∉A->b∉A'++[p]:=λb nb w=>by
    rcases ML.mp w with w | w
    .exact nb (W8 b w)
    .rw[MS.mp w]at nb;exact nb b2
   refine⟨λb o' nb w=>g.kp b o' (nA b nb) w,λb hb=>?_,λb hb=>?_⟩
   .by_cases w:b∈A'++[p]
    .exact g.al b w
    .obtain⟨u,y⟩:=R.mu b (MJ _ hb)
     rw[g.kp b _ w y];simp
   .rcases g.nw b (MJ _ (s3 b hb)) with w | w
    .by_cases y:b∈A
     .exact .inl y
     .exact absurd w (nA b y)
    .exact .inr w
  have after:∀{N:L2.St->Hp->Prop}{t':Th}{w':Int×Int},After X.K F A H N (t'.set i .no)->uI af X.K F p A' [p] H N t' w':=λ{N t' w'} k σ' H' A2 B2 g R2=>by
   obtain⟨A3,s3,q3⟩:=R2.rs.rel.fgt i
   have m3:∀b∈A3,b∈A2:=λb hb=>s3.subset hb
   refine k σ' H' A3 (gr g m3) ⟨λb hb=>R2.rs.mu b ?_,R2.rs.nd.sublist s3,λb hb w=>R2.rs.dj b (m3 b hb) (MI _ w),Rc.mono (aZ H' λb hb=>?_) q3 λ_ _ _ w=>w⟩
   .rcases ML.mp hb with w | w
    .exact MJ _ (m3 b w)
    .exact MI _ (MI _ w)
   .rcases ML.mp hb with w | w
    .exact MJ _ (m3 b w)
    .exact MI _ (MI _ w)
  cases ow with
  |nx t' w'=>subst hp;exact after post
  |bk t' w'=>subst hp;exact after post
  |ct t' w'=>subst hp;exact after post
  |rt r w' =>
   subst hp
   intro v H' A2 B2 g Z4 nd dj y
   refine post v H' [] (gr (A2:=A2) (B2:=B2) g λb hb=>nomatch hb) (y.zcN.weak λb hb=>?_)
   rcases ML.mp hb with w | w
   .exact W8 b w
   .rw[MS.mp w];exact b2
 .rcases ML.mp hb with w | w
  .exact R.mu b (MJ _ (W8 b w))
  .rcases ML.mp w with w | w
   .rw[MS.mp w];exact⟨mL _,b3⟩
   .exact R.mu b (MI _ w)
 .rcases ML.mp w with w | w
  .rw[MS.mp w]at hb;exact pn hb
  .exact R.dj b (W8 b hb) w
 .rw[MS.mp hb];exact R.dj p b2
section
variable {rest:Ql U3}{fa fb fc:WE ρ}{ga:WA ρ}
def GY{y:Str}{UJ:Pos}{fs:WI ρ}{g:TG}{ft:WT ρ}{fe:WE ρ}(n:Nat)(cap:Ql Nat)(N':Ql Str)(Wl:X.N.Nodup)(We:X.N[i]?=Qs y)(hy:Loc X.env.scope y)(hc:X.calm=Qt)(hi:PI X tg iter (wI ρ X.K F p fs))
  (hg:∀C s₃ H₃ fp pins,PG (bS X N' scope C s₃ H₃ fp pins) tg g) (hk:∀F',c8 X.K F' g kt) (ht:∀C s₃ H₃ fp pins F',Tq (bS X N' scope C s₃ H₃ fp pins) ifs (wT ρ X.K F' p ft)) (he:∀C s₃ H₃ fp pins F',PE (bS X N' scope C s₃ H₃ fp pins) elt (wE ρ X.K F' p fe))
  (Tv:swapsWith (.ListComp elt [⟨tg,iter,ifs,0⟩] scope pos) (Qs (.Name y py)) UJ.line X.env=pure Qt:=by rfl) (hf:X.fn y=Qt\/X.env.scope.names.lookup y=Qs .local:=by first | exact .inl rfl | exact .inr rfl)
  (UQ:scope.kind=.function:=by rfl) (Vu:mP scope.names X.env.kindOf=Qt:=by rfl) (hN:N'.length=n+cap.length:=by rfl) (To:kf N' X.N n scope.names 0 cap=Qt:=by rfl)
  (hs:∀x,foldedSetIterable iter X.env x=pure x:=by intro _;rfl):PS X (.Assign [.Name y py] (.ListComp elt [⟨tg,iter,ifs,0⟩] scope pos) UJ) (wS ρ X.K F p (dO i (oR n cap fs kt ft fe))):=by
 refine PS.imp (Ad (g:=g) (wi:=wI ρ X.K F p fs) (tt:=λσ H Q => ∃F',wT ρ X.K F' p ft σ H Q) (te:=λσ H Q => ∃F',wE ρ X.K F' p fe σ H Q) (uh UQ Vu) hc hi hN (λk j e=>by simpa using ph To k j e) hg (λC s₃ H₃ fp pins Ts s σ H Q I ⟨F',q⟩=>ht C s₃ H₃ fp pins F' Ts s σ H Q I q) (λC s₃ H₃ fp pins Ts s σ H Q I ⟨F',q⟩=>he C s₃ H₃ fp pins F' Ts s σ H Q I q) Wl We hy Tv hf hs) ?_
 rintro E σ H ⟨A,B,t,w,o,R,e,h⟩
 refine EA hk ?_
 unfold dO at e
 refine aB e λq e1 e=>?_
 have e:((cJ t i q.1).map λt'=>OW.nx t' q.2)=Qs o:=e
 rcases e2:cJ t i q.1 with _|t'
 .rw[e2]at e;cases e
 rw[e2]at e
 cases e
 refine⟨A,B,t,w,q.1,q.2,R,e1,λv H' c R' y=>?_⟩
 obtain⟨A',g',RR⟩:=R.put c R' y e2
 exact h _ _ _ _ g' RR
def HE (Vt:Gl X "range")(hm:X.mg "range"=Qn)(ha:PE X a (wE ρ X.K F p fa))(Sf:Na [a] X.env=[(Qf,eval a X.env)]:=by rfl):PI X tg (.Call (.Name "range" p1) [a] [] p2) (wI ρ X.K F p (kS fa)):=by
 refine PI.imp (vO Vt hm (gI ha gH Sf) Sf) ?_
 rintro σ H R ⟨A,B,t,w,b,ds,w',RR,e,h⟩
 unfold kS at e
 refine aB e λq e1 e=>?_
 obtain⟨r,w1⟩:=q
 refine⟨A,B,t,w,r,w1,RR,e1,λv H1 c R1 y=>?_⟩
 have e:(match r.d with | .int n=>if c7 n then Qs ((Qt,cU 0 n.toNat),w1) else Qn | _=>Qn)=Qs ((b,ds),w'):=e
 split at e
 case h_2=>cases e
 rename_i n z
 refine bZ e λok e=>?_
 cases e
 simp only[c7,SI]at ok
 have y:=y.full
 rw[z]at y
 cases cC y
 exact⟨n,rfl,by lia,by lia,h _ H1 _ c R1 uR trivial⟩
def PW.ptw{ft:WT ρ}(h:PW X a (wT ρ X.K F p ft)):PT X a (wT ρ X.K F p ft):=λpins s σ H Q I q=>h _ pins s σ H Q I q
end
def aW(f:Str):Ql Str->Qo Nat
 |[]=>Qn
 |n::ns=>if n=f then Qs 0 else(aW f ns).map (· + 1)
def mm{α:Type}{f:Str}:∀{ns:Ql Str}{vs:Ql α}{j:Nat}{v:α},aW f ns=Qs j->vs[j]?=Qs v->(ns.zip vs).lookup f=Qs v
 |[],_,_,_,e,_=>by cases e
 |n::ns,[],j,v,e,h=>by simp at h
 |n::ns,x::vs,j,v,e,h=>by
  simp only[aW]at e
  by_cases z:n=f
  .rw[QO z]at e
   cases e
   have hb:(f == n)=Qt:=beq_iff_eq.mpr z.symm
   simp only[Nu,OT,hb]
   simpa using h
  .rw[QU z]at e
   have hb:(f == n)=Qf:=beq_eq_false_iff_ne.mpr λw=>z w.symm
   simp only[Nu,OT,hb]
   rcases e1:aW f ns with _|k
   .rw[e1]at e;cases e
   rw[e1]at e
   cases e
   exact mm e1 (by simpa using h)
def wq{α:Type}{f:Str}:∀{ns:Ql Str}{vs:Ql α},aW f ns=Qn->(ns.zip vs).lookup f=Qn
 |[],_,_=>by simp
 |n::ns,[],_=>by simp
 |n::ns,x::vs,e=>by
  simp only[aW]at e
  by_cases z:n=f
  .rw[QO z]at e;cases e
  .rw[QU z]at e
   have hb:(f == n)=Qf:=beq_eq_false_iff_ne.mpr λw=>z w.symm
   simp only[Nu,OT,hb]
   exact wq (by cases e1:aW f ns with
    |none=>rfl
    |some k=>rw[e1]at e;cases e)
def zZ{f:Str}{v:V}:∀{ns:Ql Str}{vs:Ql V}{j:Nat},aW f ns=Qs j->ns.length=vs.length->cV f v (ns.zip vs)=ns.zip (vs.set j v)
 |[],_,_,e,_=>by cases e
 |n::ns,[],j,e,h=>by simp at h
 |n::ns,x::vs,j,e,h=>by
  simp only[aW]at e
  by_cases z:n=f
  .rw[QO z]at e
   cases e
   simp only[Nu,cV,QO z,List.set_cons_zero]
  .rw[QU z]at e
   rcases e1:aW f ns with _|k
   .rw[e1]at e;cases e
   rw[e1]at e
   cases e
   simp only[Nu,cV,QU z,List.set_cons_succ]
   rw[zZ e1 (by simpa using h)]
def zY{f:Str}{v:V}:∀{ns:Ql Str}{vs:Ql V},aW f ns=Qn->ns.length=vs.length->cV f v (ns.zip vs)=(ns++[f]).zip (vs++[v])
 |[],[],_,_=>rfl
 |[],_::_,_,h=>by simp at h
 |n::ns,[],e,h=>by simp at h
 |n::ns,x::vs,e,h=>by
  simp only[aW]at e
  by_cases z:n=f
  .rw[QO z]at e;cases e
  .rw[QU z]at e
   simp only[Nu,cV,QU z,OS]
   rw[zY (by cases e1:aW f ns with
    |none=>rfl
    |some k=>rw[e1]at e;cases e) (by simpa using h)]
def CH{f:Str}:∀{ns:Ql Str}{j:Nat},aW f ns=Qs j->j<ns.length
 |[],_,e=>by cases e
 |n::ns,j,e=>by
  simp only[aW]at e
  split at e
  .cases e;simp
  .rcases e1:aW f ns with _|k
   .rw[e1]at e;cases e
   rw[e1]at e
   cases e
   have:=CH e1
   simp only[M9]
   lia
section
variable {rest:Ql U4}{C:U1}
def aH(C:U1)(f:Str):Ev->Qo Ev:=λr=>match r.d with
 |.obj C' ns ds=>if C'=C then(aW f ns).bind λj=>(ds[j]?).map λd=>if r.ok||flat d then .cl d else .tm d else Qn
 |_=>Qn
def cX(c:Sd X.K C)(n:RE X.K C f)(ha:PE X a (dE X.K F fa))(hb:attributeBase a f X.env (eval a X.env)=eval a X.env:=by rfl):PE X (.Attribute a f pos) (dE X.K F (d1 (aH C f) fa)):=by
 refine PE.imp (kz ha hb) ?_
 rintro σ H Q ⟨A,t,r,R,e,h⟩
 unfold d1 at e
 rcases e1:fa t with _|r1
 .rw[e1]at e;cases e
 rw[e1]at e
 replace e:aH C f r1=Qs r:=e
 refine⟨A,t,r1,R,e1,λv H1 gs q=>?_⟩
 have m:=R.mu
 have m2:=m.mono gs
 have key:∀(P:Ql U1),Rep X.K (ah P H1) r1.d v->(∀d v,Rep X.K (ah P H1) d v->Rz X.K F A H H1 (if r1.ok||flat d then Ev.cl d else Ev.tm d) v)->∃a C dx fs v',v=.ref a/\H1 a=Qs (.ins C dx fs)/\Sd X.K C/\RE X.K C f/\fs.lookup f=Qs v'/\Q v' H1:=λP hP fin=>by
  unfold aH at e
  split at e
  case h_2=>cases e
  rename_i C' ns ds z1
  replace e:=S0 e
  obtain⟨ec,e⟩:=e
  subst ec
  rw[z1]at hP
  cases hP with
  |@obj _ dx _ _ p vs l h1 h2 =>
   rcases e4:aW f ns with _|j
   .rw[e4]at e;cases e
   rw[e4]at e
   simp only[MP]at e
   rcases e5:ds[j]? with _|d
   .rw[e5]at e;cases e
   rw[e5]at e
   have e:(if r1.ok||flat d then Ev.cl d else Ev.tm d)=r:=by simpa using e
   obtain⟨v',e6,rv⟩:=h2.get e5
   exact⟨p,C',dx,_,v',rfl,(cD h1).2,c,n,mm e4 e6,h v' H1 gs (e ▸ fin d v' rv)⟩
 by_cases k:r1.ok=Qt
 .refine key (A++F) (q.clean m gs k) λd v rv=>?_
  rw[k,Qv,QO rfl]
  exact rv
 .refine key F (q.UB m) λd v rv=>?_
  have k:r1.ok=Qf:=by simpa using k
  rw[k,Pe]
  split
  .rename_i f;exact Rep.RY m2 f (Rep.mono (aV _ _) rv)
  .exact rv
structure VD(P:NA)(w:OX)(K:MK)(mg:Str->Option M6)(base:TL)(C:U1)(m:Str)(k:Nat)(G:List D->Option Ev):Prop where
 ex:∃(f:U1) (fd:N8) (ps:List Str),Meth K C m f/\L2.Binds K fd ps []/\RO P w K mg base bz k f fd ps (SO K G)
def cj(C:U1)(m:Str)(G:Ql D->Qo Ev)(fo:DE)(ga:DA):DE:=λt=>(fo t).bind λr0=>match r0.d with
 |.obj C' ns _=>if C'=C/\aW m ns=Qn then(ga t).bind λrs=>aO G (r0::rs) else Qn
 |_=>Qn
def AS{k:Nat}{E:XK}(hq:dE X.K F (cj C m G fo ga) σ H Q):qH C m (SO X.K G) [] E (dE X.K F fo) (dA X.K F ga) σ H Q:=by
 obtain⟨A,t,r,R,e,h⟩:=hq
 unfold cj at e
 rcases e1:fo t with _|r0
 .rw[e1]at e;cases e
 rw[e1]at e
 simp only[MP]at e
 split at e
 case h_2=>cases e
 rename_i C' ns ds z1
 replace e:=S0 e
 obtain⟨ec,e⟩:=e
 obtain⟨rfl,ec⟩:=ec
 rcases e2:ga t with _|rs
 .rw[e2]at e;cases e
 rw[e2]at e
 have e:aO G (r0::rs)=Qs r:=e
 refine⟨A,t,r0,R,e1,λx H1 T6 q1=>?_⟩
 have Z6:=q1.full
 rw[z1]at Z6
 cases Z6 with
 |@obj _ dx _ _ p vs l h1 h2 =>
  refine⟨p,dx,_,rfl,h1,wq ec,A,t,rs,R.grow T6,e2,λus H2 RZ q2=>?_⟩
  show SO X.K G (.ref p ::(us++[])) H2 Q E
  rw[Nt]
  exact yj R.mu (T6.trans RZ) (.cons (q1.mono RZ) (So.back T6 q2)) e λv H' g' q'=>h v H' ((T6.trans RZ).trans g') q'
def l6{k:Nat}(cl:Sd X.K C)(cm:VD X.prog X.w X.K X.mg X.base C m k G)(hr:Sh k X.A)(ho:PE X o (dE X.K F fo))(ha:PA X (a::es) (dA X.K F ga))
  (Sf:Na (a::es) X.env=(Qf,eval a X.env)::Na es X.env:=by rfl) (SQ:(OY pos (Na es X.env)).any (·.1)=Qf:=by rfl)
  (ht:eval (.Call (.Attribute o m apos) (a::es) [] pos) X.env=(do
   let ov <-eval o X.env
   standAt apos.atName
   let (f,first) <-holding [ov] (getMethod ov m pl)
   callWith pos f first (OY pos (Na (a::es) X.env)) (backToKw pos (keywordEach [] X.env))):=by rfl) :
  PE X (.Call (.Attribute o m apos) (a::es) [] pos) (dE X.K F (cj C m G fo ga)):=by
 obtain⟨f,fd,ps,h1,h2,h3⟩:=cm.ex
 exact PE.imp (As (pl:=pl) ho cl h1 h3 hr h2 .nil (E:=E0) jR ha Sf SQ ht) λσ H Q hq=>AS (k:=k) hq
def HQ{k:Nat}(cl:Sd X.K C)(cm:VD X.prog X.w X.K X.mg X.base C m k G)(hr:Sh k X.A)(ho:PE X o (dE X.K F fo))
  (ht:eval (.Call (.Attribute o m apos) [] [] pos) X.env=(do
   let ov <-eval o X.env
   standAt apos.atName
   let (f,first) <-holding [ov] (getMethod ov m pl)
   callWith pos f first (OY pos (Na [] X.env)) (backToKw pos (keywordEach [] X.env))):=by rfl) :
  PE X (.Call (.Attribute o m apos) [] [] pos) (dE X.K F (cj C m G fo ao)):=by
 obtain⟨f,fd,ps,h1,h2,h3⟩:=cm.ex
 refine PE.imp (Ar (pl:=pl) ho cl h1 h3 hr h2 .nil (E:=E0) jR ht) λσ H Q hq=>?_
 refine ?_
 obtain⟨A,t,r,R,e,h⟩:=AS (k:=k) (E:=E0) hq
 refine⟨A,t,r,R,e,λx H1 gs q=>?_⟩
 obtain⟨p,dx,fs,e1,e2,e3,A2,t2,rs,R2,e4,h4⟩:=h x H1 gs q
 cases e4
 exact⟨p,dx,fs,e1,e2,e3,h4 [] H1 (QS.refl H1) .nil⟩
end
inductive Swp(K:MK)(H0 H:Hp)(ds:List D)(vs:List V)(C:List U1)(j:Nat)(d:D):Prop
 |mk (v:_) (B1:_) (h_0:vs[j]?=Qs v) (h_1:Rn K H0 H d v B1) (h_2:(∀b∈B1,b∈C)) (h_3:B1.Nodup) (h_4:∀RJ H' y v2 B2,QS H0 RJ->Rn K RJ H' y v2 B2->B2.Nodup->(∀b∈B2,b∈B1\/b∉C)->(∀q∈C,q∉B1->∀o,H q=Qs o->H' q=Qs o)->∃C',Rg K RJ H' (ds.set j y) (vs.set j v2) C'/\C'.Nodup/\∀b∈C',b∈B2\/(b∈C/\b∉B1))
def Rg.swap{K:MK}{H0 H:Hp}:∀{ds:Ql D}{vs:Ql V}{C:Ql U1},Rg K H0 H ds vs C->C.Nodup->∀{j:Nat}{d:D},ds[j]?=Qs d->Swp K H0 H ds vs C j d
 |_,_,_,.nil,nd,j,d,e=>by simp at e
 |_,_,_,.cons (v:=v) (B:=B) (C:=C) h r,nd,0,d,e=>by
  simp at e;subst e
  have n:=MW.mp nd
  refine⟨v,B,rfl,h,λb hb=>MJ _ hb,n.1,λRJ H' y v2 B2 s q n2 sb k=>⟨B2++C,.cons q (Rg.mono s r λp hp o w=>?_),MW.mpr ⟨n2,n.2.1,λx hx z hz e=>?_⟩,λb hb=>?_⟩⟩
  .exact k p (MI _ hp) (λz=>n.2.2 p z p hp rfl) o w
  .subst e
   rcases sb x hx with w | w
   .exact n.2.2 x w x hz rfl
   .exact w (MI _ hz)
  .rcases ML.mp hb with w | w
   .exact .inl w
   .exact .inr ⟨MI _ w,λz=>n.2.2 b z b w rfl⟩
 |_,_,_,.cons (v:=v) (B:=B) (C:=C) h r,nd,j+1,d,e=>by
  have n:=MW.mp nd
  obtain⟨v1,B1,a1,a2,a3,a5,a4⟩:=Rg.swap r n.2.1 (j:=j) (d:=d) (by simpa using e)
  refine⟨v1,B1,by simpa using a1,a2,λb hb=>MI _ (a3 b hb),a5,λRJ H' y v2 B2 s q n2 sb k=>?_⟩
  obtain⟨C',b1,b2,b3⟩:=a4 RJ H' y v2 B2 s q n2 (λb hb=>(sb b hb).imp id λz w=>z (MI _ w)) (λq hq=>k q (MI _ hq))
  refine⟨B++C',.cons (Rn.mono s h λp hp o w=>k p (MJ _ hp) (λz=>n.2.2 p hp p (a3 p z) rfl) o w) b1,MW.mpr ⟨n.1,b2,λx hx z hz e=>?_⟩,λb hb=>?_⟩
  .subst e
   rcases b3 x hz with w | w
   .rcases sb x w with u | u
    .exact n.2.2 x hx x (a3 x u) rfl
    .exact u (MJ _ hx)
   .exact n.2.2 x hx x w.1 rfl
  .rcases ML.mp hb with w | w
   .exact .inr ⟨MJ _ w,λz=>n.2.2 b w b (a3 b z) rfl⟩
   .rcases b3 b w with u | u
    .exact .inl u
    .exact .inr ⟨MI _ u.1,u.2⟩
def Rg.snoc{K:MK}{H0 H:Hp}{d:D}{v:V}{B:Ql U1}(q:Rn K H0 H d v B):∀{ds:Ql D}{vs:Ql V}{C:Ql U1},Rg K H0 H ds vs C->Rg K H0 H (ds++[d]) (vs++[v]) (C++B)
 |_,_,_,.nil=>by
  have:Rg K H0 H [d] [v] (B++[]):=.cons q .nil
  rw[Nt]at this
  exact this
 |_,_,_,.cons h r=>by
  rw[Nv]
  exact .cons h (Rg.snoc q r)
def Fq (h:σ[i]?=Qs (Qs v)):σ.set i (Qs v)=σ:=by
 apply OL
 intro k
 by_cases z:i=k
 .subst z
  have hi:i<σ.length:=(Nm.mp h).1
  rw[Oz hi,h]
 .rw[Nx z]
def RS.zbv{Z:Ql U1}{d:D}(R:RS K (Z++F) H A t σ)(zf:∀z∈Z,z∉F)(e:t[i]?=Qs (.dp d)):∃v B A',σ[i]?=Qs (Qs v)/\B.Nodup/\(∀b∈B,b∈A)/\(∀b∈A',b∈A)/\(∀b∈B,b∉A'++(Z++F))/\Rn K (ah (A'++(B++(Z++F))) H) H d v B/\Rn K (ah (A++(Z++F)) H) H d v B /\
  ∀H1 d2 B2,(∀b o,b∉B->b∉Z->H b=Qs o->H1 b=Qs o)->B2.Nodup->(∀b∈B2,b∈B\/b∈Z\/H b=Qn)->Rn K (ah (A'++(B2++F)) H1) H1 d2 v B2->∃A2,RS K F H1 A2 (t.set i (.dp d2)) σ/\∀b∈A2,b∈A\/b∈Z\/H b=Qn:=by
 obtain⟨v,B,A',a1,R',nb,dj,WG,sub,T4⟩:=R.Yo e
 have hi:i<t.length:=(Nm.mp e).1
 have le:QS (ah (A++(Z++F)) H) (ah (A'++(B++(Z++F))) H):=aZ H λx hx=>by
  rcases ML.mp hx with z | z
  .exact MJ _ (sub x z)
  .rcases ML.mp z with z | z
   .exact MJ _ (T4 x z)
   .exact MI _ z
 refine⟨v,B,A',a1,nb,T4,sub,λb hb z=>(ML.mp z).elim (λw=>R'.dj b w (MJ _ hb)) (dj b hb),Rn.mono le WG λ_ _ _ w=>w,WG,λH1 d2 B2 kp Xi new rd=>?_⟩
 have up:∀b,b∈A'++F->b∈A'++(B++(Z++F)):=λb hb=>by
  rcases ML.mp hb with w | w
  .exact MJ _ w
  .exact MI _ (MI _ (MI _ w))
 have out:∀b,b∈A'++F->b∉B:=λb hb z=>by
  rcases ML.mp hb with w | w
  .exact R'.dj b w (MJ _ z)
  .exact dj b z (MI _ w)
 have Yy:∀b,b∈A'++F->b∉Z:=λb hb z=>by
  rcases ML.mp hb with w | w
  .exact R'.dj b w (MI _ (MJ _ z))
  .exact zf b z w
 have zaa:∀b,b∈A'++F->b∉B2:=λb hb z=>by
  rcases new b z with w | w | w
  .exact out b hb w
  .exact Yy b hb w
  .obtain⟨o,q⟩:=R'.mu b (up b hb)
   rw[w]at q;cases q
 have YG:RF H1 (A'++(B2++F)):=λb hb=>by
  have other:b∈A'++F->∃o:MO,H1 b=Qs o.1:=λz=>by
   obtain⟨o,q⟩:=R'.mu b (up b z)
   exact⟨o,kp b _ (out b z) (Yy b z) q⟩
  rcases ML.mp hb with z | z
  .exact other (MJ _ z)
  .rcases ML.mp z with z | z
   .exact rd.lists b z
   .exact other (MI _ z)
 have R2:RS K (B2++F) H1 A' (t.set i .no) σ:=by
  refine⟨YG,R'.nd,λb hb z=>?_,Rc.mono (λb o h=>?_) R'.rel λb hb o h=>kp b o (out b (MJ _ hb)) (Yy b (MJ _ hb)) h⟩
  .rcases ML.mp z with w | w
   .exact zaa b (MJ _ hb) w
   .exact R'.dj b hb (MI _ (MI _ w))
  .obtain⟨n,h⟩:=cD h
   have nB:b∉B:=λz=>n (MI _ (MJ _ z))
   have nZ:b∉Z:=λz=>n (MI _ (MI _ (MJ _ z)))
   refine bw (kp b o nB nZ h) λz=>?_
   rcases ML.mp z with w | w
   .exact n (MJ _ w)
   .rcases ML.mp w with w | w
    .rcases new b w with u | u | u
     .exact nB u
     .exact nZ u
     .rw[h]at u;cases u
    .exact n (MI _ (MI _ (MI _ w)))
 obtain⟨A2,s2,RR⟩:=R2.zci (i:=i) Xi (λb hb z=>zaa b (MI _ z) hb) rd (by rw[PM];exact hi)
 rw[Qx,Fq a1]at RR
 refine⟨A2,RR,λb hb=>?_⟩
 rcases s2 b hb with z | z
 .rcases new b z with w | w | w
  .exact .inl (T4 b w)
  .exact .inr (.inl w)
  .exact .inr (.inr w)
 .exact .inl (sub b z)
inductive zfx(K:MK)(F Z A:List U1)(H:Hp)(t:Th)(σ:L2.St)(i:Nat)(C:U1)(ns:List Str)(ds:List D):Prop
 |mk (p:_) (dx:_) (vs:_) (C0:_) (h_0:σ[i]?=Qs (Qs (.ref p))) (h_1:H p=Qs (.ins C dx (ns.zip vs))) (h_2:ns.length=vs.length) (h_3:p∈A) (h_4:p∉C0) (h_5:p∉Z) (h_6:C0.Nodup) (h_7:(∀b∈C0,b∈A/\b∉Z)) (h_8:Rg K (ah (A++(Z++F)) H) H ds vs C0) (h_9:∀H1 Xf W3 TF C2,(∀b o,b≠p->b∉C0->b∉Z->H b=Qs o->H1 b=Qs o)->H1 p=Qs (.ins C dx (Xf.zip W3))->Xf.length=W3.length->C2.Nodup->p∉C2->(∀b∈C2,b∈C0\/b∈Z\/H b=Qn)->Rg K (ah ((p ::(C0++C2))++(A++(Z++F))) H1) H1 TF W3 C2->∃A2,RS K F H1 A2 (t.set i (.dp (.obj C Xf TF))) σ/\∀b∈A2,b∈A\/b∈Z\/H b=Qn)
def RS.Zg{Z:Ql U1}{C:U1}(R:RS K (Z++F) H A t σ)(zf:∀z∈Z,z∉F)(e:t[i]?=Qs (.dp (.obj C ns ds))) :
  zfx K F Z A H t σ i C ns ds:=by
 obtain⟨v,B,A',a1,nb,T4,sub,nz,XX,WG,fin⟩:=R.zbv zf e
 cases WG with
 |flat f r=>simp[flat]at f
 |@obj _ dx _ _ p vs C0 l h r =>
  have n0:=M3.mp nb
  refine⟨p,dx,vs,C0,a1,h,l,T4 p (MN ..),n0.1,λz=>nz p (MN ..) (MI _ (MJ _ z)),n0.2,λb hb=>⟨T4 b (MM _ hb),λz=>nz b (MM _ hb) (MI _ (MJ _ z))⟩,r,λH1 Xf W3 TF C2 kp hp l2 n2 np new rd=>?_⟩
  refine fin H1 (.obj C Xf TF) (p::C2) (λb o nB nZ w=>kp b o (λz=>nB (z ▸ MN ..)) (λz=>nB (MM _ z)) nZ w) (M3.mpr ⟨np,n2⟩) (λb hb=>?_) (.obj l2 hp (Rg.mono (aZ H1 λb hb=>?_) rd λ_ _ _ w=>w))
  .rcases MQ.mp hb with z | z
   .exact .inl (z ▸ MN ..)
   .exact(new b z).imp (MM _) id
  .rcases ML.mp hb with z | z
   .exact MI _ (MJ _ (sub b z))
   .rcases ML.mp z with z | z
    .refine MJ _ ?_
     rcases MQ.mp z with z | z
     .exact z ▸ MN ..
     .exact MM _ (MI _ z)
    .exact MI _ (MI _ (MI _ z))
def jw:Ev->Qo D
 |.cl d=>if flat d then Qs d else Qn
 |.tm d=>if flat d then Qs d else Qn
 |.nw xs=>if RB xs then Qs (.lst xs) else Qn
 |.dn d=>Qs d
def Rz.owned{y:D}(m:RF H (A++F))(gs:QS H H1)(q:Rz K F A H H1 r v)(e:jw r=Qs y):∃Bn:Ql U1,Bn.Nodup/\(∀b∈Bn,H b=Qn)/\Rn K (ah (Bn++(A++F)) H1) H1 y v Bn:=by
 have m1:=m.mono gs
 cases r with
 |cl d =>
  simp only[jw]at e
  replace e:=S0 e
  obtain⟨f,e⟩:=e
  cases e
  exact⟨[],NM,(λb hb=>nomatch hb),.flat f q⟩
 |tm d =>
  simp only[jw]at e
  replace e:=S0 e
  obtain⟨f,e⟩:=e
  cases e
  exact⟨[],NM,(λb hb=>nomatch hb),.flat f (Rep.RY m1 f (Rep.mono (aV _ _) q))⟩
 |nw xs =>
  simp only[jw]at e
  replace e:=S0 e
  obtain⟨f,e⟩:=e
  cases e
  obtain⟨p,vs,rfl,h1,h2,h3⟩:=q
  exact⟨[p],by simp,λb hb=>by rw[MS.mp hb];exact h1,.lst h2 (Rg.Xe f h3)⟩
 |dn d =>
  cases e
  obtain⟨B,h1,h2,h3⟩:=q
  exact⟨B,h1,h2,h3⟩
def Ul(C:U1)(ns:Ql Str)(ds:Ql D)(f:Str)(y:D):D:=match aW f ns with
 |some j=>.obj C ns (ds.set j y)
 |none=>.obj C (ns++[f]) (ds++[y])
def RS.Ul{K:MK}{F A:Ql U1}{H:Hp}{t:Th}{σ:L2.St}{i:Nat}{C:U1}{ns:Ql Str}{ds:Ql D}(R:RS K F H A t σ)(e:t[i]?=Qs (.dp (.obj C ns ds))) :
  ∃p dx vs,σ[i]?=Qs (Qs (.ref p))/\H p=Qs (.ins C dx (ns.zip vs))/\ns.length=vs.length/\QV K H ds vs/\∀f H1 y w Bn,QS H H1->Bn.Nodup->(∀b∈Bn,H b=Qn)->Rn K (ah (Bn++(A++F)) H1) H1 y w Bn ->
   ∃A2,RS K F (L2.upd H1 p (.ins C dx (cV f w (ns.zip vs)))) A2 (t.set i (.dp (DL.Ul C ns ds f y))) σ/\Gr A H A2 (L2.upd H1 p (.ins C dx (cV f w (ns.zip vs)))):=by
 obtain⟨p,dx,vs,C0,a1,hp,hl,pA,pC,_,nC,UA,rd,fin⟩:=RS.Zg (Z:=[]) R (λz hz=>nomatch hz) e
 have rd:Rg K (ah (A++F) H) H ds vs C0:=rd
 refine⟨p,dx,vs,a1,hp,hl,Rg.rep (aV _ _) rd λ_ _ _ w=>w,λf H1 y w Bn gs nB fr rdy=>?_⟩
 have Y1:∀b,H b=Qn->b≠p:=λb h z=>by rw[z,hp]at h;cases h
 have alA:∀b∈A,H b≠Qn:=λb hb z=>by
  obtain⟨o,q⟩:=R.mu b (MJ _ hb)
  rw[z]at q;cases q
 have hu:∀o b,b≠p->L2.upd H1 p o b=H1 b:=λo b n=>aN n
 generalize Ue:L2.upd H1 p (.ins C dx (cV f w (ns.zip vs)))=H2
 have u1:∀b,b≠p->H2 b=H1 b:=λb n=>by rw[<-Ue];exact aN n
 have u2:H2 p=Qs (.ins C dx (cV f w (ns.zip vs))):=by rw[<-Ue];exact bF
 have S1:QS (ah (A++F) H) (ah (Bn++(A++F)) H2):=λb o h=>by
  obtain⟨n,h⟩:=cD h
  have np:b≠p:=λz=>n (z ▸ MJ _ pA)
  refine bw (by rw[u1 b np];exact gs b o h) λz=>?_
  rcases ML.mp z with z | z
  .rw[fr b z]at h;cases h
  .exact n z
 have S2:QS (ah (Bn++(A++F)) H1) (ah (Bn++(A++F)) H2):=λb o h=>by
  obtain⟨n,h⟩:=cD h
  have np:b≠p:=λz=>n (z ▸ MI _ (MJ _ pA))
  exact bw (by rw[u1 b np];exact h) n
 have ry:Rn K (ah (Bn++(A++F)) H2) H2 y w Bn:=Rn.mono S2 rdy λb hb o h=>by rw[u1 b (Y1 b (fr b hb))];exact h
 have kC:∀q∈C0,∀o,H q=Qs o->H2 q=Qs o:=λq hq o h=>by rw[u1 q (λz=>pC (z ▸ hq))];exact gs q o h
 have gr:∀A2:Ql U1,(∀b∈A2,b∈A\/b∈([]:Ql U1)\/H b=Qn)->Gr A H A2 H2:=λA2 h=>by
  refine⟨λb o n q=>by rw[u1 b (λz=>n (z ▸ pA))];exact gs b o q,λb hb=>?_,λb hb=>?_⟩
  .by_cases z:b=p
   .rw[z,u2];simp
   .obtain⟨o,q⟩:=R.mu b (MJ _ hb)
    rw[u1 b z,gs b _ q];simp
  .rcases h b hb with z | z | z
   .exact .inl z
   .cases z
   .exact .inr z
 have kp:∀b o,b≠p->b∉C0->b∉([]:Ql U1)->H b=Qs o->H2 b=Qs o:=λb o n _ _ h=>by rw[u1 b n];exact gs b o h
 have sub:∀C2:Ql U1,(∀b∈C2,b∈Bn\/b∈C0)->QS (ah (Bn++(A++F)) H2) (ah ((p ::(C0++C2))++(A++([]++F))) H2):=λC2 h=>aZ H2 λb hb=>by
  have c0:b∈C0->b∈Bn++(A++F):=λz=>MI _ (MJ _ (UA b z).1)
  rcases ML.mp hb with z | z
  .rcases MQ.mp z with z | z
   .rw[z];exact MI _ (MJ _ pA)
   .rcases ML.mp z with z | z
    .exact c0 z
    .rcases h b z with z | z
     .exact MJ _ z
     .exact c0 z
  .exact MI _ z
 unfold DL.Ul
 cases ef:aW f ns with
 |some j =>
  have hj:j<ds.length:=by
   have:=CH ef
   have l2:=rd.length
   lia
  obtain⟨v1,B1,b1,b2,b3,b4,b5⟩:=rd.swap nC (MR hj)
  obtain⟨C',c1,c2,c3⟩:=b5 _ H2 y w Bn S1 ry nB (λb hb=>.inr λz=>alA b (UA b z).1 (fr b hb)) (λq hq _=>kC q hq)
  have T3:∀b∈C',b∈Bn\/b∈C0:=λb hb=>(c3 b hb).imp id λz=>z.1
  obtain⟨A2,d1,d2⟩:=fin H2 ns (vs.set j w) (ds.set j y) C' kp (by rw[u2,zZ ef hl]) (by rw[PM];exact hl) c2 (λz=>(T3 p z).elim (λz=>Y1 p (fr p z) rfl) pC) (λb hb=>(T3 b hb).elim (λz=>.inr (.inr (fr b z))) .inl) (Rg.mono (sub C' T3) c1 λ_ _ _ w=>w)
  exact⟨A2,d1,gr A2 d2⟩
 |none =>
  have c1:Rg K (ah (Bn++(A++F)) H2) H2 (ds++[y]) (vs++[w]) (C0++Bn):=Rg.snoc ry (Rg.mono S1 rd kC)
  have T3:∀b∈C0++Bn,b∈Bn\/b∈C0:=λb hb=>(ML.mp hb).elim .inr .inl
  obtain⟨A2,d1,d2⟩:=fin H2 (ns++[f]) (vs++[w]) (ds++[y]) (C0++Bn) kp (by rw[u2,zY ef hl]) (by simp[hl]) (MW.mpr ⟨nC,nB,λx hx z hz e=>by subst e;exact alA x (UA x hx).1 (fr x hz)⟩) (λz=>(T3 p z).elim (λz=>Y1 p (fr p z) rfl) pC) (λb hb=>(T3 b hb).elim (λz=>.inr (.inr (fr b z))) .inl) (Rg.mono (sub _ T3) c1 λ_ _ _ w=>w)
  exact⟨A2,d1,gr A2 d2⟩
section
variable {C:U1}
def kO(t:Th)(i:Nat)(C:U1)(f:Str)(r:Ev):Qo Out:=match t[i]?,jw r with
 |some (.dp (.obj C' ns ds)),Qs y=>if C'=C/\ns.length<900 then Qs (.nx (t.set i (.dp (DL.Ul C ns ds f y)))) else Qn
 |_,_=>Qn
def eN(i:Nat)(C:U1)(f:Str)(fe:DE):DS:=λt=>(fe t).bind (kO t i C f)
def yI (h:ns.length<900):(ns.zip vs).length<1000:=by
 rw[Qm];lia
end
def zt{α:Type}{xs:Ql α}{x:α}(h:xs[j]?=Qs x):xs.set j x=xs:=by
 apply OL
 intro k
 by_cases z:j=k
 .subst z
  have hi:j<xs.length:=(Nm.mp h).1
  rw[Oz hi,h]
 .rw[Nx z]
inductive zfy(K:MK)(F A:List U1)(H:Hp)(t:Th)(σ:L2.St)(i j:Nat)(C:U1)(ns:List Str)(ds es:List D)(f:Str):Prop
 |mk (p:_) (dx:_) (vs:_) (q:_) (ws:_) (h_0:σ[i]?=Qs (Qs (.ref p))) (h_1:H p=Qs (.ins C dx (ns.zip vs))) (h_2:(ns.zip vs).lookup f=Qs (.ref q)) (h_3:H q=Qs (.lst ws)) (h_4:QV K (ah (A++F) H) es ws) (h_5:ns.length=vs.length) (h_6:vs[j]?=Qs (.ref q)) (h_7:(∃C0,Rg K (ah (A++F) H) H ds vs C0/\C0.Nodup)) (h_8:∀H1 Sk Ry,QS H H1->RB Sk=Qt->QV K (ah (A++F) H1) Sk Ry->∃A2,RS K F (L2.upd H1 q (.lst Ry)) A2 (t.set i (.dp (.obj C ns (ds.set j (.lst Sk))))) σ/\Gr A H A2 (L2.upd H1 q (.lst Ry)))
def RS.zaQ{C:U1}{es:Ql D}(R:RS K F H A t σ)(e:t[i]?=Qs (.dp (.obj C ns ds)))(ef:aW f ns=Qs j)(ed:ds[j]?=Qs (.lst es))(fl:RB es=Qt) :
  zfy K F A H t σ i j C ns ds es f:=by
 obtain⟨p,dx,vs,C0,a1,hp,hl,pA,pC,_,nC,UA,rd,fin⟩:=RS.Zg (Z:=[]) R (λz hz=>nomatch hz) e
 have rd:Rg K (ah (A++F) H) H ds vs C0:=rd
 obtain⟨v1,B1,b1,b2,b3,b4,b5⟩:=rd.swap nC ed
 cases b2 with
 |flat f' r=>simp[flat]at f'
 |@lst _ q ws Bq hq rq =>
  obtain⟨rs,eB⟩:=Rg.fl rq fl
  subst eB
  have qC:q∈C0:=b3 q (MN ..)
  have qA:q∈A:=(UA q qC).1
  have qp:p≠q:=λz=>pC (z ▸ qC)
  refine⟨p,dx,vs,q,ws,a1,hp,mm ef b1,hq,rs,hl,b1,⟨C0,rd,nC⟩,λH1 Sk Ry gs VA rs'=>?_⟩
  generalize Ue:L2.upd H1 q (.lst Ry)=H2
  have u1:∀b,b≠q->H2 b=H1 b:=λb n=>by rw[<-Ue];exact aN n
  have u2:H2 q=Qs (.lst Ry):=by rw[<-Ue];exact bF
  have S1:QS (ah (A++F) H) (ah (A++F) H2):=λb o h=>by
   obtain⟨n,h⟩:=cD h
   exact bw (by rw[u1 b λz=>n (z ▸ MJ _ qA)];exact gs b o h) n
  have S2:QS (ah (A++F) H1) (ah (A++F) H2):=λb o h=>by
   obtain⟨n,h⟩:=cD h
   exact bw (by rw[u1 b λz=>n (z ▸ MJ _ qA)];exact h) n
  obtain⟨C',c1,c2,c3⟩:=b5 _ H2 (.lst Sk) (.ref q) [q] S1 (.lst u2 (Rg.Xe VA (QV.mono S2 rs'))) (by simp) (λb hb=>.inl (by simpa using hb)) (λb hb n o h=>by rw[u1 b λz=>n (by rw[z];exact MN ..)];exact gs b o h)
  rw[zt b1]at c1
  have T3:∀b∈C',b∈C0:=λb hb=>by
   rcases c3 b hb with z | z
   .rw[MS.mp z];exact qC
   .exact z.1
  have sub:QS (ah (A++F) H2) (ah ((p ::(C0++C'))++(A++([]++F))) H2):=aZ H2 λb hb=>by
   rcases ML.mp hb with z | z
   .refine MJ _ ?_
    rcases MQ.mp z with z | z
    .rw[z];exact pA
    .rcases ML.mp z with z | z
     .exact(UA b z).1
     .exact(UA b (T3 b z)).1
   .exact z
  obtain⟨A2,d1,d2⟩:=fin H2 ns vs (ds.set j (.lst Sk)) C' (λb o n YF _ h=>by rw[u1 b λz=>YF (z ▸ qC)];exact gs b o h) (by rw[u1 p qp];exact gs p _ hp) hl c2 (λz=>pC (T3 p z)) (λb hb=>.inl (T3 b hb)) (Rg.mono sub c1 λ_ _ _ w=>w)
  refine⟨A2,d1,λb o n h=>by rw[u1 b λz=>n (z ▸ qA)];exact gs b o h,λb hb=>?_,λb hb=>?_⟩
  .by_cases z:b=q
   .rw[z,u2];simp
   .obtain⟨o,w⟩:=R.mu b (MJ _ hb)
    rw[u1 b z,gs b _ w];simp
  .rcases d2 b hb with z | z | z
   .exact .inl z
   .cases z
   .exact .inr z
inductive zfz(K:MK)(F A:List U1)(H:Hp)(t:Th)(σ:L2.St)(i j:Nat)(C:U1)(ns:List Str)(ds es:List D)(f:Str):Prop
 |mk (p:_) (dx:_) (vs:_) (q:_) (ws:_) (h_0:σ[i]?=Qs (Qs (.ref p))) (h_1:H p=Qs (.ins C dx (ns.zip vs))) (h_2:(ns.zip vs).lookup f=Qs (.ref q)) (h_3:H q=Qs (.lst ws)) (h_4:QV K (ah (A++F) H) es ws) (h_5:∀H1 Sk Ry,QS H H1->RB Sk=Qt->QV K (ah (A++F) H1) Sk Ry->∃A2,RS K F (L2.upd H1 q (.lst Ry)) A2 (t.set i (.dp (.obj C ns (ds.set j (.lst Sk))))) σ/\Gr A H A2 (L2.upd H1 q (.lst Ry)))
def RS.Zh{C:U1}{es:Ql D}(R:RS K F H A t σ)(e:t[i]?=Qs (.dp (.obj C ns ds)))(ef:aW f ns=Qs j)(ed:ds[j]?=Qs (.lst es))(fl:RB es=Qt) :
  zfz K F A H t σ i j C ns ds es f:=by
 obtain⟨p,dx,vs,q,ws,a1,a2,a3,a4,a5,_,_,_,a6⟩:=R.zaQ e ef ed fl
 exact⟨p,dx,vs,q,ws,a1,a2,a3,a4,a5,a6⟩
section
variable {C:U1}
def gL(t:Th)(i:Nat)(C:U1)(f:Str)(k:Ql D->Qo (Ql D)):Qo Out:=match t[i]? with
 |some (.dp (.obj C' ns ds))=>if C'=C then(aW f ns).bind λj=>match ds[j]? with
  |some (.lst es)=>if RB es then(k es).bind λSk=>if RB Sk then Qs (.nx (t.set i (.dp (.obj C ns (ds.set j (.lst Sk)))))) else Qn else Qn
  |_=>Qn else Qn
 |_=>Qn
def tH{k:Ql D->Qo (Ql D)}{o:Out}(e:gL t i C f k=Qs o):∃ns ds j es Sk,t[i]?=Qs (.dp (.obj C ns ds))/\aW f ns=Qs j/\ds[j]?=Qs (.lst es)/\RB es=Qt/\k es=Qs Sk/\RB Sk=Qt/\o=.nx (t.set i (.dp (.obj C ns (ds.set j (.lst Sk))))):=by
 unfold gL at e
 split at e
 case h_2=>cases e
 rename_i C' ns ds z1
 replace e:=S0 e
 obtain⟨ec,e⟩:=e
 subst ec
 rcases e1:aW f ns with _|j
 .rw[e1]at e;cases e
 rw[e1]at e
 simp only[MP]at e
 split at e
 case h_2=>cases e
 rename_i es z2
 replace e:=S0 e
 obtain⟨fl,e⟩:=e
 rcases e2:k es with _|Sk
 .rw[e2]at e;cases e
 rw[e2]at e
 simp only[MP]at e
 split at e
 case isFalse=>cases e
 rename_i VA
 cases e
 exact⟨ns,ds,j,es,Sk,z1,e1,z2,fl,e2,VA,rfl⟩
def ou(r k:Ev)(es:Ql D):Qo (Ql D):=match k.d with
 |.int n=>if flat r.d then(Sz es.length n).map λl=>es.set l r.d else Qn
 |_=>Qn
def mJ(i:Nat)(C:U1)(f:Str)(fk fe:DE):DS:=λt=>(fe t).bind λr=>(fk t).bind λk=>gL t i C f (ou r k)
def tJ(g:Int->Int->Int)(k r:Ev)(es:Ql D):Qo (Ql D):=match k.d,r.d with
 |.int n,.int m=>(Sz es.length n).bind λl=>match es[l]? with
  |some (.int v)=>Qs (es.set l (.int (g v m)))
  |_=>Qn
 |_,_=>Qn
def iQ(g:Int->Int->Int)(i:Nat)(C:U1)(f:Str)(fk fe:DE):DS:=λt=>(fk t).bind λk=>(fe t).bind λr=>gL t i C f (tJ g k r)
def tK(r:Ev)(es:Ql D):Qo (Ql D):=if flat r.d&&decide (es.length<100000) then Qs (es++[r.d]) else Qn
def lh(i:Nat)(C:U1)(f:Str)(fe:DE):DS:=λt=>(fe t).bind λr=>gL t i C f (tK r)
def ox(t:Th)(i:Nat)(C:U1)(f:Str)(r:Ev):Qo Out:=match t[i]?,r.d with
 |some (.dp (.obj C' ns ds)),.int m=>if C'=C/\ns.length<900/\m.natAbs<=1000 then(aW f ns).bind λj=>match ds[j]? with
  |some (.int v)=>Qs (.nx (t.set i (.dp (DL.Ul C ns ds f (.int (v*m))))))
  |_=>Qn else Qn
 |_,_=>Qn
def o7(i:Nat)(C:U1)(f:Str)(fe:DE):DS:=λt=>(fe t).bind (ox t i C f)
def KP:DK X .Mult (λx y H Q => ∃i j:Int,x=.int i/\y=.int j/\j.natAbs<=1000/\Q (.int (i*j)) H):=by
 rintro pins s σ H x y u v Q I rx ry ⟨i,j,rfl,rfl,hj,q⟩
 refine KJ (X:=X) pins s σ H (.int i) (.int j) u v Q I rx ry ⟨i,j,rfl,rfl,.inr ⟨?_,?_⟩,q⟩<;>lia
end
section
variable {C:U1}
def gG(i:Nat) (c:Sd X.K C)(n:RE X.K C f)(he:PE X a (dE X.K F fa))(hN:X.N[i]?=Qs x:=by rfl)(hv:dh X.env.scope x:=by first | exact Or.inl rfl | exact Or.inr (Or.inl rfl) |exact Or.inr (Or.inr rfl))(hd:Sv x:=by decide)
  (R9:Tj x:=by decide) (hs:swapsWith a (Qs (.Attribute (.Name x p0) f pos')) pos.line X.env=pure Qf:=by rfl):PS X (.Assign [.Attribute (.Name x p0) f pos'] a pos) (dP X.K F I (eN i C f fa)):=by
 refine PS.imp (G9 (dz (i:=i) hN hv hd R9) he hs) ?_
 rintro E σ H ⟨A,t,t2,R,e,h⟩
 unfold eN at e
 refine aB e λr e1 e=>?_
 replace e:kO t i C f r=Qs (.nx t2):=e
 unfold kO at e
 split at e
 case h_2=>cases e
 rename_i C' ns ds y z1 z2
 refine bZ e λok e=>?_
 obtain⟨rfl,hl⟩:=ok
 cases e
 obtain⟨p,dx,vs,a1,a2,a3,_,a4⟩:=R.Ul z1
 refine⟨A,t,r,R,e1,λw H1 gs q=>⟨_,a1,p,C',dx,_,rfl,gs _ _ a2,c,n,yI hl,?_⟩⟩
 obtain⟨Bn,b1,b2,b3⟩:=q.owned R.mu gs z2
 obtain⟨A2,c1,c2⟩:=a4 f H1 y w Bn gs b1 b2 b3
 exact h _ _ _ c2 c1 λ_ _=>rfl
def Hq(i:Nat) (c:Sd X.K C)(n:RE X.K C f)(hb:PE X b (dE X.K F fb))(he:PE X a (dE X.K F fa))(hN:X.N[i]?=Qs x:=by rfl)(hv:dh X.env.scope x:=by first | exact Or.inl rfl | exact Or.inr (Or.inl rfl) |exact Or.inr (Or.inr rfl))(hd:Sv x:=by decide)
  (R9:Tj x:=by decide) (Wk:attributeBase (.Name x p0) f X.env (eval (.Name x p0) X.env)=eval (.Name x p0) X.env:=by rfl)
  (ha:∀v,assign (.Subscript (.Attribute (.Name x p0) f p1) b Tn) X.env v=(do
   let ov <-holding [v] (eval (.Attribute (.Name x p0) f p1) X.env)
   let iv <-holding [v,ov] (eval b X.env)
   standAt Tn
   holding [v,ov,iv] (setItem ov iv v)
   release [v,ov,iv] []):=by intro _;rfl)
  (hs:swapsWithSole [.Subscript (.Attribute (.Name x p0) f p1) b Tn] a pos.line X.env=pure Qf:=by rfl) (hw:swappedStores [.Subscript (.Attribute (.Name x p0) f p1) b Tn] a X.env=pure Qn:=by rfl)
  (h1:(assignEach [.Subscript (.Attribute (.Name x p0) f p1) b Tn] X.env).map (·.2)=[assign (.Subscript (.Attribute (.Name x p0) f p1) b Tn) X.env]:=by rfl) :
  PS X (.Assign [.Subscript (.Attribute (.Name x p0) f p1) b Tn] a pos) (dP X.K F I (mJ i C f fb fa)):=by
 refine PS.imp (su he (vP (kz (dz (i:=i) hN hv hd R9) Wk) hb qT ha) hs hw h1) ?_
 rintro E σ H ⟨A,t,t2,R,e,h⟩
 unfold mJ at e
 rcases e1:fa t with _|r
 .rw[e1]at e;cases e
 rcases e2:fb t with _|kk
 .rw[e1,e2]at e;cases e
 rw[e1,e2]at e
 replace e:gL t i C f (ou r kk)=Qs (.nx t2):=e
 obtain⟨ns,ds,j,es,Sk,z1,z2,z3,fl,ek,VA,eo⟩:=tH e
 cases eo
 unfold ou at ek
 split at ek
 case h_2=>cases ek
 rename_i n' zk
 replace ek:=S0 ek
 obtain⟨fr,ek⟩:=ek
 rcases e4:Sz es.length n' with _|l
 .rw[e4]at ek;cases ek
 rw[e4]at ek
 have ek:es.set l r.d=Sk:=by simpa using ek
 subst ek
 obtain⟨p,dx,vs,q,ws,a1,a2,a3,a4,a5,a6⟩:=R.Zh z1 z2 z3 fl
 refine⟨A,t,r,R,e1,λy H1 T6 q1=>⟨_,a1,p,C,dx,_,_,rfl,T6 _ _ a2,c,n,a3,A,t,kk,R.grow T6,e2,λw H2 RZ q2=>?_⟩⟩
 have p2:=q2.full
 rw[zk]at p2
 cases cC p2
 have gs:=T6.trans RZ
 refine⟨q,ws,n',l,rfl,rfl,gs _ _ a4,by rw[a5.length];exact e4,?_⟩
 have ry:Rep X.K (ah (A++F) H2) r.d y:=Rep.RY (R.mu.mono gs) fr (q1.mono RZ).full
 obtain⟨A2,c1,c2⟩:=a6 H2 _ (ws.set l y) gs VA (QV.set ry l (QV.mono (cT gs) a5))
 exact h _ _ _ c2 c1 λ_ _=>rfl
def Ag{g:Int->Int->Int}(i:Nat) (c:Sd X.K C)(n:RE X.K C f)(ho:yB X op (BH g))(hb:PE X b (dE X.K F fb))(he:PE X a (dE X.K F fa))(hN:X.N[i]?=Qs x:=by rfl)(hv:dh X.env.scope x:=by first | exact Or.inl rfl | exact Or.inr (Or.inl rfl) |exact Or.inr (Or.inr rfl))(hd:Sv x:=by decide)
  (R9:Tj x:=by decide) (Wk:attributeBase (.Name x p0) f X.env (eval (.Name x p0) X.env)=eval (.Name x p0) X.env:=by rfl) (ha:∀ov iv new,augStore b ov iv new=(do holding [new,ov,iv] (setItem ov iv new);release [new,ov,iv] [];pure .next):=by intros;rfl) :
  PS X (.AugAssign (.Subscript (.Attribute (.Name x p0) f p1) b Tn) op a pos) (dP X.K F I (iQ g i C f fb fa)):=by
 refine PS.imp (Ae (kz (dz (i:=i) hN hv hd R9) Wk) hb BZ he ho qT ha) ?_
 rintro E σ H ⟨A,t,t2,R,e,h⟩
 unfold iQ at e
 rcases e1:fb t with _|kk
 .rw[e1]at e;cases e
 rcases e2:fa t with _|r
 .rw[e1,e2]at e;cases e
 rw[e1,e2]at e
 replace e:gL t i C f (tJ g kk r)=Qs (.nx t2):=e
 obtain⟨ns,ds,j,es,Sk,z1,z2,z3,fl,ek,VA,eo⟩:=tH e
 cases eo
 unfold tJ at ek
 split at ek
 case h_2=>cases ek
 rename_i n' m' zk zr
 rcases e4:Sz es.length n' with _|l
 .rw[e4]at ek;cases ek
 rw[e4]at ek
 simp only[MP]at ek
 split at ek
 case h_2=>cases ek
 rename_i v z4
 cases ek
 obtain⟨p,dx,vs,q,ws,a1,a2,a3,a4,a5,a6⟩:=R.Zh z1 z2 z3 fl
 obtain⟨v0,b1,b2⟩:=a5.get z4
 cases cC b2
 have ea:RP ws n'=Qs (.int v):=by unfold L2.RP;rw[a5.length,e4];exact b1
 refine⟨_,a1,p,C,dx,_,_,rfl,a2,c,n,a3,A,t,kk,R,e1,λw H1 T6 q1=>?_⟩
 have p1:=q1.full
 rw[zk]at p1
 cases cC p1
 refine⟨q,ws,n',.int v,rfl,rfl,Rm.of (T6 _ _ a4),ea,A,t,r,R.grow T6,e2,λy H2 RZ q2=>?_⟩
 have p2:=q2.full
 rw[zr]at p2
 cases cC p2
 have gs:=T6.trans RZ
 refine⟨v,m',rfl,rfl,q,ws,n',l,rfl,rfl,gs _ _ a4,by rw[a5.length];exact e4,?_⟩
 obtain⟨A2,c1,c2⟩:=a6 H2 _ (ws.set l (.int (g v m'))) gs VA (QV.set (.int _) l (QV.mono (cT gs) a5))
 exact h _ _ _ c2 c1 λ_ _=>rfl
def vI(i:Nat) (c:Sd X.K C)(n:RE X.K C f)(he:PE X a (dE X.K F fa))(hN:X.N[i]?=Qs x:=by rfl)(hv:dh X.env.scope x:=by first | exact Or.inl rfl | exact Or.inr (Or.inl rfl) |exact Or.inr (Or.inr rfl))(hd:Sv x:=by decide)
  (R9:Tj x:=by decide) (Wk:attributeBase (.Name x p0) f X.env (eval (.Name x p0) X.env)=eval (.Name x p0) X.env:=by rfl) (Sf:Na [a] X.env=[(Qf,eval a X.env)]:=by rfl)
  (UR:attributeBase (.Attribute (.Name x p0) f p1) "append" X.env (eval (.Attribute (.Name x p0) f p1) X.env)=eval (.Attribute (.Name x p0) f p1) X.env:=by rfl)
  (Wg:((OY R6 (Na [a] X.env)).all (λx=>!x.1)&&(backToKw R6 (keywordEach [] X.env)).all (λx=>x.1.isSome)
   && decide ([a].length+([]:Ql QX).length+(if([]:Ql QX).isEmpty then 0 else 1)<30))=Qt:=by rfl)
  (UP:(apos.endLine == R6.line)=Qt:=by rfl) (Wa:(OY R6 (Na [] X.env)).any (·.1)=Qf:=by rfl)
  (Tv:swapsWith (.Call (.Attribute (.Attribute (.Name x p0) f p1) "append" apos) [a] [] R6) Qn pos.line X.env=pure Qf:=by rfl) :
  PS X (.Expr (.Call (.Attribute (.Attribute (.Name x p0) f p1) "append" apos) [a] [] R6) pos) (dP X.K F I (lh i C f fa)):=by
 refine PS.imp (lV (vT OO O8 O9 sU (kz (dz (i:=i) hN hv hd R9) Wk) (gI he gH Sf) UR Wg UP Sf Wa) Tv) ?_
 rintro E σ H ⟨A,t,t2,R,e,h⟩
 unfold lh at e
 refine aB e λr e1 e=>?_
 replace e:gL t i C f (tK r)=Qs (.nx t2):=e
 obtain⟨ns,ds,j,es,Sk,z1,z2,z3,fl,ek,VA,eo⟩:=tH e
 cases eo
 unfold tK at ek
 refine bZ ek λok ek=>?_
 simp only[MX,SI]at ok
 cases ek
 obtain⟨p,dx,vs,q,ws,a1,a2,a3,a4,a5,a6⟩:=R.Zh z1 z2 z3 fl
 refine⟨_,a1,p,C,dx,_,_,rfl,a2,c,n,a3,.inl ⟨rfl,ws,Rm.of a4⟩,A,t,r,R,e1,λy H1 gs qy=>⟨q,ws,y,rfl,rfl,gs _ _ a4,?_,?_⟩⟩
 .have:ws.length<100000:=by rw[a5.length];exact ok.2
  exact Nb this (by rw[sizeLine_eq];decide)
 .obtain⟨A2,c1,c2⟩:=a6 H1 _ (ws++[y]) gs VA ((QV.mono (cT gs) a5).app (QV.one (Rep.RY (R.mu.mono gs) ok.1 qy.full)))
  exact h _ _ _ c2 c1 λ_ _=>rfl
def Hu(i:Nat) (c:Sd X.K C)(n:RE X.K C f)(he:PE X a (dE X.K F fa))(hN:X.N[i]?=Qs x:=by rfl)(hv:dh X.env.scope x:=by first | exact Or.inl rfl | exact Or.inr (Or.inl rfl) |exact Or.inr (Or.inr rfl))(hd:Sv x:=by decide)
  (R9:Tj x:=by decide):PS X (.AugAssign (.Attribute (.Name x p0) f Tn) .Mult a pos) (dP X.K F I (o7 i C f fa)):=by
 refine PS.imp (G8 (dz (i:=i) hN hv hd R9) he KP) ?_
 rintro E σ H ⟨A,t,t2,R,e,h⟩
 unfold o7 at e
 rcases e1:fa t with _|r
 .rw[e1]at e;cases e
 rw[e1]at e
 replace e:ox t i C f r=Qs (.nx t2):=e
 unfold ox at e
 split at e
 case h_2=>cases e
 rename_i C' ns ds m z1 z2
 replace e:=S0 e
 obtain⟨ok,e⟩:=e
 obtain⟨rfl,hl,hm⟩:=ok
 rcases e2:aW f ns with _|j
 .rw[e2]at e;cases e
 rw[e2]at e
 simp only[MP]at e
 split at e
 case h_2=>cases e
 rename_i v z3
 cases e
 obtain⟨p,dx,vs,a1,a2,a3,a5,a4⟩:=R.Ul z1
 obtain⟨v0,b1,b2⟩:=a5.get z3
 cases cC b2
 refine⟨_,a1,p,C',dx,_,.int v,rfl,a2,c,n,mm e2 b1,A,t,r,R,e1,λy H1 gs q=>?_⟩
 have p1:=q.full
 rw[z2]at p1
 cases cC p1
 obtain⟨A2,c1,c2⟩:=a4 f H1 (.int (v*m)) (.int (v*m)) [] gs NM (λb hb=>nomatch hb) (.flat rfl (.int _))
 exact⟨v,m,rfl,rfl,hm,dx,_,gs _ _ a2,yI hl,h _ _ _ c2 c1 λ_ _=>rfl⟩
end
def kE:Out->Qo D
 |.nx t=>match t[0]? with
  |some (Sl.dp d)=>Qs d
  |_=>Qn
 |_=>Qn
def qK(N:Ql Str)(d:D)(ds:Ql D):Th:=.dp d ::(ds.map Sl.val++M8 (N.length - 1 - ds.length) Sl.no)
def kF(k:Nat)(N:Ql Str)(g:DS):Ql D->Qo D:=λds=>match ds with
 |d::ds=>if ds.length+1=k then(g (qK N d ds)).bind kE else Qn
 |[]=>Qn
inductive VG(K:MK)(G:List D->Option D)(vs:List V)(H:Hp)(Q:VK)(x_:XK):Prop
 |mk (Fo:List U1) (B:List U1) (p:U1) (d:D) (d2:D) (ds:List D) (Tf:List V) (h_0:vs=.ref p::Tf) (h_1:RF H (B++Fo)) (h_2:B.Nodup) (h_3:(∀b∈B,b∉Fo)) (h_4:Rn K (ah (B++Fo) H) H d (.ref p) B) (h_5:QV K (ah (B++Fo) H) ds Tf) (h_6:G (d::ds)=Qs d2) (h_7:∀H' B2,Gr B H B2 H'->B2.Nodup->(∀b∈B2,b∉Fo)->Rn K (ah (B2++Fo) H') H' d2 (.ref p) B2->Q .Ri H')
def ua{mg:Str->Qo M6}{f:U1}{k m:Nat}(Fn:L2.R8 K x qual st f fd)(S:Sr N ps (bp st))(hm:ps.length=m)(g:DS)
  (Vv:∀(Ru:M6) (A:Ol) (outer:Ql Env) (s:M0) (H:Hp) (E:XK) (F:Ql U1),Sh k (A.deeper (envOfC qual (bp st) s.heap.objs.size f Ru)) ->
   RU (jz bz P w K mg base N qual (bp st) f Ru A outer s H E).V4 (fW st) (dP K F [0] g)):RO P w K mg base bz (k+1) f fd ps (VG K (kF m N g)):=by
 refine Fn.ok S (λvs H Q E h=>?_) (λRu A outer s H vs Q E hr h=>?_)
 .obtain⟨Fo,B,p,d,d2,ds,Tf,rfl,_,_,_,_,h2,hg,_⟩:=h
  simp only[kF]at hg
  refine bZ hg λhl hg=>?_
  rw[M9,h2.length,hm];exact hl
 .obtain⟨Fo,B,p,d,d2,ds,Tf,rfl,hl,nd,dj,rd,h2,hg,cont⟩:=h
  simp only[kF]at hg
  replace hg:=S0 hg
  obtain⟨_,hg⟩:=hg
  refine aB hg λo ho hg=>?_
  have hg:kE o=Qs d2:=hg
  cases o with
  |bk t'=>cases hg
  |ct t'=>cases hg
  |rt r'=>cases hg
  |nx t' =>
   simp only[kE]at hg
   split at hg
   case h_2=>cases hg
   rename_i d0 z
   cases hg
   have eA:B++[]=B:=Nt B
   have R0:RS K Fo H B (qK N d ds) (L2.start N (.ref p::Tf)):=by
    refine⟨hl,nd,dj,?_⟩
    unfold qK L2.start
    simp only[M4,OS,M9,h2.length]
    have e:N.length - 1 - ds.length=N.length - (ds.length+1):=by lia
    rw[e]
    have:=Rc.dp rd (Rc.start (K:=K) (H0:=ah (B++Fo) H) (H:=H) (Rc.X0 (N.length - (ds.length+1))) h2)
    rw[eA]at this
    exact this
   refine⟨_,Vv Ru A outer s H E Fo hr,B,qK N d ds,t',R0,ho,λσ' H' A' g' R' n'=>?_⟩
   obtain⟨v,B2,A2,a1,_,nb,_,Xc,_,T4⟩:=R'.Yo z
   have e0:=n' 0 (MS.mpr rfl)
   have es:(L2.start N (.ref p::Tf))[0]?=Qs (Qs (.ref p)):=rfl
   rw[es,a1]at e0
   cases e0
   refine cont H' B2 ⟨g'.kp,g'.al,λb hb=>g'.nw b (T4 b hb)⟩ nb (λb hb=>R'.dj b (T4 b hb)) (Rn.mono (aZ H' λb hb=>?_) Xc λ_ _ _ w=>w)
   rcases ML.mp hb with w | w
   .exact MJ _ (T4 b w)
   .exact MI _ w
structure XJ(P:NA)(w:OX)(K:MK)(mg:Str->Option M6)(base:TL)(C:U1)(m:Str)(k:Nat)(G:List D->Option D):Prop where
 ex:∃(f:U1) (fd:N8) (ps:List Str),Meth K C m f/\L2.Binds K fd ps []/\RO P w K mg base bz k f fd ps (VG K G)
structure zbA(P:NA)(w:OX)(K:MK)(mg:Str->Option M6)(base:TL)(x:Str)(C:U1)(k:Nat)(G:List D->Option D):Prop where
 ex:∃(f:U1) (fd:N8) (ps:List Str),mg x=Qs (.ref C)/\Mk K C f/\L2.Binds K fd ps []/\RO P w K mg base bz k f fd ps (VG K G)
section
variable {C:U1}
def kM(t:Th)(i:Nat)(C:U1)(m:Str)(G:Ql D->Qo D)(rs:Ql Ev):Qo Out:=match t[i]? with
 |some (.dp (.obj C' ns ds))=>if C'=C/\aW m ns=Qn/\RB (rs.map Ev.d)=Qt then(G (.obj C ns ds::rs.map Ev.d)).map λd2=>.nx (t.set i (.dp d2)) else Qn
 |_=>Qn
def ie(i:Nat)(C:U1)(m:Str)(G:Ql D->Qo D)(ga:DA):DS:=λt=>(ga t).bind (kM t i C m G)
def AU{G:Ql D->Qo D}{E:Ends}{E':XK}{t2:Th}(R:RS X.K F H A t σ)(e:ie i C m G ga t=Qs (.nx t2))(h:∀H' A',Gr A H A' H'->RS X.K F H' A' t2 σ->E.nx σ H') :
  qH C m (VG X.K G) [] E' (λσ H Q => ∃v,σ[i]?=Qs (Qs v)/\Q v H) (dA X.K F ga) σ H λ_ H'=>E.nx σ H':=by
 unfold ie at e
 rcases e1:ga t with _|rs
 .rw[e1]at e;cases e
 rw[e1]at e
 replace e:kM t i C m G rs=Qs (.nx t2):=e
 unfold kM at e
 split at e
 case h_2=>cases e
 rename_i C' ns ds z
 replace e:=S0 e
 obtain⟨ok,e⟩:=e
 obtain⟨rfl,hm,fl⟩:=ok
 rcases e2:G (.obj C' ns ds::rs.map Ev.d) with _|d2
 .rw[e2]at e;cases e
 rw[e2]at e
 cases e
 obtain⟨v,B,A',a1,nb,T4,sub,dj,XX,WG,fin⟩:=RS.zbv (Z:=[]) R (λz hz=>nomatch hz) z
 have dj:∀b∈B,b∉A'++F:=dj
 have XX:Rn X.K (ah (A'++(B++F)) H) H (.obj C' ns ds) v B:=XX
 have perm:∀(Q:Ql U1) (H':Hp),QS (ah (A'++(Q++F)) H') (ah (Q++(A'++F)) H'):=λQ H'=>aZ H' λb hb=>by
  simp only[ML]at hb ⊢
  rcases hb with w | w | w<;>simp[w]
 have zcn:∀(Q:Ql U1) (H':Hp),QS (ah (Q++(A'++F)) H') (ah (A'++(Q++F)) H'):=λQ H'=>aZ H' λb hb=>by
  simp only[ML]at hb ⊢
  rcases hb with w | w | w<;>simp[w]
 cases WG with
 |flat f' r=>simp[flat]at f'
 |@obj _ dx _ _ p vs C0 l hp r =>
  refine⟨.ref p,a1,p,dx,_,rfl,hp,wq hm,A,t,rs,R,e1,λus H2 gs q=>?_⟩
  have mA:RF H2 ((p::C0)++(A'++F)):=λb hb=>R.mu.mono gs b (by
   rcases ML.mp hb with w | w
   .exact MJ _ (T4 b w)
   .rcases ML.mp w with w | w
    .exact MJ _ (sub b w)
    .exact MI _ w)
  refine⟨A'++F,p::C0,p,_,d2,rs.map Ev.d,us++[],rfl,mA,nb,dj,Rn.mono ((perm _ H).trans (cT gs)) XX λb _ o w=>gs b o w,?_,e2,λH' B2 gr Xi dj2 Xc=>?_⟩
  .rw[Nt]
   exact QV.RY mA fl q.full
  .have kp:∀b o,b∉p::C0->H b=Qs o->H' b=Qs o:=λb o n w=>gr.kp b o n (gs b o w)
   have nw:∀b∈B2,b∈p::C0\/b∈([]:Ql U1)\/H b=Qn:=λb hb=>(gr.nw b hb).imp id λw=>.inr (QS.free gs w)
   obtain⟨A2,c1,c2⟩:=fin H' d2 B2 (λb o n _ w=>kp b o n w) Xi nw (Rn.mono (zcn _ H') Xc λ_ _ _ w=>w)
   refine h H' A2 ⟨λb o n w=>kp b o (λz=>n (T4 b z)) w,λb hb=>?_,λb hb=>?_⟩ c1
   .by_cases w:b∈p::C0
    .exact gr.al b w
    .obtain⟨o,u⟩:=R.mu b (MJ _ hb)
     rw[kp b _ w u];simp
   .rcases c2 b hb with w | w | w
    .exact .inl w
    .cases w
    .exact .inr w
def Af{k:Nat}{G:Ql D->Qo D}(i:Nat)(cl:Sd X.K C)(cm:XJ X.prog X.w X.K X.mg X.base C m k G)(hr:Sh k X.A)(ha:PA X (a::es) (dA X.K F ga))(hN:X.N[i]?=Qs x:=by rfl)(hv:dh X.env.scope x:=by first | exact Or.inl rfl | exact Or.inr (Or.inl rfl) |exact Or.inr (Or.inr rfl))(hd:Sv x:=by decide)
  (R9:Tj x:=by decide) (Sf:Na (a::es) X.env=(Qf,eval a X.env)::Na es X.env:=by rfl) (SQ:(OY R6 (Na es X.env)).any (·.1)=Qf:=by rfl)
  (ht:eval (.Call (.Attribute (.Name x p0) m apos) (a::es) [] R6) X.env=(do
   let ov <-eval (.Name x p0) X.env
   standAt apos.atName
   let (f,first) <-holding [ov] (getMethod ov m pl)
   callWith R6 f first (OY R6 (Na (a::es) X.env)) (backToKw R6 (keywordEach [] X.env))):=by rfl)
  (Tv:swapsWith (.Call (.Attribute (.Name x p0) m apos) (a::es) [] R6) Qn pos.line X.env=pure Qf:=by rfl) :
  PS X (.Expr (.Call (.Attribute (.Name x p0) m apos) (a::es) [] R6) pos) (dP X.K F I (ie i C m G ga)):=by
 obtain⟨f,fd,ps,h1,h2,h3⟩:=cm.ex
 refine PS.imp (lV (As (pl:=pl) (dz (i:=i) hN hv hd R9) cl h1 h3 hr h2 .nil (E:=E0) jR ha Sf SQ ht) Tv) ?_
 rintro E σ H ⟨A,t,t2,R,e,h⟩
 exact AU R e λH' A' gr R'=>h σ H' A' gr R' λ_ _=>rfl
def Hn{k:Nat}{G:Ql D->Qo D}(i:Nat)(cl:Sd X.K C)(cm:XJ X.prog X.w X.K X.mg X.base C m k G)(hr:Sh k X.A)(hN:X.N[i]?=Qs x:=by rfl)(hv:dh X.env.scope x:=by first | exact Or.inl rfl | exact Or.inr (Or.inl rfl) |exact Or.inr (Or.inr rfl))(hd:Sv x:=by decide)
  (R9:Tj x:=by decide)
  (ht:eval (.Call (.Attribute (.Name x p0) m apos) [] [] R6) X.env=(do
   let ov <-eval (.Name x p0) X.env
   standAt apos.atName
   let (f,first) <-holding [ov] (getMethod ov m pl)
   callWith R6 f first (OY R6 (Na [] X.env)) (backToKw R6 (keywordEach [] X.env))):=by rfl)
  (Tv:swapsWith (.Call (.Attribute (.Name x p0) m apos) [] [] R6) Qn pos.line X.env=pure Qf:=by rfl) :
  PS X (.Expr (.Call (.Attribute (.Name x p0) m apos) [] [] R6) pos) (dP X.K F I (ie i C m G ao)):=by
 obtain⟨f,fd,ps,h1,h2,h3⟩:=cm.ex
 refine PS.imp (lV (Ar (pl:=pl) (dz (i:=i) hN hv hd R9) cl h1 h3 hr h2 .nil (E:=E0) jR ht) Tv) ?_
 rintro E σ H ⟨A,t,t2,R,e,h⟩
 obtain⟨v,a1,p,dx,fs,e1,e2,e3,A2,t3,rs,R2,e4,h4⟩:=AU (E':=E0) R e λH' A' gr R'=>h σ H' A' gr R' λ_ _=>rfl
 cases e4
 exact⟨v,a1,p,dx,fs,e1,e2,e3,h4 [] H (QS.refl H) .nil⟩
def vC (hx:kh g)(h:PS X st (dP X.K F [] g)):PS X st (dS X.K F g):=by
 refine PS.imp h ?_
 rintro E σ H ⟨A,t,o,R,e,k⟩
 obtain⟨t2,rfl⟩:=hx t o e
 exact⟨A,t,t2,R,e,λσ' H' A' gr R' _=>k σ' H' A' gr R'⟩
def vX{G:Ql D->Qo D}:kh (ie i C m G ga):=λt o e=>by
 unfold ie at e
 refine aB e λrs e1 e=>?_
 replace e:kM t i C m G rs=Qs o:=e
 unfold kM at e
 split at e
 case h_2=>cases e
 split at e
 case isFalse=>cases e
 rename_i C' ns ds z ok
 cases e2:G (.obj C ns ds::rs.map Ev.d) with
 |none=>rw[e2]at e;cases e
 |some d2=>rw[e2]at e;cases e;exact⟨_,rfl⟩
def ot(C:U1)(G:Ql D->Qo D):Ql Ev->Qo Ev:=λrs=>if rs.all Ev.ok then(G (.obj C [] []::rs.map Ev.d)).map Ev.dn else Qn
def HP{k:Nat}{G:Ql D->Qo D}{q:Pos}(cn:zbA X.prog X.w X.K X.mg X.base x C k G)(hr:Sh (k+1) X.A)(ha:PA X (a::es) (dA X.K F ga))(hg:Gl X x:=by rfl)(TQ:Sv x:=by decide)
  (he:Na (a::es) X.env=(Qf,eval a X.env)::Na es X.env:=by rfl) (SQ:(OY pos (Na es X.env)).any (·.1)=Qf:=by rfl):PE X (.Call (.Name x q) (a::es) [] pos) (dE X.K F (ai (ot C G) ga)):=by
 obtain⟨f,fd,ps,h1,h2,h3,h4⟩:=cn.ex
 refine PE.imp (Ia h2 h4 hr hg h1 h3 .nil (E:=E0) jR ha TQ he SQ) ?_
 rintro σ H Q ⟨A,t,r,R,e,h⟩
 unfold ai at e
 rcases e1:ga t with _|rs
 .rw[e1]at e;cases e
 rw[e1]at e
 replace e:ot C G rs=Qs r:=e
 unfold ot at e
 replace e:=S0 e
 obtain⟨ok,e⟩:=e
 rcases e2:G (.obj C [] []::rs.map Ev.d) with _|d2
 .rw[e2]at e;cases e
 rw[e2]at e
 cases e
 refine⟨A,t,rs,R,e1,λvs H1 gs q x dx hx hdx ne=>?_⟩
 generalize Ue:L2.upd (L2.upd H1 dx (.own x)) x (.ins C dx [])=H2
 have u0:H2 x=Qs (.ins C dx []):=by rw[<-Ue];exact bF
 have u1:∀b,b≠x->b≠dx->H2 b=H1 b:=λb n n2=>by rw[<-Ue,aN n,aN n2]
 have RZ:QS H1 H2:=λb o w=>by
  rw[u1 b (λz=>by rw[z,hx]at w;cases w) (λz=>by rw[z,hdx]at w;cases w)];exact w
 have g12:=gs.trans RZ
 have m1:=R.mu.mono gs
 have nx:x∉A++F:=dZ m1 hx
 have hx0:H x=Qn:=QS.free gs hx
 have mA:RF H2 ([x]++(A++F)):=λb hb=>by
  rcases ML.mp hb with w | w
  .rw[MS.mp w];exact⟨mI C dx [],u0⟩
  .exact m1.mono RZ b w
 have cl:QV X.K (ah (A++F) H1) (rs.map Ev.d) vs:=q.clean R.mu gs ok
 have nA:QS (ah (A++F) H1) (ah ([x]++(A++F)) H2):=λb o w=>by
  obtain⟨n,w⟩:=cD w
  refine bw (RZ b o w) λz=>?_
  rcases ML.mp z with z | z
  .rw[MS.mp z,hx]at w;cases w
  .exact n z
 refine⟨A++F,[x],x,.obj C [] [],d2,rs.map Ev.d,vs++[],rfl,mA,(by simp),λb hb=>by rw[MS.mp hb];exact nx,.obj (vs:=[]) rfl u0 .nil,by rw[Nt];exact QV.mono nA cl,e2,λH' B2 gr Xi dj2 Xc=>⟨rfl,?_⟩⟩
 refine h (.ref x) H' (λb o w=>gr.kp b o (λz=>by rw[MS.mp z,hx0]at w;cases w) (g12 b o w)) ⟨B2,Xi,λb hb=>?_,Xc⟩
 rcases gr.nw b hb with w | w
 .rw[MS.mp w];exact hx0
 .exact QS.free g12 w
end
end DL
namespace L2
open PySem.Spec TS
def DJ(d:U1)(o:Obj)(ks:Ql Int):It :=
 ⟨λi H=>(∃u,H d=Qs (.SW o u))/\i<ks.length,λi H x H'=>H'=H/\∃b,ks[i]?=Qs b/\x=.int b,λi H=>(∃u,H d=Qs (.SW o u))/\ks.length=i⟩
theorem Ep (d it:U1){o:Obj}{es:Array DictEntry}{ks:Ql Int}(ex:o.ExactDict)(dd:o.data=.dict es ep)(hsz:es.size=ks.length)(hk:∀(i:Nat) (h:i<es.size) (h':i<ks.length),∃t,es[i].key=.int ks[i] t) :
  Turn P w K tg (DJ d o ks) [it] it (λi h=>h.IsKeyIter it d i es.size ep) where
 mem:=by simp
 obj:=λi h st b hb=>by
  have e:b=it:=by simpa using hb
  subst e
  obtain⟨o,e,c,d⟩:=st
  exact⟨o,e,λv z=>by rw[d]at z;cases z⟩
 keep:=λi h h' st k=>Heap.IsKeyIter.at st λo e=>k it (by simp) o e
 item:=by
  intro X hP hw hK hc i pins s σ H E I hf st hg
  subst hP hw hK
  obtain⟨⟨u,hd⟩,hi⟩:=hg
  have ho:s.heap.get? d=Qs o:=(show SJ X.prog X.w H s.heap d (.SW o u) from I.Rw d _ hd).1
  obtain⟨f0,f1,f2,f3,f4,f5⟩:=hf it (by simp)
  refine Gq st ⟨o,ho,ex,dd⟩ (by lia) λh' Q9 sb=>?_
  have I1:Inv X pins σ H { s with heap:=h' }:=I.turned (t':=s.toks) (λb o hb e=>(sb.2 b hb).trans e) f0 f1 f3 f4 f5
  obtain⟨oi,e,c,d⟩:=id Q9
  obtain⟨tk,ek⟩:=hk i (by lia) hi
  exact⟨_,rfl,tV (s:={ s with heap:=h' }) e c d (by decide) ⟨.int ks[i],H,I1,by rw[ek];exact⟨tk,rfl⟩,⟨rfl,ks[i],MR hi,rfl⟩,Q9,λb hb=>(hf b hb).1⟩⟩
 done:=by
  intro X hP hw hK hc i pins s σ H E I hf st hg
  subst hP hw hK
  obtain⟨⟨u,hd⟩,hi⟩:=hg
  have ho:s.heap.get? d=Qs o:=(show SJ X.prog X.w H s.heap d (.SW o u) from I.Rw d _ hd).1
  obtain⟨f0,f1,f2,f3,f4,f5⟩:=hf it (by simp)
  have ei:i=es.size:=by lia
  subst ei
  exact Gs (I.ok.hd hc) st ⟨o,ho,ex,dd⟩ λh' eb=>⟨rfl,I.turned (t':=s.toks) (λb o hb e=>eb b o hb e) f0 f1 f3 f4 f5⟩
 self:=λ_ _ _ _ _ st h=>wpAny_pyIter_keyiter st h
theorem BP{P:NA}{w:OX}:∀{ks:Ql Int}{vs:Ql (aK×M6)}{es:Ql DictEntry},KV (DL.Tu ks) vs->Pairs (fh P w) es vs->es.length=ks.length/\∀(i:Nat) (h:i<es.length) (h':i<ks.length),∃t,es[i].key=.int ks[i] t
 |[],_,_,.nil,.nil=>⟨rfl,λi h=>by simp at h⟩
 |k::ks,_,_,.cons h r,.cons (e:=e) h1 h2 r2=>by
  obtain⟨a,b⟩:=BP (ks:=ks) r r2
  refine⟨by simp[a],λi hi VP=>?_⟩
  cases i with
  |zero =>
   have hh:(Sum.inl k:aK)=_:=h.1
   rw[<-hh,JO]at h1
   have:=Gm h1
   exact this
  |succ i=>exact b i (by simpa using hi) (by simpa using VP)
def K3(tl:TE):TI:=λσ H R=>tl σ H λx H1 => ∃a o ks,x=.ref a/\H1 a=Qs (.SW o (.dK (DL.Tu ks)))/\R (DJ a o ks) H1
theorem HI{l:U3}{tl:TE}(hl:PE X l tl):PI X tg l (K3 tl):=by
 intro pins s σ H R I h
 refine aG (hl pins s σ H _ I h) λv s1 ⟨x,H1,I1,r1,q1⟩=>?_
 obtain⟨a,o,ks,e,hq,q⟩:=q1
 subst e
 cases r1
 obtain⟨e0,_,nm,vs,kv,o',es,ep,e1,ex,d,ko,pr,_⟩:=(show SJ X.prog X.w H1 s1.heap a (.SW o (.dK (DL.Tu ks))) from I1.Rw a _ hq)
 rw[e0]at e1
 cases e1
 obtain⟨sz,ky⟩:=BP kv pr
 refine Gp nm ⟨o,e0,ex,d⟩ ?_
 refine⟨s1.heap.objs.size,[s1.heap.objs.size],_,_,H1,rfl,I1.kept (t':=s1.toks) λb o e=>MV _ e,Ep a _ (ks:=ks) ex d (by simpa using sz) (λi h h'=>?_),⟨_,Nh _ rfl,rfl,rfl⟩,λb hb=>?_,q⟩
 .obtain⟨t,z⟩:=ky i (by simpa using h) h'
  exact⟨t,by simpa using z⟩
 .have e:b=s1.heap.objs.size:=by simpa using hb
  subst e
  exact I1.Wo (MZ _) (I1.Rw.fresh (MZ _))
end L2
namespace DL
open PySem.Spec L2
def oZ(k:D->Th->Qo Th)(f:DE)(body:DS):DS:=λt=>(f t).bind λr=>match r.d with
 |.Rx ks=>bQ k body (ks.map D.int) t
 |_=>Qn
def xP(f:DE):DT:=λt=>(f t).bind λr=>match r.d with
 |.Rx ks=>Qs (!ks.isEmpty)
 |_=>Qn
def GU(ha:PE X a (dE X.K F fa))(he:∀whole,isTrue a X.env whole=(do let v <-whole;standAt a.pos;holding [v] (truthy v)):=by intro _;rfl):PT X a (dT X.K F (xP fa)):=by
 rintro pins s σ H Q I ⟨A,t,k,R,e,h⟩
 unfold xP at e
 rcases e1:fa t with _|r
 .rw[e1]at e;cases e
 rw[e1]at e
 simp only[MP]at e
 split at e
 case h_2=>cases e
 rename_i ks z
 cases e
 refine isTrue_plain (aG (ha pins s σ H (λv H1=>QS H H1/\Rep X.K H1 (.Rx ks) v) I ⟨A,t,r,R,e1,λv H1 gs q=>⟨gs,z ▸ q.full⟩⟩) λv s1 ⟨x,H1,I1,r1,gs,rp⟩=>?_) (he _)
 cases rp with
 |@Rx _ p o h1 =>
  cases r1
  obtain⟨hz,hS,vs,r,m⟩:=xO I1.Rw (.inr ⟨o,h1⟩)
  have hlen:(Tu ks).length=vs.length:=Paired.length r
  have hl:=kH
  refine wpAny_truthy_dict hS m (by lia) ⟨H1,I1.tok _,?_⟩
  rw[BG r]
  have:(!(Tu ks).isEmpty)=!ks.isEmpty:=by cases ks<;>rfl
  rw[this]
  exact h H1 gs
def yU(n:Int):∀ks:Ql Int,(gh (Tu ks) (Sum.inl n)).isSome=ks.contains n
 |[]=>rfl
 |k::ks=>by
  have i:=yU n ks
  unfold Tu at i ⊢
  simp only[M4,List.contains_cons]
  by_cases e:k=n
  .rw[nj (p:=(Sum.inl k,V.bl Qt)) (congrArg Sum.inl e)]
   simp[e]
  .rw[nu (p:=(Sum.inl k,V.bl Qt)) (λz=>e (Sum.inl.inj z)),i]
   have:(n == k)=Qf:=beq_eq_false_iff_ne.mpr λz=>e z.symm
   rw[this,Pe]
def jZ(neg:Bool):Ev->Ev->Qo Ev:=λr1 r2=>match r2.d,r1.d with
 |.Rx ks,.int n=>Qs (.cl (.bl (if neg then !ks.contains n else ks.contains n)))
 |_,_=>Qn
def Jk(hu:X.A.units+64<cLine):SX X F (compareOp .In) (jZ Qf):=by
 intro pins s σ H0 H A x y v u Q r1 r2 r I m g0 rx ry q1 q2 e hq
 unfold jZ at e
 split at e
 case h_2=>cases e
 rename_i ks n z1 z2
 cases e
 have p1:=q1.full
 rw[z2]at p1
 have p2:=q2.full
 rw[z1]at p2
 cases cC p1
 cases p2 with
 |@Rx _ p o h1 =>
  cases(show u=M7 p from ry)
  refine LK (by lia) I (show DR H p (.int n) (gh (Tu ks) (Sum.inl n)) from .inl ⟨_,Sum.inl n,.inr ⟨o,h1⟩,rfl,rfl⟩) rx λs' I'=>?_
  rw[yU]
  exact⟨.bl _,H,I',rfl,hq _ H (QS.refl H) (.bl _)⟩
def i9:Ql aK->Ql D->Qo (Ql Int)
 |[],[]=>Qs []
 |.inl k::ks,.bl Qt::ds=>(i9 ks ds).map (k::·)
 |_,_=>Qn
def y7:∀{ks:Ql aK}{ds:Ql D}{is:Ql Int},i9 ks ds=Qs is->ks=is.map Sum.inl/\ds=is.map λ_=>D.bl Qt
 |[],[],is,e=>by cases e;exact⟨rfl,rfl⟩
 |.inl k::ks,.bl Qt::ds,is,e=>by
  simp only[i9]at e
  rcases e1:i9 ks ds with _|js
  .rw[e1]at e;cases e
  rw[e1]at e
  cases e
  obtain⟨a,b⟩:=y7 e1
  rw[a,b]
  exact⟨rfl,rfl⟩
 |[],_::_,_,e=>by cases e
 |.inl _::_,[],_,e=>by cases e
 |.inr _::_,_,_,e=>by cases e
 |.inl _::_,.bl Qf::_,_,e=>by cases e
 |.inl _::_,.Ri::_,_,e=>by cases e
 |.inl _::_,.int _::_,_,e=>by cases e
 |.inl _::_,.str _::_,_,e=>by cases e
 |.inl _::_,.tup _::_,_,e=>by cases e
 |.inl _::_,.lst _::_,_,e=>by cases e
 |.inl _::_,.RX _ _::_,_,e=>by cases e
 |.inl _::_,.Sw _::_,_,e=>by cases e
 |.inl _::_,.Tx _::_,_,e=>by cases e
 |.inl _::_,.adr _::_,_,e=>by cases e
 |.inl _::_,.obj _ _ _::_,_,e=>by cases e
 |.inl _::_,.Rx _::_,_,e=>by cases e
def oX(i:Nat)(g:DS):DS:=λt=>match t[i]? with
 |some (.dp (.RX ks ds))=>(i9 ks ds).bind λis=>g (t.set i (.val (.Rx is)))
 |_=>Qn
def RS.toK{F:Ql U1}(R:RS K F H A t σ)(e:t[i]?=Qs (.dp (.RX ks ds)))(et:i9 ks ds=Qs is) :
  ∃p,H p=Qs (.dK (Tu is))/\∀o,∃A2,RS K F (L2.upd H p (.SW o (.dK (Tu is)))) A2 (t.set i (.val (.Rx is))) σ/\Gr A H A2 (L2.upd H p (.SW o (.dK (Tu is)))):=by
 obtain⟨rfl,rfl⟩:=y7 et
 obtain⟨v,B,A',a1,R',nb,dj,rd,sub,T4⟩:=R.Yo e
 have hi:i<t.length:=(Nm.mp e).1
 cases rd with
 |flat f r=>simp[flat]at f
 |@RX _ _ p vs C l h r =>
  have sc:(is.map λ_=>D.bl Qt).all aP=Qt:=by simp[aP]
  obtain⟨ev,eC⟩:=vq r sc
  subst eC
  have ek:d4 (is.map Sum.inl) vs=Tu is:=by
   rw[ev]
   unfold d4 Tu
   rw[Nk,List.zip_map', ]
   rfl
  rw[ek]at h
  have pA:p∈A:=T4 p (MN ..)
  have Yx:p∉A':=λz=>R'.dj p z (MJ _ (MN ..))
  have pF:p∉F:=dj p (MN ..)
  refine⟨p,h,λo=>?_⟩
  generalize Ue:L2.upd H p (.SW o (.dK (Tu is)))=H2
  have u1:∀b,b≠p->H2 b=H b:=λb n=>by rw[<-Ue];exact aN n
  have u2:H2 p=Qs (.SW o (.dK (Tu is))):=by rw[<-Ue];exact bF
  have S:QS (ah (A'++([p]++F)) H) (ah (A'++F) H2):=λb o' w=>by
   obtain⟨n,w⟩:=cD w
   have np:b≠p:=λz=>n (by rw[z];simp)
   refine bw (by rw[u1 b np];exact w) λz=>n ?_
   rcases ML.mp z with z | z<;>simp[z]
  have rel:Rc K (ah (A'++F) H2) H2 (t.set i .no) σ A':=Rc.mono S R'.rel λb hb o' w=>by rw[u1 b λz=>Yx (z ▸ hb)];exact w
  have rp:Rep K (ah (A'++F) H2) (.Rx is) (.ref p):=.Rx (bw u2 λz=>(ML.mp z).elim Yx pF)
  have Z3:=Rc.zaf rp rel i (by simp[hi]) a1
  rw[Qx]at Z3
  refine⟨A',⟨λb hb=>?_,R'.nd,λb hb z=>R'.dj b hb (MI _ z),Z3⟩,λb o' n w=>by rw[u1 b λz=>n (z ▸ pA)];exact w,λb hb=>?_,λb hb=>.inl (sub b hb)⟩
  .have np:b≠p:=λz=>by subst z;exact(ML.mp hb).elim Yx pF
   obtain⟨us,w⟩:=R'.mu b (by rcases ML.mp hb with z | z<;>simp[z])
   exact⟨us,by rw[u1 b np];exact w⟩
  .by_cases z:b=p
   .rw[z,u2];simp
   .obtain⟨us,w⟩:=R.mu b (MJ _ hb)
    rw[u1 b z,w];simp
def G3{g:DS}{st:U4}(i:Nat)(h:PS X st (dS X.K F g)):PS X st (dS X.K F (oX i g)):=by
 intro pins s σ H D I q
 obtain⟨A,t,o,R,e,p⟩:=j8 q
 unfold oX at e
 split at e
 case h_2=>cases e
 rename_i ks ds z
 refine aB e λis et e=>?_
 replace e:g (t.set i (.val (.Rx is)))=Qs o:=e
 obtain⟨a,h1,k⟩:=R.toK z et
 have ok:=(show SJ X.prog X.w H s.heap a (.dK (Tu is)) from I.Rw a _ h1)
 obtain⟨ob,ho⟩:∃ob,s.heap.get? a=Qs ob:=by
  obtain⟨_,_,_,_,ob,_,_,e1,_⟩:=id ok
  exact⟨ob,e1⟩
 obtain⟨A2,R2,gr⟩:=k ob
 have I2:Inv X pins σ (L2.upd H a (.SW ob (.dK (Tu is)))) { s with heap:=s.heap,toks:=s.toks }:=I.write (x:=a) (e:=a) (by rw[h1];exact True.intro) (.inl rfl) (λ_ _ _ w=>w) ⟨ob,ho⟩ ⟨ho,ok.Vj (λ_ _ _ w=>w) (λb w=>by rw[aN (sO w h1 λz=>nomatch z)];exact w) (λb xs w=>by rw[aN (sO w h1 λz=>nomatch z)];exact w) λb o' u w=>by rw[aN (sO w h1 λz=>nomatch z)];exact w⟩
 exact h pins s σ _ D I2 (j9 R2 e (p.back gr))
def pR(I:Ql Nat)(g:TG):Prop := ∀x σ H (Q Q':L2.St->Hp->Prop),(∀σ' H',Pn I σ σ'->Q σ' H'->Q' σ' H')->g x σ H Q->g x σ H Q'
def pS(I:Ql Nat)(g:eV):Prop := ∀xs σ H (Q Q':L2.St->Hp->Prop),(∀σ' H',Pn I σ σ'->Q σ' H'->Q' σ' H')->g xs σ H Q->g xs σ H Q'
def tx (h:i∉I):pR I (kU i):=λx σ H Q Q' k q=>k _ _ (λj hj=>Nx λ(z:i=j)=>h (z ▸ hj)) q
def Bz :pS I xt:=λxs σ H Q Q' k q=>⟨q.1,k _ _ (λ_ _=>rfl) q.2⟩
def tD{g:TG}{u:eV}(h1:pR I g)(h2:pS I u):pS I (xw g u):=λxs σ H Q Q' k q=>by
 obtain⟨v,r,e,q⟩:=q
 exact⟨v,r,e,h1 v σ H _ _ (λσ1 H1 p1 q1=>h2 r σ1 H1 Q Q' (λσ2 H2 p2 q2=>k σ2 H2 (λj hj=>(p2 j hj).trans (p1 j hj)) q2) q1) q⟩
def Kk{u:eV}(h2:pS I u):pR I (xp K n u):=λx σ H Q Q' k q=>by
 obtain⟨a,xs,e1,e2,e3,q⟩:=q
 exact⟨a,xs,e1,e2,e3,h2 xs σ H Q Q' k q⟩
def Kl{u:eV}(h2:pS I u):pR I (xu K n u):=λx σ H Q Q' k q=>by
 obtain⟨a,xs,e1,e2,e3,q⟩:=q
 exact⟨a,xs,e1,e2,e3,h2 xs σ H Q Q' k q⟩
section
variable {C:U1}
def Ah(he:PE X a (dE X.K F fa))(hg:PG X tg gt)(ht:c8 X.K F gt kt)(hk:pR I gt)(hs:swapsWithSole [tg] a pos.line X.env=pure Qf:=by rfl)(hw:swappedStores [tg] a X.env=pure Qn:=by rfl)
  (h1:(assignEach [tg] X.env).map (·.2)=[assign tg X.env]:=by rfl):PS X (.Assign [tg] a pos) (dP X.K F I (dv kt fa)):=by
 refine PS.imp (su he hg hs hw h1) ?_
 rintro E σ H ⟨A,t,t2,R,e,h⟩
 unfold dv at e
 refine aB e λr1 e1 e=>?_
 replace e:(if r1.ok then(kt r1.d t).map Out.nx else Qn)=Qs (.nx t2):=e
 refine bZ e λok e=>?_
 rcases e2:kt r1.d t with _|t'
 .rw[e2]at e;cases e
 rw[e2]at e
 cases e
 refine⟨A,t,r1,R,e1,λv H1 gs q=>?_⟩
 have g0:=Gr.of_same R.mu.left gs
 refine hk v σ H1 (λσ2 H2 => ∃A2,Gr A H A2 H2/\RS X.K F H2 A2 t2 σ2) _ (λσ2 H2 pn ⟨A2,g2,R2⟩=>h σ2 H2 A2 g2 R2 pn) ?_
 exact ht σ H1 A t t2 r1.d v _ (R.grow gs) (q.clean R.mu gs ok) e2 λσ2 A2 g2 R2=>⟨A2,g0.trans g2,R2⟩
def Hs{k:Nat}(hk:k∉I)(hx:kh g)(hp:PassesOwn (model X.prog X.w) X.A X.env X.xe)(hc:X.calm=Qt)(hl:PE X a (dE X.K F fa))(hg:PG X tg (kU k))(hb:RU X body (dP X.K F I g))
  (hs:∀x,foldedSetIterable a X.env x=pure x:=by intro _;rfl):PS X (.For tg a body [] pos) (dP X.K F I (oZ (cb k) fa g)):=by
 refine PS.imp (ku hp hc (HI hl) hg hb hs) ?_
 rintro E σ0 H ⟨A,t,t2,R,e,h⟩
 unfold oZ at e
 refine aB e λr e1 e=>?_
 refine⟨A,t,r,R,e1,λv H1 gs q=>?_⟩
 replace e:(match r.d with
  |.Rx ks=>bQ (cb k) g (ks.map D.int) t
  |_=>Qn)=Qs (.nx t2):=e
 split at e
 case h_2=>cases e
 rename_i ks z
 have cl:=q.full
 rw[z]at cl
 have cl:=Rep.RY (R.mu.mono gs) (show flat (.Rx ks)=Qt from rfl) cl
 cases cl with
 |@Rx _ p ob h1 =>
  refine⟨p,ob,ks,rfl,(cD h1).2,?_⟩
  have gr0:Gr A H A H1:=Gr.of_same R.mu.left gs
  have hln:(ks.map D.int).length=ks.length:=by simp
  let W:Nat->Nat->L2.St->Hp->Prop:=λi m σ H'=>i+m=ks.length/\∃A' t',bQ (cb k) g ((ks.map D.int).drop i) t'=Qs (.nx t2)/\RS X.K F H' A' t' σ/\Gr A H A' H'/\Pn I σ0 σ/\ah (A'++F) H' p=Qs (.SW ob (.dK (Tu ks)))
  refine⟨W,⟨ks.length,by lia,A,t,by simpa using e,R.grow gs,gr0,λ_ _=>rfl,h1⟩,?_⟩
  rintro i m σ H' ⟨hm,A',t',e',R',gr,pn,s1⟩
  cases m with
  |zero =>
   have zi:i=(ks.map D.int).length:=by rw[hln];lia
   rw[zi,OG]at e'
   cases e'
   exact .inl ⟨⟨⟨_,(cD s1).2⟩,by lia⟩,h σ H' A' gr R' pn⟩
  |succ m =>
   have hi:i<ks.length:=by lia
   refine .inr ⟨⟨⟨_,(cD s1).2⟩,hi⟩,W (i+1) m,λσ' H' q=>⟨m,NP m,q⟩,λx U0 y=>?_⟩
   obtain⟨y1,n,y2,y3⟩:=y
   subst y1 y3
   have ed:(ks.map D.int).drop i=.int n ::(ks.map D.int).drop (i+1):=by
    rw[NO (by rw[hln];exact hi)]
    have:ks[i]=n:=by
     rw[MR hi]at y2
     exact Ni y2
    simp[this]
   rw[ed]at e'
   simp only[bQ]at e'
   rcases e2:cb k (.int n) t' with _|t1
   .rw[e2]at e';cases e'
   rw[e2]at e'
   simp only[MP]at e'
   obtain⟨A2,US,R2⟩:=R'.put (i:=k) (r:=.cl (.int n)) (QS.refl U0) (.int n) e2
   rcases e3:g t1 with _|o2
   .rw[e3]at e';cases e'
   obtain⟨t4,rfl⟩:=hx t1 o2 e3
   rw[e3]at e'
   have Zd:=gr.trans US
   refine⟨A2,t1,t4,R2,e3,λσ5 H5 A5 g5 R5 n5=>⟨by lia,A5,t4,e',R5,Zd.trans g5,λj hj=>?_,?_⟩⟩
   .rw[n5 j hj,Nx (λ(w:k=j)=>hk (by rw[w];exact hj)),pn j hj]
   .exact(US.trans g5).same _ _ s1
def ju(j:Nat)(Zy:Ql D)(k:Nat)(g:DS):Ql D->Th->Qo Th
 |[],t=>Qs t
 |d::ds,t=>(cb k d t).bind λt1=>match g t1 with
  |some (.nx t')=>(match t'[j]? with
   |some (.own xs)=>if UW xs Zy then ju j Zy k g ds t' else Qn
   |_=>Qn)
  |_=>Qn
def oY(j k:Nat)(g:DS):DS:=λt=>match t[j]? with
 |some (.own xs)=>if xs.all aP then(ju j xs k g xs t).map Out.nx else Qn
 |_=>Qn
def Hr{y:Str}{k:Nat}(hj:j∈I)(hk:k∉I)(hp:PassesOwn (model X.prog X.w) X.A X.env X.xe)(hc:X.calm=Qt)(hg:PG X tg (kU k))(hb:RU X body (dP X.K F I g))
  (hN:X.N[j]?=Qs y:=by rfl) (hv:dh X.env.scope y:=by first | exact Or.inl rfl | exact Or.inr (Or.inl rfl) |exact Or.inr (Or.inr rfl)) (hd:Sv y:=by decide) (R9:Tj y:=by decide)
  (hs:∀x,foldedSetIterable (.Name y p0) X.env x=pure x:=by intro _;rfl):PS X (.For tg (.Name y p0) body [] pos) (dP X.K F I (oY j k g)):=by
 refine PS.imp (ku hp hc (sE (dz (i:=j) hN hv hd R9)) hg hb hs) ?_
 rintro E σ0 H ⟨A,t,t2,R,e,h⟩
 unfold oY at e
 split at e
 case h_2=>cases e
 rename_i xs z
 replace e:=S0 e
 obtain⟨sc,e⟩:=e
 rcases ef:ju j xs k g xs t with _|t3
 .rw[ef]at e;cases e
 rw[ef]at e
 cases e
 obtain⟨p,vs,a1,a2,a3,a4⟩:=R.rel.T7 z
 have ev:=vo a4 sc
 refine⟨.ref p,a1,p,rfl,⟨vs,Rm.of a3⟩,?_⟩
 have st:∀{σ H' A' t'},RS X.K F H' A' t' σ->Pn I σ0 σ->t'[j]?=Qs (.own xs)->H' p=Qs (.lst vs):=λ{σ H' A' t'} R' pn z'=>by
  obtain⟨p',Tf,b1,b2,b3,b4⟩:=R'.rel.T7 z'
  have:=pn j hj
  rw[b1,a1]at this
  cases this
  rw[b3,vo b4 sc,ev]
 have hl:vs.length=xs.length:=a4.length
 let W:Nat->Nat->L2.St->Hp->Prop:=λi m σ H'=>i+m=xs.length/\∃A' t',ju j xs k g (xs.drop i) t'=Qs t2/\t'[j]?=Qs (.own xs)/\RS X.K F H' A' t' σ/\Gr A H A' H'/\Pn I σ0 σ
 refine⟨W,⟨xs.length,by lia,A,t,by simpa using ef,z,R,Gr.refl R.mu.left,λ_ _=>rfl⟩,?_⟩
 rintro i m σ H' ⟨hm,A',t',e',zj,R',gr,pn⟩
 have Y2:=st R' pn zj
 cases m with
 |zero =>
  have zi:i=xs.length:=by lia
  subst zi
  rw[OG]at e'
  cases e'
  exact .inl ⟨⟨vs,Rm.of Y2,by lia⟩,h σ H' A' gr R' pn⟩
 |succ m =>
  have hi:i<xs.length:=by lia
  refine .inr ⟨⟨vs,vs[i]'(by lia),Rm.of Y2,MR (by lia)⟩,W (i+1) m,λσ' H' q=>⟨m,NP m,q⟩,λx U0 y=>?_⟩
  obtain⟨y1,y2⟩:=y
  have zz:=y2 vs (Rm.of Y2)
  subst y1
  obtain⟨d,Uq,rd⟩:=a4.UT zz
  have ed:xs.drop i=d::xs.drop (i+1):=by
   have hd2:xs[i]=d:=by
    rw[MR hi]at Uq
    exact Ni Uq
   rw[<-hd2]
   exact NO hi
  have sd:aP d=Qt:=NJ.mp sc d (Pz Uq)
  rw[ed]at e'
  simp only[ju]at e'
  rcases e2:cb k d t' with _|t1
  .rw[e2]at e';cases e'
  rw[e2]at e'
  simp only[MP]at e'
  obtain⟨A2,US,R2⟩:=R'.put (i:=k) (r:=.cl d) (QS.refl U0) (Gk rd sd _) e2
  split at e'
  case h_2=>cases e'
  rename_i t4 e3
  split at e'
  case h_2=>cases e'
  rename_i xs' z4
  split at e'
  case isFalse=>cases e'
  rename_i eq
  have eq:=zeA.mp eq
  subst eq
  have Zd:=gr.trans US
  refine⟨A2,t1,t4,R2,e3,λσ5 H5 A5 g5 R5 n5=>⟨by lia,A5,t4,e',z4,R5,Zd.trans g5,λl WL=>?_⟩⟩
  rw[n5 l WL,Nx (λ(w:k=l)=>hk (by rw[w];exact WL)),pn l WL]
end
inductive Apt(K:MK)(H0 H:Hp)(vs:List V)(C:List U1)(j1 j2:Nat)(d1 d2:D):Prop
 |mk (v1:_) (v2:_) (B1:_) (B2:_) (h_0:vs[j1]?=Qs v1) (h_1:vs[j2]?=Qs v2) (h_2:Rn K H0 H d1 v1 B1) (h_3:Rn K H0 H d2 v2 B2) (h_4:(∀b∈B1,b∈C)) (h_5:(∀b∈B2,b∈C)) (h_6:∀b∈B1,b∉B2)
def Rg.apart{K:MK}{H0 H:Hp}:∀{ds:Ql D}{vs:Ql V}{C:Ql U1},Rg K H0 H ds vs C->C.Nodup->∀{j1 j2:Nat}{d1 d2:D},j1≠j2->ds[j1]?=Qs d1->ds[j2]?=Qs d2 ->
  Apt K H0 H vs C j1 j2 d1 d2
 |_,_,_,.nil,nd,j1,j2,d1,d2,ne,e1,e2=>by simp at e1
 |_,_,_,.cons (v:=v) (B:=B) (C:=C) h r,nd,0,0,d1,d2,ne,e1,e2=>absurd rfl ne
 |_,_,_,.cons (v:=v) (B:=B) (C:=C) h r,nd,0,j2+1,d1,d2,ne,e1,e2=>by
  simp at e1;subst e1
  have n:=MW.mp nd
  obtain⟨v1,B1,a1,a2,a3,_⟩:=Rg.focus r (j:=j2) (d:=d2) (by simpa using e2)
  exact⟨v,v1,B,B1,rfl,by simpa using a1,h,a2,λb hb=>MJ _ hb,λb hb=>MI _ (a3 b hb),λb hb z=>n.2.2 b hb b (a3 b z) rfl⟩
 |_,_,_,.cons (v:=v) (B:=B) (C:=C) h r,nd,j1+1,0,d1,d2,ne,e1,e2=>by
  simp at e2;subst e2
  have n:=MW.mp nd
  obtain⟨v1,B1,a1,a2,a3,_⟩:=Rg.focus r (j:=j1) (d:=d1) (by simpa using e1)
  exact⟨v1,v,B1,B,by simpa using a1,rfl,a2,h,λb hb=>MI _ (a3 b hb),λb hb=>MJ _ hb,λb hb z=>n.2.2 b z b (a3 b hb) rfl⟩
 |_,_,_,.cons (v:=v) (B:=B) (C:=C) h r,nd,j1+1,j2+1,d1,d2,ne,e1,e2=>by
  have n:=MW.mp nd
  obtain⟨v1,v2,B1,B2,a1,a2,a3,a4,a5,a6,a7⟩:=Rg.apart r n.2.1 (j1:=j1) (j2:=j2) (d1:=d1) (d2:=d2) (λz=>ne (by rw[z])) (by simpa using e1) (by simpa using e2)
  exact⟨v1,v2,B1,B2,by simpa using a1,by simpa using a2,a3,a4,λb hb=>MI _ (a5 b hb),λb hb=>MI _ (a6 b hb),a7⟩
def fZ(m:Int):Ql Int->Ql Int->Qo (Ql Int)
 |[],ws=>Qs ws
 |z::zs,ws=>(Sz ws.length z).bind λl=>(ws[l]?).bind λv=>fZ m zs (ws.set l (v+m))
def g8(σ:L2.St)(k:Nat)(zs:Ql Int):L2.St:=match zs.getLast? with
 |none=>σ
 |some z=>σ.set k (Qs (.int z))
def Kh{k:Nat}{zs:Ql Int}(h:k≠j):(g8 σ k zs)[j]?=σ[j]?:=by
 unfold g8
 split
 .rfl
 .exact Nx h
def Ki{k:Nat}{zs:Ql Int}:(g8 σ k zs).length=σ.length:=by
 unfold g8
 split
 .rfl
 .exact PM
def Kg{k:Nat}{zs:Ql Int}{z:Int}:(g8 σ k zs).set k (Qs (.int z))=g8 σ k (zs++[z]):=by
 unfold g8
 rw[List.getLast?_append]
 simp only[List.getLast?_singleton,Option.some_or]
 split
 .rfl
 .rw[Qx]
def Dx{m:Int}:∀{zs:Ql Int}{z:Int}{ws us ts:Ql Int},fZ m (zs++[z]) ws=Qs ts->fZ m zs ws=Qs us->∃l v,Sz us.length z=Qs l/\us[l]?=Qs v/\ts=us.set l (v+m)
 |[],z,ws,us,ts,e,e2=>by
  cases e2
  simp only[Pc,fZ]at e
  rcases e1:Sz ws.length z with _|l
  .rw[e1]at e;cases e
  rw[e1]at e
  simp only[MP]at e
  cases e3:ws[l]? with
  |none=>rw[e3]at e;cases e
  |some v=>rw[e3]at e;cases e;exact⟨l,v,rfl,e3,rfl⟩
 |y::zs,z,ws,us,ts,e,e2=>by
  simp only[OS,fZ]at e e2
  rcases e1:Sz ws.length y with _|l
  .rw[e1]at e;cases e
  rw[e1]at e e2
  simp only[MP]at e e2
  rcases e3:ws[l]? with _|v
  .rw[e3]at e;cases e
  rw[e3]at e e2
  exact Dx e e2
def Dw{m:Int}:∀{zs ys:Ql Int}{ws ts:Ql Int},fZ m (zs++ys) ws=Qs ts->∃us,fZ m zs ws=Qs us
 |[],ys,ws,ts,e=>⟨ws,rfl⟩
 |y::zs,ys,ws,ts,e=>by
  simp only[OS,fZ]at e ⊢
  rcases e1:Sz ws.length y with _|l
  .rw[e1]at e;cases e
  rw[e1]at e
  simp only[MP]at e ⊢
  rcases e3:ws[l]? with _|v
  .rw[e3]at e;cases e
  rw[e3]at e
  simp only[MP]at e ⊢
  exact Dw e
section
variable {C:U1}{f1 f2:Str}
def tZ(t:Th)(i:Nat):Qo (U1×Ql Str×Ql D):=match t[i]? with
 |some (.dp (.obj C ns ds))=>Qs (C,ns,ds)
 |_=>Qn
def oH(t:Th)(a:Nat):Qo Int:=match t[a]? with
 |some (.val (.int n))=>Qs n
 |_=>Qn
def mB(d:Qo D):Qo (Ql D):=match d with
 |some (.lst xs)=>Qs xs
 |_=>Qn
def Ld{C:U1}(e:tZ t i=Qs (C,ns,ds)):t[i]?=Qs (.dp (.obj C ns ds)):=by
 unfold tZ at e
 split at e
 .rename_i z;cases e;exact z
 .cases e
def Ci{a:Nat}{n:Int}(e:oH t a=Qs n):t[a]?=Qs (.val (.int n)):=by
 unfold oH at e
 split at e
 .rename_i z;cases e;exact z
 .cases e
def xv{d:Qo D}{xs:Ql D}(e:mB d=Qs xs):d=Qs (.lst xs):=by
 unfold mB at e
 split at e
 .cases e;rfl
 .cases e
def xa(t:Th)(k:Nat)(z:Qo Int):Qo Out:=match z with
 |none=>Qs (.nx t)
 |some z=>(cJ t k (.cl (.int z))).map Out.nx
noncomputable def k8(i a k s:Nat)(C:U1)(f1 f2:Str):DS:=λt=>(tZ t i).bind λq=>(oH t a).bind λn=>(oH t s).bind λm=>if q.1=C/\k≠i/\k≠a/\k≠s/\k<t.length then
  (aW f1 q.2.1).bind λj1=>(aW f2 q.2.1).bind λj2=>(mB q.2.2[j1]?).bind λrows=>(mB q.2.2[j2]?).bind λes=>(mB (RP rows n)).bind λxs=>(eD xs).bind λzs=>(eD es).bind λws =>
   if j1≠j2 then(fZ m zs ws).bind λus=>xa (t.set i (.dp (.obj C q.2.1 (q.2.2.set j2 (.lst (us.map D.int)))))) k zs.getLast? else Qn else Qn
def Ho{y1 y2 y3:Str}{p3 p4 p5 p6 p7 p8:Pos}(i a k s:Nat)(c:Sd X.K C)(n1:RE X.K C f1)(n2:RE X.K C f2)(hk:k∉I)(hp:PassesOwn (model X.prog X.w) X.A X.env X.xe)(hc:X.calm=Qt)(hg:PG X tg (kU k))
  (hN0:X.N[i]?=Qs x:=by rfl) (hN1:X.N[a]?=Qs y1:=by rfl) (hN2:X.N[k]?=Qs y2:=by rfl) (hN3:X.N[s]?=Qs y3:=by rfl)
  (hv0:dh X.env.scope x:=by first | exact Or.inl rfl | exact Or.inr (Or.inl rfl) |exact Or.inr (Or.inr rfl)) (hv1:dh X.env.scope y1:=by first | exact Or.inl rfl | exact Or.inr (Or.inl rfl) |exact Or.inr (Or.inr rfl)) (hv2:dh X.env.scope y2:=by first | exact Or.inl rfl | exact Or.inr (Or.inl rfl) |exact Or.inr (Or.inr rfl)) (hv3:dh X.env.scope y3:=by first | exact Or.inl rfl | exact Or.inr (Or.inl rfl) |exact Or.inr (Or.inr rfl))
  (hd0:Sv x:=by decide) (hd1:Sv y1:=by decide) (hd2:Sv y2:=by decide) (hd3:Sv y3:=by decide)
  (hc0:Tj x:=by decide) (Yc:Tj y1:=by decide) (Wi:Tj y2:=by decide) (hc3:Tj y3:=by decide)
  (zd5:attributeBase (.Name x p0) f1 X.env (eval (.Name x p0) X.env)=eval (.Name x p0) X.env:=by rfl) (zd4:attributeBase (.Name x p4) f2 X.env (eval (.Name x p4) X.env)=eval (.Name x p4) X.env:=by rfl)
  (hpx:mX (.Name y1 p2):=by intro _ _;rfl) (ha:∀ov iv new,augStore (.Name y2 p6) ov iv new=(do holding [new,ov,iv] (setItem ov iv new);release [new,ov,iv] [];pure .next):=by intros;rfl)
  (hs:∀z,foldedSetIterable (.Subscript (.Attribute (.Name x p0) f1 p1) (.Name y1 p2) p3) X.env z=pure z:=by intro _;rfl) :
  PS X (.For tg (.Subscript (.Attribute (.Name x p0) f1 p1) (.Name y1 p2) p3) [.AugAssign (.Subscript (.Attribute (.Name x p4) f2 p5) (.Name y2 p6) p7) .Add (.Name y3 p8) pos] [] pos') (dP X.K F I (k8 i a k s C f1 f2)):=by
 refine PS.imp (ku hp hc (sE (nW Xm (kz (dz (i:=i) hN0 hv0 hd0 hc0) zd5) (dz (i:=a) hN1 hv1 hd1 Yc) hpx)) hg (sj (Ae (kz (dz (i:=i) hN0 hv0 hd0 hc0) zd4) (dz (i:=k) hN2 hv2 hd2 Wi) BZ (dz (i:=s) hN3 hv3 hd3 hc3) wR qT ha)) hs) ?_
 rintro E σ0 H ⟨A,t,t2,R,e,h⟩
 refine aB e λq z1 e=>?_
 obtain⟨C',ns,ds⟩:=q
 refine aB e λn z2 e=>?_
 refine aB e λm z3 e=>?_
 refine bZ e λok e=>?_
 obtain⟨rfl,ki,ka,ks,kt⟩:=ok
 refine aB e λj1 ej1 e=>?_
 refine aB e λj2 ej2 e=>?_
 refine aB e λrows Zl e=>?_
 refine aB e λWq Ye e=>?_
 refine aB e λxs er e=>?_
 refine aB e λzs ezs e=>?_
 refine aB e λW2 ews e=>?_
 refine bZ e λjne e=>?_
 refine aB e λus eus e=>?_
 have ef:=e
 repeat clear e
 have e:=ef
 clear ef
 replace z1:=Ld z1
 replace z2:=Ci z2
 replace z3:=Ci z3
 replace Zl:=xv Zl
 replace Ye:=xv Ye
 replace er:=xv er
 have exs:=mw ezs
 have ees:=mw ews
 subst exs ees
 obtain⟨p,dx,vs,q,ws,a1,a2,a3,a4,a5,hl,hvj,⟨C0,rd,nC⟩,a6⟩:=R.zaQ z1 ej2 Ye (Ss _)
 have ew:=je a5
 obtain⟨v1,v2,B1,B2,b1,b2,b3,b4,b5,b6,b7⟩:=rd.apart nC jne Zl Ye
 rw[hvj]at b2
 cases b2
 have qB:q∈B2:=by
  cases b4 with
  |flat f' _=>simp[flat]at f'
  |lst _ _=>exact MN ..
 cases b3 with
 |flat f' _=>simp[flat]at f'
 |@lst _ q1 Zz Cq hq1 Z2 =>
 obtain⟨jr,jr1,jr2⟩:=ym er
 obtain⟨vr,Br,c1,c2,c3,_⟩:=Z2.focus jr2
 cases c2 with
 |flat f' _=>simp[flat]at f'
 |@lst _ qr wr Cr hqr rqr =>
 have q1q:q1≠q:=λz=>b7 q1 (MN ..) (z ▸ qB)
 have qrq:qr≠q:=λz=>b7 qr (MM _ (c3 qr (MN ..))) (z ▸ qB)
 have ewr:wr=zs.map V.int:=je (Rg.fl rqr (Ss _)).1
 subst ewr
 have hat:RP Zz n=Qs (.ref qr):=by unfold L2.RP;rw[Z2.length,jr1];exact c1
 obtain⟨vn,hn1,WK⟩:=R.rel.Wn z2
 cases cC WK
 obtain⟨vm,hm1,hm2⟩:=R.rel.Wn z3
 cases cC hm2
 have pq:p≠q:=λz=>by rw[z,a4]at a2;cases a2
 refine⟨_,a1,p,C',dx,_,_,rfl,a2,c,n1,mm ej1 b1,_,hn1,q1,Zz,n,.ref qr,rfl,rfl,Rm.of hq1,hat,qr,rfl,⟨_,Rm.of hqr⟩,?_⟩
 let W:Nat->Nat->L2.St->Hp->Prop:=λi' m' σ H'=>i' + m'=zs.length/\∃WC,fZ m (zs.take i') W2=Qs WC/\H'=L2.upd H q (.lst (WC.map V.int))/\σ=g8 σ0 k (zs.take i')
 have hH0:L2.upd H q (.lst (W2.map V.int))=H:=by
  funext b
  by_cases z:b=q
  .rw[z,bF,a4,ew]
  .exact aN z
 refine⟨W,⟨zs.length,by lia,W2,rfl,hH0.symm,rfl⟩,?_⟩
 rintro i' m' σ H' ⟨hm,WC,eu,rfl,rfl⟩
 have Y0:L2.upd H q (.lst (WC.map V.int)) qr=Qs (.lst (zs.map V.int)):=by rw[aN qrq];exact hqr
 cases m' with
 |zero =>
  have zi:i'=zs.length:=by lia
  subst zi
  rw[Q4]at eu
  rw[Q4]
  rw[eus]at eu
  cases eu
  refine .inl ⟨⟨_,Rm.of Y0,by simp⟩,?_⟩
  obtain⟨A2,d1,d2⟩:=a6 H (us.map D.int) (us.map V.int) (QS.refl H) (Ss _) (QV.ints us)
  unfold g8
  unfold xa at e
  split at e
  .rename_i el
   try rw[el]
   cases e
   exact h _ _ _ d2 d1 λ_ _=>rfl
  .rename_i z el
   try rw[el]
   rcases Zj:cJ (t.set i (.dp (.obj C' ns (ds.set j2 (.lst (us.map D.int)))))) k (.cl (.int z)) with _|t5
   .rw[Zj]at e;cases e
   rw[Zj]at e
   cases e
   obtain⟨A3,g3,R3⟩:=d1.put (i:=k) (r:=.cl (.int z)) (QS.refl _) (.int z) Zj
   exact h _ _ _ (d2.trans g3) R3 λj hj=>Nx λ(w:k=j)=>hk (w ▸ hj)
 |succ m' =>
  have hi:i' < zs.length:=by lia
  refine .inr ⟨⟨_,.int zs[i'],Rm.of Y0,by rw[Nj,MR hi];rfl⟩,W (i' + 1) m',λσ' H' q=>⟨m',NP m',q⟩,λw U0 y=>?_⟩
  obtain⟨y1,y2⟩:=y
  have zz:=y2 _ (Rm.of Y0)
  subst y1
  rw[Nj,MR hi]at zz
  cases zz
  have et:zs.take (i' + 1)=zs.take i'++[zs[i']]:=by rw[List.take_succ,MR hi];rfl
  obtain⟨ts,ets⟩:∃ts,fZ m (zs.take (i' + 1)) W2=Qs ts:=Dw (ys:=zs.drop (i' + 1)) (by rw[Nz];exact eus)
  obtain⟨l,v,g1,g2,g3⟩:=Dx (by rw[<-et];exact ets) eu
  have s1:∀j,k≠j->((g8 σ0 k (zs.take i')).set k (Qs (.int zs[i'])))[j]?=σ0[j]?:=λj hj=>by rw[Nx hj,Kh hj]
  have kl:k<(g8 σ0 k (zs.take i')).length:=by rw[Ki,R.rel.len];exact kt
  have hp2:L2.upd H q (.lst (WC.map V.int)) p=Qs (.ins C' dx (ns.zip vs)):=by rw[aN pq];exact a2
  refine⟨_,by rw[s1 i ki];exact a1,p,C',dx,_,_,rfl,hp2,c,n2,a3,_,by rw[Oz kl],q,_,zs[i'],.int v,rfl,rfl,Rm.of bF,?_,_,by rw[s1 s ks];exact hm1,v,m,rfl,rfl,q,_,zs[i'],l,rfl,rfl,bF,?_,?_⟩
  .unfold L2.RP
   rw[MY,g1]
   show(WC.map V.int)[l]?=_
   rw[Nj,g2];rfl
  .rw[MY];exact g1
  .refine⟨by lia,ts,ets,?_,?_⟩
   .rw[Ef,g3,Q5]
   .rw[Kg, <-et]
end
def RS.zeo{k:Nat}{C:U1}{rows xs:Ql D}(R:RS K F H A t σ)(ne:k≠i)(e:t[i]?=Qs (.dp (.obj C ns ds)))(ek:t[k]?=Qs (.own xs))(fl:RB xs=Qt)(ef:aW f ns=Qs j)(ed:ds[j]?=Qs (.lst rows)) :
  ∃p dx vs q ws pj,σ[i]?=Qs (Qs (.ref p))/\σ[k]?=Qs (Qs (.ref pj))/\H p=Qs (.ins C dx (ns.zip vs))/\(ns.zip vs).lookup f=Qs (.ref q)/\H q=Qs (.lst ws)/\ws.length=rows.length /\
   ∃A2,RS K F (L2.upd H q (.lst (ws++[.ref pj]))) A2 ((t.set k .no).set i (.dp (.obj C ns (ds.set j (.lst (rows++[.lst xs])))))) σ/\Gr A H A2 (L2.upd H q (.lst (ws++[.ref pj]))):=by
 obtain⟨pj,vj,A1,s1,R1,pF,hpj,rj,ZY,pjA⟩:=R.zbV ek
 have zf:∀z∈[pj],z∉F:=λz hz=>by rw[MS.mp hz];exact pF
 have e':(t.set k .no)[i]?=Qs (.dp (.obj C ns ds)):=by rw[Nx ne];exact e
 obtain⟨p,dx,vs,C0,a1,hp,hl,pA,pC,pZ,nC,UA,rd,fin⟩:=RS.Zg R1 zf e'
 obtain⟨v1,B1,b1,b2,b3,b4,b5⟩:=rd.swap nC ed
 cases b2 with
 |flat f' r=>simp[flat]at f'
 |@lst _ q ws Bq hq rq =>
  have qC:q∈C0:=b3 q (MN ..)
  have qA:q∈A1:=(UA q qC).1
  have qp:p≠q:=λz=>pC (z ▸ qC)
  have jC:pj∉C0:=λz=>(UA pj z).2 (MS.mpr rfl)
  have qj:pj≠q:=λz=>jC (z ▸ qC)
  refine⟨p,dx,vs,q,ws,pj,a1,s1,hp,mm ef b1,hq,rq.length,?_⟩
  generalize Ue:L2.upd H q (.lst (ws++[.ref pj]))=H2
  have u1:∀b,b≠q->H2 b=H b:=λb n=>by rw[<-Ue];exact aN n
  have u2:H2 q=Qs (.lst (ws++[.ref pj])):=by rw[<-Ue];exact bF
  have S1:QS (ah (A1++([pj]++F)) H) (ah (A1++([pj]++F)) H2):=λb o h=>by
   obtain⟨n,h⟩:=cD h
   exact bw (by rw[u1 b λz=>n (z ▸ MJ _ qA)];exact h) n
  have n1:=M3.mp b4
  have rj2:Rn K (ah (A1++([pj]++F)) H2) H2 (.lst xs) (.ref pj) [pj]:=.lst (by rw[u1 pj qj];exact hpj) (Rg.Xe fl (QV.mono S1 rj))
  have rq2:Rg K (ah (A1++([pj]++F)) H2) H2 rows ws Bq:=Rg.mono S1 rq λb hb o h=>by rw[u1 b λz=>n1.1 (z ▸ hb)];exact h
  obtain⟨C',c1,c2,c3⟩:=b5 _ H2 (.lst (rows++[.lst xs])) (.ref q) (q ::(Bq++[pj])) S1 (.lst u2 (Rg.snoc rj2 rq2)) (M3.mpr ⟨λz=>(ML.mp z).elim n1.1 λw=>qj (MS.mp w).symm,MW.mpr ⟨n1.2,by simp,λx hx y hy e=>by
   rw[MS.mp hy]at e
   subst e
   exact jC (b3 _ (MM _ hx))⟩⟩) (λb hb=>by
    rcases MQ.mp hb with z | z
    .exact .inl (z ▸ MN ..)
    .rcases ML.mp z with z | z
     .exact .inl (MM _ z)
     .rw[MS.mp z];exact .inr jC) (λb hb n o h=>by rw[u1 b λz=>n (by rw[z];exact MN ..)];exact h)
  rw[zt b1]at c1
  have T3:∀b∈C',b∈C0\/b∈[pj]:=λb hb=>by
   rcases c3 b hb with z | z
   .rcases MQ.mp z with z | z
    .exact .inl (z ▸ qC)
    .rcases ML.mp z with z | z
     .exact .inl (b3 b (MM _ z))
     .exact .inr z
   .exact .inl z.1
  have sub:QS (ah (A1++([pj]++F)) H2) (ah ((p ::(C0++C'))++(A1++([pj]++F))) H2):=aZ H2 λb hb=>by
   rcases ML.mp hb with z | z
   .rcases MQ.mp z with z | z
    .rw[z];exact MJ _ pA
    .rcases ML.mp z with z | z
     .exact MJ _ (UA b z).1
     .rcases T3 b z with z | z
      .exact MJ _ (UA b z).1
      .exact MI _ (MJ _ z)
   .exact z
  obtain⟨A2,d1,d2⟩:=fin H2 ns vs (ds.set j (.lst (rows++[.lst xs]))) C' (λb o n YF _ h=>by rw[u1 b λz=>YF (z ▸ qC)];exact h) (by rw[u1 p qp];exact hp) hl c2 (λz=>(T3 p z).elim pC pZ) (λb hb=>(T3 b hb).imp id .inl) (Rg.mono sub c1 λ_ _ _ w=>w)
  refine⟨A2,d1,λb o n h=>by rw[u1 b λz=>n (z ▸ ZY q qA)];exact h,λb hb=>?_,λb hb=>?_⟩
  .by_cases z:b=q
   .rw[z,u2];simp
   .obtain⟨o,w⟩:=R.mu b (MJ _ hb)
    rw[u1 b z,w];simp
  .rcases d2 b hb with z | z | z
   .exact .inl (ZY b z)
   .rw[MS.mp z];exact .inl pjA
   .exact .inr z
section
variable {C:U1}
def o6(i k:Nat)(C:U1)(f:Str):DS:=λt=>match t[i]?,t[k]? with
 |some (.dp (.obj C' ns ds)),Qs (.own xs)=>if C'=C/\k≠i/\RB xs=Qt then(aW f ns).bind λj=>match ds[j]? with
  |some (.lst rows)=>if rows.length<100000 then Qs (.nx ((t.set k .no).set i (.dp (.obj C ns (ds.set j (.lst (rows++[.lst xs]))))))) else Qn
  |_=>Qn else Qn
 |_,_=>Qn
def Ht(i k:Nat){y:Str}(c:Sd X.K C)(n:RE X.K C f)(hN:X.N[i]?=Qs x:=by rfl)(hv:dh X.env.scope x:=by first | exact Or.inl rfl | exact Or.inr (Or.inl rfl) |exact Or.inr (Or.inr rfl))(hd:Sv x:=by decide)(R9:Tj x:=by decide)
  (hN':X.N[k]?=Qs y:=by rfl) (YW:dh X.env.scope y:=by first | exact Or.inl rfl | exact Or.inr (Or.inl rfl) |exact Or.inr (Or.inr rfl)) (Uq:Sv y:=by decide) (zdV:Tj y:=by decide)
  (Wk:attributeBase (.Name x p0) f X.env (eval (.Name x p0) X.env)=eval (.Name x p0) X.env:=by rfl) (Sf:Na [.Name y p2] X.env=[(Qf,eval (.Name y p2) X.env)]:=by rfl)
  (UR:attributeBase (.Attribute (.Name x p0) f p1) "append" X.env (eval (.Attribute (.Name x p0) f p1) X.env)=eval (.Attribute (.Name x p0) f p1) X.env:=by rfl)
  (Wg:((OY R6 (Na [.Name y p2] X.env)).all (λx=>!x.1)&&(backToKw R6 (keywordEach [] X.env)).all (λx=>x.1.isSome)
   && decide ([Expr.Name y p2].length+([]:Ql QX).length+(if([]:Ql QX).isEmpty then 0 else 1)<30))=Qt:=by rfl)
  (UP:(apos.endLine == R6.line)=Qt:=by rfl) (Wa:(OY R6 (Na [] X.env)).any (·.1)=Qf:=by rfl)
  (Tv:swapsWith (.Call (.Attribute (.Attribute (.Name x p0) f p1) "append" apos) [.Name y p2] [] R6) Qn pos.line X.env=pure Qf:=by rfl) :
  PS X (.Expr (.Call (.Attribute (.Attribute (.Name x p0) f p1) "append" apos) [.Name y p2] [] R6) pos) (dP X.K F I (o6 i k C f)):=by
 refine PS.imp (lV (vT OO O8 O9 sU (kz (dz (i:=i) hN hv hd R9) Wk) (gI (dz (i:=k) hN' YW Uq zdV) gH Sf) UR Wg UP Sf Wa) Tv) ?_
 rintro E σ H ⟨A,t,t2,R,e,h⟩
 unfold o6 at e
 split at e
 case h_2=>cases e
 rename_i C' ns ds xs z1 z2
 replace e:=S0 e
 obtain⟨ok,e⟩:=e
 obtain⟨rfl,ne,fl⟩:=ok
 rcases e2:aW f ns with _|j
 .rw[e2]at e;cases e
 rw[e2]at e
 simp only[MP]at e
 split at e
 case h_2=>cases e
 rename_i rows z3
 replace e:=S0 e
 obtain⟨hlen,e⟩:=e
 cases e
 obtain⟨p,dx,vs,q,ws,pj,a1,a2,a3,a4,a5,a6,A2,b1,b2⟩:=R.zeo ne z1 z2 fl e2 z3
 refine⟨_,a1,p,C',dx,_,_,rfl,a3,c,n,a4,.inl ⟨rfl,ws,Rm.of a5⟩,_,a2,q,ws,_,rfl,rfl,a5,?_,h _ _ _ b2 b1 λ_ _=>rfl⟩
 exact Nb (show ws.length<100000 by lia) (by rw[sizeLine_eq];decide)
end
end DL
namespace PySem.SeqAt
open PySem.Spec
open MeetsSeq MeetsSeq2 MeetsSeq3
def Us(z:Bool)(e c:Nat->Bool):Ql Nat->Bool
 |[]=>z
 |j::r=>if e j then Us z e c r else c j
theorem JV(l b:U1)(items SG:Array M6)(n n2:Nat)(dd VY:Qo U1)(sl VH:Array (Qo M6))(e c:Nat->Bool)(k:Nat) :
  ∀i:Nat,min items.size SG.size - i=k->i<=min items.size SG.size->Meets (Builtin.«list.__eq__.loop» ⟨[.ref l,.ref b,rawInt i,rawInt 0],[]⟩)
   (λA R s=>s.heap.get? l=Qs { cls:=.type "list",dict:=dd,data:=.seq items n,slots:=sl }/\s.heap.get? b=Qs { cls:=.type "list",dict:=VY,data:=.seq SG n2,slots:=VH } /\
    (∀j (h1:j<items.size) (h2:j<SG.size),EqAt A.in1 s items[j] SG[j] (e j))/\(∀j (h1:j<items.size) (h2:j<SG.size),e j=Qf->DD .Lt A.in1 s items[j] SG[j] (c j)) /\
    R (.ok (.ret (.bool (Us (decide (items.size<SG.size)) e c ((NI (min items.size SG.size)).drop i))))) s):=by
 induction k with
 |zero =>
  intro i hk hi prog w A R s h
  obtain⟨hp,g,d,tk,os⟩:=s;obtain⟨hl,hb,he,VT,h⟩:=h
  have hd:(NI (min items.size SG.size)).drop i=[]:=by simp;lia
  rw[hd]at h
  wp_walk using wpAny_loadPart' hl,wpAny_loadPart' hb
  by_cases h1:i<items.size
  .have h2 : ¬ i<SG.size:=by lia
   have WM:items[((i:Nat):Int).toNat]?=Qs items[i]:=by simp[h1]
   have Wf:SG[((i:Nat):Int).toNat]?=Qn:=by simp;lia
   rw[WM,Wf]
   wp_walk using wpAny_loadPart' hl,wpAny_loadPart' hb
   show R (.ok (.ret (.bool (decide (items.size<SG.size))))) _
   simpa[Us] using h
  .have WM:items[((i:Nat):Int).toNat]?=Qn:=by simp;lia
   rw[WM]
   wp_walk using wpAny_loadPart' hl,wpAny_loadPart' hb
   show R (.ok (.ret (.bool (decide (items.size<SG.size))))) _
   simpa[Us] using h
 |succ k ih =>
  intro i hk hi prog w A R s h
  obtain⟨hp,g,d,tk,os⟩:=s;obtain⟨hl,hb,he,VT,h⟩:=h
  wp_walk using wpAny_loadPart' hl,wpAny_loadPart' hb
  have hm:i<min items.size SG.size:=by lia
  have Vs:i<items.size:=by lia
  have Y5:i<SG.size:=by lia
  have WM:items[((i:Nat):Int).toNat]?=Qs items[i]:=by simp[Vs]
  have Wf:SG[((i:Nat):Int).toNat]?=Qs SG[i]:=by simp[Y5]
  have hd:(NI (min items.size SG.size)).drop i=i ::(NI (min items.size SG.size)).drop (i+1):=by simp[NO,hm]
  have hc:((i:Int)+1)=((i+1:Nat):Int):=by push_cast;rfl
  rw[hd,Us]at h
  rw[WM,Wf]
  refine MT (he i Vs Y5 prog w _ _ ?_)
  cases Vw:e i with
  |true =>
   rw[Vw]at h
   wp_walk
   rw[hc]
   exact⟨plainId_quiet plain_eq_loop _,codeAny_builtin entry_eq_loop (by
    rw[Around.under_plainId plain_eq_loop _]
    exact ih (i+1) (by lia) (by lia) prog w A R _ ⟨hl,hb,he,VT,by simpa using h⟩)⟩
  |false =>
   rw[Vw]at h
   wp_walk using wpAny_loadPart' hl,wpAny_loadPart' hb
   rw[WM,Wf]
   refine MT (VT i Vs Y5 Vw prog w _ _ ?_)
   wp_walk
   simpa using h
theorem zcM(l b:U1)(items SG:Array M6)(n n2:Nat)(dd VY:Qo U1)(sl VH:Array (Qo M6))(e c:Nat->Bool) :
  Meets (Builtin.«list.__lt__» ⟨[.ref l,.ref b],[]⟩)
   (λA R s=>s.heap.get? l=Qs { cls:=.type "list",dict:=dd,data:=.seq items n,slots:=sl }/\s.heap.get? b=Qs { cls:=.type "list",dict:=VY,data:=.seq SG n2,slots:=VH } /\
    (∀j (h1:j<items.size) (h2:j<SG.size),EqAt A.in1 s items[j] SG[j] (e j))/\(∀j (h1:j<items.size) (h2:j<SG.size),e j=Qf->DD .Lt A.in1 s items[j] SG[j] (c j)) /\
    R (.ok (.ret (.bool (Us (decide (items.size<SG.size)) e c (NI (min items.size SG.size)))))) s):=by
 intro prog w A R s h
 obtain⟨hp,g,d,tk,os⟩:=s;obtain⟨hl,hb,he,VT,h⟩:=h
 have f3:=AutoSeq1.sub_list_list
 wp_walk using wpAny_loadPart' hl,wpAny_loadPart' hb
 exact⟨plainId_quiet plain_eq_loop _,codeAny_builtin entry_eq_loop (by
  rw[Around.under_plainId plain_eq_loop _]
  exact JV l b items SG n n2 dd VY sl VH e c _ 0 rfl (OU _) prog w A R _ ⟨hl,hb,he,VT,by simpa using h⟩)⟩
end PySem.SeqAt
namespace TS
def bo:Ql Int->Ql Int->Bool
 |[],[]=>Qf
 |[],_::_=>Qt
 |_::_,[]=>Qf
 |a::as,b::bs=>if a=b then bo as bs else decide (a<b)
theorem mv:∀xs:Ql Int,bo xs xs=Qf
 |[]=>rfl
 |a::as=>by simp only[bo,if_true];exact mv as
theorem tu:∀{xs ys zs:Ql Int},bo xs ys=Qt->bo ys zs=Qt->bo xs zs=Qt
 |[],[],_,h,_=>by cases h
 |[],_::_,[],_,h=>by cases h
 |[],_::_,_::_,_,_=>rfl
 |_::_,[],_,h,_=>by cases h
 |_::_,_::_,[],_,h=>by cases h
 |a::as,b::bs,c::cs,h1,h2=>by
  simp only[bo]at h1 h2 ⊢
  by_cases e1:a=b
  .subst e1
   rw[QO rfl]at h1
   by_cases e2:a=c
   .subst e2
    rw[QO rfl]at h2 ⊢
    exact tu h1 h2
   .rw[QU e2]at h2 ⊢
    exact h2
  .rw[QU e1]at h1
   have l1:a<b:=of_decide_eq_true h1
   by_cases e2:b=c
   .subst e2
    rw[QU e1];exact h1
   .rw[QU e2]at h2
    have l2:b<c:=of_decide_eq_true h2
    rw[QU (by lia)]
    exact RC (by lia)
theorem tw:∀{xs ys:Ql Int},xs≠ys->bo xs ys=Qf->bo ys xs=Qt
 |[],[],n,_=>absurd rfl n
 |[],_::_,_,h=>by cases h
 |_::_,[],_,_=>rfl
 |a::as,b::bs,n,h=>by
  simp only[bo]at h ⊢
  by_cases e:a=b
  .subst e
   rw[QO rfl]at h ⊢
   exact tw (λz=>n (by rw[z])) h
  .rw[QU e]at h
   have l : ¬ a<b:=of_decide_eq_false h
   rw[QU (λz=>e z.symm)]
   exact RC (by lia)
def jc(ls:Ql (Ql Int))(x:Ql Int):Int:=((ls.filter λy=>bo y x).length:Nat)
theorem zD{x y:Ql Int}(h:∀z,bo z x=Qt->bo z y=Qt):∀ls:Ql (Ql Int),(ls.filter λz=>bo z x).length<=(ls.filter λz=>bo z y).length
 |[]=>MZ _
 |l::ls=>by
  have i:=zD h ls
  simp only[Oi]
  cases e1:bo l x with
  |true=>rw[h l e1];simpa using i
  |false =>
   cases e2:bo l y with
   |true=>simp;lia
   |false=>simpa using i
theorem vl{x y:Ql Int}(YU:bo x y=Qt):∀{ls:Ql (Ql Int)},x∈ls->(ls.filter λz=>bo z x).length<(ls.filter λz=>bo z y).length
 |l::ls,m=>by
  have tr:∀z,bo z x=Qt->bo z y=Qt:=λz q=>tu q YU
  simp only[Oi]
  rcases MQ.mp m with e | m
  .subst e
   have i:=zD tr ls
   rw[mv,YU]
   simp
   lia
  .have i:=vl YU m
   cases e1:bo l x with
   |true=>rw[tr l e1];simpa using i
   |false =>
    cases e2:bo l y with
    |true=>simp;lia
    |false=>simpa using i
theorem zE{ls:Ql (Ql Int)}{x y:Ql Int}(mx:x∈ls)(my:y∈ls):decide (jc ls x<jc ls y)=bo x y:=by
 unfold jc
 cases e:bo x y with
 |true =>
  have:=vl e mx
  exact RC (by lia)
 |false =>
  refine Su ?_
  by_cases z:x=y
  .subst z;lia
  .have:=vl (tw z e) my
   lia
theorem Cm{z:Bool}{e c:Nat->Bool}{f:Nat->Nat}:∀l:Ql Nat,SeqAt.Us z e c (l.map f)=SeqAt.Us z (λj=>e (f j)) (λj=>c (f j)) l
 |[]=>rfl
 |j::l=>by simp only[M4,SeqAt.Us,Cm l]
theorem Cn:∀is js:Ql Int,SeqAt.Us (decide (is.length<js.length)) (λj=>decide (is.getD j 0=js.getD j 0)) (λj=>decide (is.getD j 0<js.getD j 0)) (NI (min is.length js.length))=bo is js
 |[],[]=>rfl
 |[],_::_=>by simp[SeqAt.Us,bo]
 |_::_,[]=>by simp[SeqAt.Us,bo]
 |a::as,b::bs=>by
  have i:=Cn as bs
  have hm:min (a::as).length (b::bs).length=min as.length bs.length+1:=by simp only[M9];lia
  rw[hm,List.range_succ_eq_map]
  simp only[SeqAt.Us,Cm,bo]
  have hd:decide ((a::as).length<(b::bs).length)=decide (as.length<bs.length):=decide_eq_decide.mpr (by simp)
  rw[hd]
  simp only[List.getD_cons_zero,List.getD_cons_succ,SI]
  by_cases e:a=b
  .rw[QO e,QO e];exact i
  .rw[QU e,QU e]
def lq(h:U2)(a:U1)(is:Ql Int):Prop := ∃Q7:Ql M6,h.IsList a Q7.toArray/\IntsAre Q7 is
theorem oE:∀{vs:Ql M6}{ns:Ql Int},IntsAre vs ns->∀(j:Nat) (h:j<vs.length),∃t,vs[j]=.int (ns.getD j 0) t
 |_,_,.nil,j,h=>by simp at h
 |_,_,.cons n t r,0,h=>⟨t,rfl⟩
 |_,_,.cons n t r,j+1,h=>by
  obtain⟨t',e⟩:=oE r j (by simpa using h)
  exact⟨t',by simpa using e⟩
theorem oC:∀{vs:Ql M6}{ns:Ql Int},IntsAre vs ns->vs.length=ns.length
 |_,_,.nil=>rfl
 |_,_,.cons n t r=>by simp[oC r]
section
variable {A:Ol}
theorem Lz{b:U1}{js:Ql Int}(hl:lq s.heap l is)(hb:lq s.heap b js)(ne:is≠js)(hu:A.units<cLine)(hlb:l≠b):SeqAt.EqAt A s (.ref l) (.ref b) Qf:=by
 obtain⟨v1,a1,a2⟩:=hl
 obtain⟨v2,b1,b2⟩:=hb
 have l1:=oC a2
 have l2:=oC b2
 refine SeqAt.EqAt.of_refs hlb ?_
 by_cases hz:is.length=js.length
 .have k:=SeqAt.RcAt.lists (A:=A) (e:=λj=>decide (is.getD j 0=js.getD j 0)) a1 b1 (by simp;lia) hu (λj g1 g2=>by
   obtain⟨t1,e1⟩:=oE a2 j (by simpa using g1)
   obtain⟨t2,e2⟩:=oE b2 j (by simpa using g2)
   have VX:v1.toArray[j]=.int (is.getD j 0) t1:=by simpa using e1
   have XB:v2.toArray[j]=.int (js.getD j 0) t2:=by simpa using e2
   rw[VX,XB]
   exact λprog w E Q h=>wpAny_eqBool_int h)
  have:((NI v1.toArray.size).all λj=>decide (is.getD j 0=js.getD j 0))=Qf:=by
   cases q:(NI v1.toArray.size).all λj=>decide (is.getD j 0=js.getD j 0) with
   |false=>rfl
   |true =>
    refine absurd (QZ hz λj h1 h2=>?_) ne
    have:=NJ.mp q j (by simp;lia)
    have:=of_decide_eq_true this
    simpa[M5,MR h1,MR h2] using this
  rw[this]at k
  exact k
 .exact SeqAt.RcAt.lists_lengths a1 b1 (by simp;lia) hu
theorem Iy{b:U1}{js:Ql Int}{Q:Bool->M0->Prop}(hl:lq s.heap l is)(hb:lq s.heap b js)(hu:A.units+2<cLine)(h:Q (bo is js) s):wpAny (model prog w) A (oneLt' Qt (.ref l) (.ref b)) Q E s:=by
 obtain⟨v1,a1,a2⟩:=hl
 obtain⟨v2,b1,b2⟩:=hb
 have l1:=oC a2
 have l2:=oC b2
 rw[<-Cn]at h
 obtain⟨⟨cls,dd,data,sl⟩,ho,Yc,n,hd⟩:=id a1
 obtain⟨⟨zeL,VY,data2,VH⟩,Vr,Wi,n2,hd2⟩:=id b1
 simp only at Yc hd Wi hd2
 subst Yc hd Wi hd2
 have at1:∀j (g1:j<v1.toArray.size),∃t,v1.toArray[j]=.int (is.getD j 0) t:=λj g1=>by
  obtain⟨t,e⟩:=oE a2 j (by simpa using g1)
  exact⟨t,by simpa using e⟩
 have at2:∀j (g1:j<v2.toArray.size),∃t,v2.toArray[j]=.int (js.getD j 0) t:=λj g1=>by
  obtain⟨t,e⟩:=oE b2 j (by simpa using g1)
  exact⟨t,by simpa using e⟩
 rw[oneLt'_eq]
 simp only[if_true]
 refine MT (wpAny_cRoomFor (by lia) ?_)
 refine MT (wpAny_callSpecialIfBound?_slot ⟨_,ho,rfl⟩ F.slot_list_lt (call_meets F.slot_list_lt ⟨_,ho,rfl⟩ F.entry_list_lt (F.args_list_lt_2 _ _) (SeqAt.zcM l b v1.toArray v2.toArray n n2 dd VY sl VH (λj=>decide (is.getD j 0=js.getD j 0)) (λj=>decide (is.getD j 0<js.getD j 0))) ⟨ho,Vr,λj g1 g2=>?_,λj g1 g2 _=>?_,?_⟩))
 .obtain⟨t1,e1⟩:=at1 j g1
  obtain⟨t2,e2⟩:=at2 j g2
  rw[e1,e2]
  exact λprog w E Q h=>wpAny_eqBool_int h
 .obtain⟨t1,e1⟩:=at1 j g1
  obtain⟨t2,e2⟩:=at2 j g2
  rw[e1,e2]
  exact λprog w E Q h=>CmpOf.ints_lt (prog:=prog) (w:=w) (P:=λ(n:Nat) v => ∃t,v=.int (if n=0 then is.getD j 0 else js.getD j 0) t) (λn=>if n=0 then is.getD j 0 else js.getD j 0) (λ_ _ h=>h) 0 1 _ _ _ _ _ ⟨t1,rfl⟩ ⟨t2,rfl⟩ h
 .refine wpAny_truthy_bool ?_
  have z1:v1.toArray.size=is.length:=by simp[l1]
  have z2:v2.toArray.size=js.length:=by simp[l2]
  rw[z1,z2]
  exact h
end
def UE(h:U2)(a:U1)(is:Ql Int):Prop := ∃o l v n,h.get? a=Qs o/\o.cls=.type "tuple"/\o.data=.seq #[.ref l,v] n/\lq h l is
theorem BI:∀{vs:Ql M6}{ns ms:Ql Int},IntsAre vs ns->IntsAre vs ms->ns=ms
 |_,_,_,.nil,.nil=>rfl
 |_,_,_,.cons n t r,.cons _ _ r'=>by rw[BI r r']
theorem J7{js:Ql Int}(a:lq h l is)(b:lq h l js):is=js:=by
 obtain⟨v1,⟨o,e,c,n,d⟩,a2⟩:=a
 obtain⟨v2,⟨o',e',c',n',d'⟩,b2⟩:=b
 rw[e]at e'
 cases e'
 rw[d]at d'
 injection d' with z1 z2
 have:v1=v2:=by simpa using congrArg Qp z1
 subst this
 exact BI a2 b2
theorem UE.off{a b:U1}{bs:Ql U1}(x:UE h b is)(ho:h.get? a=Qs (seqObj "list" (bs.map M7).toArray n))(mb:b∈bs)(k:∀c o,c≠a->h.get? c=Qs o->h'.get? c=Qs o):UE h' b is:=by
 obtain⟨o,l,v,m,e,c,d,Q7,⟨o2,e2,c2,n2,d2⟩,ia⟩:=x
 have nb:b≠a:=λz=>by
  rw[z,ho]at e
  have:(seqObj "list" (bs.map M7).toArray n).cls=.type "tuple":=by rw[Ni e];exact c
  have q:(P9 "list")=.type "tuple":=this
  exact absurd q (by decide +kernel)
 have nl:l≠a:=λz=>by
  rw[z,ho]at e2
  cases Ni e2
  have d2:Data.seq (bs.map M7).toArray n=.seq Q7.toArray n2:=d2
  injection d2 with z1 z2
  have z1:bs.map M7=Q7:=by simpa using congrArg Qp z1
  cases bs with
  |nil=>cases mb
  |cons b0 bs =>
   subst z1
   cases ia
 exact⟨o,l,v,m,k b o nb e,c,d,Q7,⟨o2,k l o2 nl e2,c2,n2,d2⟩,ia⟩
section
variable {A:Ol}
theorem LW{bs:Ql U1}{f:U1->Ql Int}(hb:∀b∈bs,∀c∈bs,b≠c->f b≠f c)(hu:A.units+2<cLine)(hk:∀z∈a₀.toList,∃a,z.1=.ref a/\a∈bs/\UE s.heap a (f a)):Vf (model prog w) A E s (λz=>jc (bs.map f) (f (adr z.1))) (λ_=>0) a₀ (tuples' Qt) where
 lt:=λst x y Q UQ mx my h=>by
  obtain⟨a,ea,ma,o,l,v,n,g,c,d,la⟩:=hk x mx
  obtain⟨b,eb,mb,o',l',v',n',g',c',d',lb⟩:=hk y my
  have ex:f (adr x.1)=f a:=by rw[ea];rfl
  have ey:f (adr y.1)=f b:=by rw[eb];rfl
  rw[ex,ey,zE (OD ma) (OD mb)]at h
  rw[lt'_eq]
  refine N0 (wpS_get ?_)
  rw[UQ,ea,eb]
  by_cases z:a=b
  .subst z
   rw[g]at g'
   cases g'
   rw[d]at d'
   cases d'
   rw[mv]at h
   refine N0 (wpS_lift (wpAny_attempt (Rr g d g d (Qd (SeqAt.EqAt.same _ prog w _ _ (Ra (Qd (SeqAt.EqAt.same _ prog w _ _ (Ra (PySem.W.kat_nil ⟨rfl,?_⟩))))))))))
   simpa using OH h
  .have ne:=hb a ma b mb z
   have ll:l≠l':=λq=>ne (J7 la (q ▸ lb))
   refine N0 (wpS_lift (wpAny_attempt (Rr g d g' d' (Qd (Lz la lb ne (by lia) ll prog w _ _ (PySem.W.kat_no (Iy la lb hu ⟨rfl,?_⟩)))))))
   exact OH h
 pi:=λx _=>⟨Om _,by decide⟩
theorem A7{bs:Ql U1}{f:U1->Ql Int}(arr:Array Oy)(hp:arr.Perm ((bs.map M7).toArray.zip (bs.map M7).toArray))(hr:kg (λz=>jc (bs.map f) (f (adr z.1))) (λ_=>0) arr.toList) :
  ∃out:Ql U1,out.Perm bs/\(out.Pairwise λx y=>bo (f y) (f x)=Qf)/\arr.map (·.2)=(out.map M7).toArray:=by
 have SQ:=OZ.mp hp
 rw[vH]at SQ
 have p1:(arr.toList.map λz=>adr z.2).Perm bs:=by
  have q:=SQ.map λz=>adr z.2
  rw[Nk]at q
  have e:bs.map ((λz:Oy=>adr z.2) ∘ λb=>(M7 b,M7 b))=bs:=by
   rw[show((λz:Oy=>adr z.2) ∘ λb=>(M7 b,M7 b))=id from rfl,Pu]
  rw[e]at q
  exact q
 have each:∀z∈arr.toList,z.1=z.2/\z.2=M7 (adr z.2)/\adr z.2∈bs:=λz hz=>by
  obtain⟨b,m,rfl⟩:=Ny.mp (SQ.mem_iff.mp hz)
  exact⟨rfl,rfl,m⟩
 refine⟨arr.toList.map λz=>adr z.2,p1,?_,?_⟩
 .rw[Pm]
  refine List.Pairwise.imp_of_mem (λ{x y} mx my q=>?_) hr
  obtain⟨x1,_,x3⟩:=each x mx
  obtain⟨y1,_,y3⟩:=each y my
  have q:jc (bs.map f) (f (adr x.1))*1048576+0<=jc (bs.map f) (f (adr y.1))*1048576+0:=q
  rw[x1,y1]at q
  rw[<-zE (OD y3) (OD x3)]
  exact Su (by lia)
 .apply Array.ext'
  rw[Array.toList_map,Nk]
  exact Nw λz hz=>(each z hz).2.1
theorem A6{h:U2}{f:U1->Ql Int}:∀{bs:Ql U1},(∀b∈bs,UE h b (f b))->∃fs:Ql M6,PySem.W.KatTups h (bs.map M7) fs/\fs.length=bs.length/\∀v∈fs,∃l o,v=.ref l/\h.get? l=Qs o/\o.cls=.type "list"
 |[],_=>⟨[],.nil,rfl,λv hv=>by cases hv⟩
 |b::bs,ht=>by
  obtain⟨fs,k,l,r⟩:=A6 (bs:=bs) λx hx=>ht x (MM _ hx)
  obtain⟨o,l1,v1,n,e,c,d,Q7,⟨o2,e2,c2,_⟩,_⟩:=ht b (MN ..)
  refine⟨.ref l1::fs,.cons e c d rfl k,by simp[l],λv hv=>?_⟩
  rcases MQ.mp hv with z | z
  .exact⟨l1,o2,z,e2,c2⟩
  .exact r v z
theorem JX{a:U1}{bs:Ql U1}{f:U1->Ql Int}{P:PySem.Fin->M0->Prop}(ho:s.heap.get? a=Qs (seqObj "list" (bs.map M7).toArray n))(ht:∀b∈bs,UE s.heap b (f b))(hb:∀b∈bs,∀c∈bs,b≠c->f b≠f c)(hu:A.units+2<cLine)(hz:bs.length<64)
  (h:∀out:Ql U1,out.Perm bs->(out.Pairwise λx y=>bo (f y) (f x)=Qf)->P (.done (.ret .none)) { s with heap:=sortedHeap s.heap a (bs.map M7) (out.map M7).toArray }):wpAny (model prog w) A (Builtin.«list.sort» ⟨[.ref a],[]⟩) P E s:=by
 have na:∀b∈bs,b≠a:=λb m z=>by
  obtain⟨o,_,_,_,e,c,_,_⟩:=ht b m
  rw[z,ho]at e
  have:(seqObj "list" (bs.map M7).toArray n).cls=.type "tuple":=by rw[Ni e];exact c
  have q:(P9 "list")=.type "tuple":=this
  exact absurd q (by decide +kernel)
 have lv:(bs.map M7).length=bs.length:=MY ..
 obtain⟨e1,ho1⟩:∃e1,(s.heap.update a (Obj.mapSeq λ_=>(#[]:Array M6))).get? a=Qs (seqObj "list" #[] e1):=⟨_,get?_update_seq ho λ_ => #[]⟩
 have Vr:(((s.heap.update a (Obj.mapSeq λ_=>(#[]:Array M6))).push (seqObj "tuple" (bs.map M7).toArray 0)).push (seqObj "list" #[] 0)).get? a=Qs (seqObj "list" #[] e1):=MV _ (MV _ ho1)
 have X7:∀b∈bs,UE (((s.heap.update a (Obj.mapSeq λ_=>(#[]:Array M6))).push (seqObj "tuple" (bs.map M7).toArray 0)).push (seqObj "list" #[] 0)) b (f b):=λb m=>(ht b m).off ho m λc o nc e=>MV _ (MV _ ((Of _ _ (Ne.symm nc)).trans e))
 rw[list_sort_plain]
 refine MT (listItems_at ho rfl ?_)
 refine MT (listUpdate_at ho rfl ?_ (by rw[Nd,sizeLine_eq];lia) (OU _))
 refine MT (seqEpoch_at ho1 rfl ?_)
 refine MT (wpAny_newTuple ?_ (by show(bs.map M7).length<=_;rw[sizeLine_eq];lia))
 refine MT (wpAny_newList ?_ (OU _))
 refine wpAny_holding ?_
 have hv2:(bs.map M7).toArray.size=bs.length:=by simp
 by_cases h2:(bs.map M7).toArray.size<2
 .rw[QO h2,QO h2]
  refine MT (Nc ?_)
  dsimp only
  rw[StateT.run_pure]
  refine MT (Nc ?_)
  dsimp only
  obtain⟨out,q1,q2,q3⟩:=A7 (f:=f) _ (Array.Perm.refl _) (by
   unfold kg
   rw[vH]
   refine Hj (l:=bs.map λb=>(M7 b,M7 b)) ?_
   rw[MY]
   lia)
  refine MT (seqEpoch_at Vr rfl ?_)
  refine MT (listUpdate_at Vr rfl ?_ (OU _) (by
   show(((bs.map M7).toArray.zip (bs.map M7).toArray).map (·.2)).size<=_
   rw[Rt,sx,sizeLine_eq];lia))
  simp only[bne_self_eq_false,Nq,if_false]
  have:=h out q1 q2
  rw[<-q3]at this
  exact Nc this
 .rw[QU h2,QU h2]
  obtain⟨fs,kt,fl,fi⟩:=A6 X7
  refine MT (PySem.W.kat_kind (T:=.type "list") kt (by lia) (λv hv=>?_) (by decide) ?_)
  .obtain⟨l,o,rfl,e1,e2⟩:=fi v hv
   exact PySem.W.kitAt_ty _ _ ⟨o,e1,e2⟩
  rw[show(P9 "list" != P9 "tuple")=Qt by decide]
  have C:Vf (model prog w) A E { s with heap:=((s.heap.update a (Obj.mapSeq λ_=>(#[]:Array M6))).push (seqObj "tuple" (bs.map M7).toArray 0)).push (seqObj "list" #[] 0) } (λz=>jc (bs.map f) (f (adr z.1))) (λ_=>0) ((bs.map M7).toArray.zip (bs.map M7).toArray) (tuples' Qt):=LW hb hu λz V8=>by
   rw[vH]at V8
   obtain⟨b,m,rfl⟩:=Ny.mp V8
   exact⟨b,rfl,m,X7 b m⟩
  dsimp only
  refine MT (wpAny_mono (D2 C (st:=SortSt.mk' (tuples' Qt) ((bs.map M7).toArray.zip (bs.map M7).toArray) #[] 7 Qn) (Q:=λ_ Q9=>TB ((bs.map M7).toArray.zip (bs.map M7).toArray) (tuples' Qt) Q9/\kg (λz=>jc (bs.map f) (f (adr z.1))) (λ_=>0) (NV Q9).toList) ⟨Array.Perm.refl _,rfl,rfl⟩ rfl rfl (List.pairwise_of_forall (λ_ _=>Om _)) (by rw[sx];lia) (by rw[sx];lia) λQ9 a b=>⟨a,b⟩) ?_ λ_ _ e=>e)
  rintro⟨⟨⟩,Q9⟩ s' ⟨rfl,tb,rs⟩
  obtain⟨out,q1,q2,q3⟩:=A7 (f:=f) (NV Q9) tb.pm rs
  dsimp only at tb rs ⊢
  refine MT (seqEpoch_at Vr rfl ?_)
  refine MT (listUpdate_at Vr rfl ?_ (OU _) (by
   show((NV Q9).map (·.2)).size<=_
   rw[Rt,tb.pm.size_eq,sx,sizeLine_eq];lia))
  rw[tb.fld]
  simp only[bne_self_eq_false,Nq,if_false]
  have:=h out q1 q2
  rw[<-q3]at this
  exact Nc this
end
section
variable {A:Ol}
theorem LU{o:Obj}{items:Array M6}{R:Ql M6->M0->Prop}(ho:s.heap.get? p=Qs o)(hc:o.cls=.type "list")(hd:o.data=.seq items n)(hsz:items.size<=Nn)
  (h:∀(h':U2),(∀b o,s.heap.get? b=Qs o->h'.get? b=Qs o)->s.heap.objs.size<=h'.objs.size->R items.toList { s with heap:=h' }) :
  wpAny (model prog w) A (collect (.ref p)) R E s:=by
 unfold collect
 refine MT (wpAny_runValue (codeAny_builtin entry_proto_collect' ?_))
 rw[Around.under_plainId PySem.F.plain_proto_collect _]
 show wpAny _ A.in1 (newList [] >>= λl=>again (.builtin "list.__iadd__" ⟨[l,.ref p],[]⟩)) _ _ s
 refine MT (wpAny_newObj_type ?_)
 refine Nc ⟨plainId_quiet P7 _,codeAny_builtin entry_list_iadd' ?_⟩
 rw[Around.under_plainId P7 _]
 have g0:(s.heap.push { cls:=.type "list",data:=.seq ([]:Ql M6).toArray }).get? s.heap.objs.size=Qs { cls:=.type "list",data:=.seq #[] 0 }:=Nh _ rfl
 have g1:=Po (Obj.mapSeq (·++items)) g0 rfl
 have key:=wpAny_extend_seq (hsz:=hsz) (A:=A) (prog:=prog) (w:=w) (s:={ s with heap:=s.heap.push { cls:=.type "list",data:=.seq ([]:Ql M6).toArray } })
  (R:=λ(q:Result) (s':M0) => ∃(h':U2) (ob:Obj) (m:Nat),q=.ok (.ret (.ref s.heap.objs.size))/\s'={ s with heap:=h' } /\
   (∀b o,s.heap.get? b=Qs o->h'.get? b=Qs o)/\s.heap.objs.size<=h'.objs.size/\h'.get? s.heap.objs.size=Qs ob/\ob.data=.seq (#[]++items) m)
  s.heap.objs.size p (.ref s.heap.objs.size) 0 (.inl rfl) g0 (MV _ ho) hc hd
  ⟨_,_,_,rfl,rfl,λb o e=>(Of _ _ (Py (Nf e))).trans (MV _ e),Px (Nf g1),g1,rfl⟩
 show wpAny _ A.in1 (Builtin.List.listExtendWith (.ref s.heap.objs.size) (.ref p) (.ref s.heap.objs.size)) _ _ _
 have zaR:∀(h':U2) (ob:Obj) (m:Nat),(∀b o,s.heap.get? b=Qs o->h'.get? b=Qs o)->s.heap.objs.size<=h'.objs.size->h'.get? s.heap.objs.size=Qs ob->ob.data=.seq (#[]++items) m->wpAny (model prog w) A (load s.heap.objs.size >>= λo=>match o.data with
   |Data.seq xs _=>pure xs.toList
   |_=>unsupported "internal:collect") R E { s with heap:=h' }:=λh' ob m hk hz hS d=>by
  refine MT (wpAny_load hS ?_)
  rw[d]
  refine Nc ?_
  have:=h h' hk hz
  simpa using this
 refine wpAny_mono key (λfin s' y=>?_) λe s' y=>?_
 .cases fin with
  |done f =>
   obtain⟨h',ob,m,e,rfl,hk,V8,Zb,d⟩:=y
   cases e
   exact zaR h' ob m hk V8 Zb d
  |again c₁ =>
   refine⟨y.1,codeAny_mono y.2 λq s₂ z=>?_⟩
   obtain⟨h',ob,m,rfl,rfl,hk,V8,Zb,d⟩:=z
   exact zaR h' ob m hk V8 Zb d
 .obtain⟨_,_,_,e',_⟩:=y
  cases e'
end
end TS
namespace L2
open PySem.Spec TS
theorem zI:∀out:Ql U1,Vals (out.map V.ref) (out.map M7)
 |[]=>.nil
 |a::out=>.cons rfl (zI out)
theorem yR:∀{bs:Ql U1}{us:Ql M6},Vals (bs.map V.ref) us->us=bs.map M7
 |[],_,.nil=>rfl
 |b::bs,_,.cons h r=>by cases h;rw[yR r];rfl
def DH(K:MK)(H:Hp)(b:U1)(is:Ql Int):Prop := ∃l v,H b=Qs (.tup [.ref l,v])/\Rm K H l (is.map V.int)
theorem JF (I:Inv X pins σ H s){b:U1}(h:DH X.K H b is):UE s.heap b is:=by
 obtain⟨l,v,hb,hl⟩:=h
 obtain⟨_,Q7,rv,o,e,c,d⟩:=(show SJ X.prog X.w H s.heap b (.tup [.ref l,v]) from I.Rw b _ hb)
 obtain⟨zcU,rv2,pl,_⟩:=I.list hl
 cases rv with
 |cons r1 rv =>
  cases rv with
  |cons r2 rv =>
   cases rv
   cases r1
   obtain⟨n,d⟩:=d
   exact⟨o,l,_,n,e,c,d,zcU,DL.PlainL.Tt pl,wV rv2⟩
theorem UE.keep{b:U1}(x:UE h b is)(k:∀c o,h.get? c=Qs o->h'.get? c=Qs o):UE h' b is:=by
 obtain⟨o,l,v,m,e,c,d,Q7,⟨o2,e2,c2⟩,ia⟩:=x
 exact⟨o,l,v,m,k b o e,c,d,Q7,⟨o2,k l o2 e2,c2⟩,ia⟩
theorem L3(hu:X.A.units+64<cLine)(hc:X.calm=Qt):iu X (.builtin "sorted") (λxs H Q => ∃(p:U1) (bs:Ql U1) (f:U1->Ql Int),xs=[.ref p]/\Rm X.K H p (bs.map V.ref)/\bs.length<64/\(∀b∈bs,DH X.K H b (f b))/\(∀b∈bs,∀c∈bs,b≠c->f b≠f c) /\
  ∀l (out:Ql U1),H l=Qn->out.Perm bs->(out.Pairwise λx y=>bo (f y) (f x)=Qf)->Q (.ref l) (upd H l (.lst (out.map V.ref)))):=by
 intro pins s σ H xs us Q I r h
 obtain⟨p,bs,f,rfl,hp,hb,hm,hd,q⟩:=h
 obtain⟨u,rfl,ru⟩:=lK r
 cases ru
 obtain⟨Q7,rv,pl,_⟩:=I.list hp
 have ei:=yR rv
 subst ei
 refine Fj (P:=λus=>us=bs.map M7) (args_sorted1 _) (λ_=>args_list_sort _) (λR hR=>?_) (λh' tk us hk hz YX hlen=>?_)
 .obtain⟨o,e,c,n,d⟩:=DL.PlainL.Tt pl
  refine LU e c d (by rw[Nd,MY,sizeLine_eq];lia) (λh' hk hz=>?_)
  have:=hR h' s.toks (bs.map M7) hk hz rfl (by rw[MY];lia)
  simpa using this
 .subst YX
  refine JX (s:={ s with heap:=h'.push (seqObj "list" (bs.map M7).toArray 0),toks:=tk }) (f:=f) (Nh _ rfl) (λb m=>UE.keep (JF I (hm b m)) λc o z=>MV _ (hk c o z)) hd (by show X.A.units+1+1+2<cLine;lia) (by lia) λout po pf=>⟨rfl,?_⟩
  have fr:s.heap.objs.size<=h'.objs.size:=hz
  have g0:(h'.push (seqObj "list" (bs.map M7).toArray 0)).get? h'.objs.size=Qs (seqObj "list" (bs.map M7).toArray 0):=Nh _ rfl
  obtain⟨e1,g1⟩:∃e1,((h'.push (seqObj "list" (bs.map M7).toArray 0)).update h'.objs.size (Obj.mapSeq λ_=>(#[]:Array M6))).get? h'.objs.size=Qs (seqObj "list" #[] e1):=⟨_,get?_update_seq g0 λ_ => #[]⟩
  obtain⟨k,g2⟩:∃k,(sortedHeap (h'.push (seqObj "list" (bs.map M7).toArray 0)) h'.objs.size (bs.map M7) (out.map M7).toArray).get? h'.objs.size=Qs (seqObj "list" (out.map M7).toArray k):=⟨_,get?_update_seq (MV _ (MV _ g1)) λ_=>(out.map M7).toArray⟩
  have ol:out.length<64:=by rw[po.length_eq];lia
  refine⟨.ref _,_,I.laid (o:=HO.lst (out.map V.ref)) (λb o e=>?_) fr ⟨?_,out.map M7,k,zI out,by simpa[seqObj] using g2⟩,rfl,q _ out (I.Rw.fresh fr) po pf⟩
  .have e2:=hk b o e
   have nb:h'.objs.size≠b:=Py (Nf e2)
   unfold sortedHeap
   exact(Of _ _ nb).trans (MV _ (MV _ ((Of _ _ nb).trans (MV _ e2))))
  .refine DL.Uy ?_
   rw[MY];lia
end L2
namespace DL
open PySem.Spec L2 TS
def jl{α:Type}(x:Ql Int×α):Ql (Ql Int×α)->Ql (Ql Int×α)
 |[]=>[x]
 |y::ys=>if bo y.1 x.1 then y::jl x ys else x::y::ys
def fL{α:Type}:Ql (Ql Int×α)->Ql (Ql Int×α)
 |[]=>[]
 |x::xs=>jl x (fL xs)
def wX{α:Type}(x:Ql Int×α):∀ys:Ql (Ql Int×α),(jl x ys).Perm (x::ys)
 |[]=>OV _
 |y::ys=>by
  unfold jl
  split
  .exact((wX x ys).cons y).trans (Rp x y ys)
  .exact OV _
def nH{α:Type}:∀xs:Ql (Ql Int×α),(fL xs).Perm xs
 |[]=>OV _
 |x::xs=>(wX x _).trans ((nH xs).cons x)
def yz{α:Type}(xs:Ql (Ql Int×α)):Prop:=xs.Pairwise λx y=>bo y.1 x.1=Qf
def Ka{x y:Ql Int}(h:bo x y=Qt):bo y x=Qf:=by
 cases e:bo y x with
 |false=>rfl
 |true=>have:=tu h e;rw[mv]at this;cases this
def J9{x y z:Ql Int}(h1:bo y x=Qf)(h2:bo z y=Qf):bo z x=Qf:=by
 cases e:bo z x with
 |false=>rfl
 |true =>
  by_cases q:x=y
  .subst q;rw[e]at h2;cases h2
  .have:=tw (λw=>q w.symm) h1
   rw[tu e this]at h2;cases h2
def BL{α:Type}(x:Ql Int×α):∀{ys:Ql (Ql Int×α)},yz ys->yz (jl x ys)
 |[],_=>OQ _ _
 |y::ys,h=>by
  have h':=NS.mp h
  unfold jl
  split
  .rename_i c
   refine NS.mpr ⟨λz hz=>?_,BL x h'.2⟩
   rcases MQ.mp ((wX x ys).mem_iff.mp hz) with e | m
   .rw[e];exact Ka c
   .exact h'.1 z m
  .rename_i c
   have c:bo y.1 x.1=Qf:=by simpa using c
   refine NS.mpr ⟨λz hz=>?_,h⟩
   rcases MQ.mp hz with e | m
   .rw[e];exact c
   .exact J9 c (h'.1 z m)
def zm{α:Type}:∀xs:Ql (Ql Int×α),yz (fL xs)
 |[]=>List.Pairwise.nil
 |x::xs=>BL x (zm xs)
def zF{α:Type}{f:α->Ql Int}:∀{xs ys:Ql α},xs.Perm ys->(∀a∈xs,∀b∈xs,f a=f b->a=b)->(xs.Pairwise λx y=>bo (f y) (f x)=Qf)->(ys.Pairwise λx y=>bo (f y) (f x)=Qf)->xs=ys
 |[],ys,p,_,_,_=>by rw[List.nil_perm.mp p]
 |x::xs,[],p,_,_,_=>absurd p.length_eq (by simp)
 |x::xs,y::ys,p,inj,h1,h2=>by
  have c1:=NS.mp h1
  have c2:=NS.mp h2
  have m1:x∈y::ys:=p.mem_iff.mp (MN ..)
  have m2:y∈x::xs:=p.mem_iff.mpr (MN ..)
  have e:x=y:=by
   have a1:bo (f x) (f y)=Qf:=by
    rcases MQ.mp m1 with z | z
    .rw[z];exact mv _
    .exact c2.1 x z
   have a2:bo (f y) (f x)=Qf:=by
    rcases MQ.mp m2 with z | z
    .rw[z];exact mv _
    .exact c1.1 y z
   refine inj x (MN ..) y m2 ?_
   by_cases q:f x=f y
   .exact q
   .have:=tw q a1;rw[a2]at this;cases this
  subst e
  rw[zF (QK p) (λa ha b hb=>inj a (MM _ ha) b (MM _ hb)) c1.2 c2.2]
def Rg.perm{ps qs:Ql (D×V)}(p:ps.Perm qs):∀{C:Ql U1},Rg K H0 H (ps.map (·.1)) (ps.map (·.2)) C->∃C',C'.Perm C/\Rg K H0 H (qs.map (·.1)) (qs.map (·.2)) C':=by
 induction p with
 |nil=>intro C h;exact⟨C,OV _,h⟩
 |@cons x l1 l2 _ ih =>
  intro C h
  cases h with
  |cons a r =>
   obtain⟨C',p',r'⟩:=ih r
   exact⟨_,p'.append_left _,.cons a r'⟩
 |@swap x y l =>
  intro C h
  cases h with
  |cons a r =>
   cases r with
   |cons b r =>
    refine⟨_,?_,.cons b (.cons a r)⟩
    rw[<-Nv, <-Nv]
    exact List.perm_append_comm.append_right _
 |trans _ _ ih1 ih2 =>
  intro C h
  obtain⟨C1,p1,r1⟩:=ih1 h
  obtain⟨C2,p2,r2⟩:=ih2 r1
  exact⟨C2,p2.trans p1,r2⟩
def mh:D->Qo (Ql Int)
 |.tup [.lst xs,_]=>eD xs
 |_=>Qn
def ji:Ql D->Qo (Ql (Ql Int×D))
 |[]=>Qs []
 |d::ds=>(mh d).bind λk=>(ji ds).map λr=>(k,d)::r
def lM:Ql (Ql Int×D)->Bool
 |[]=>Qt
 |x::xs=>xs.all (λy=>decide (y.1≠x.1))&&lM xs
def tF:Ql Ev->Qo Ev:=λrs=>match rs with
 |[.dn (.lst ds)]=>(ji ds).bind λks=>if lM ks&&decide (ks.length<64) then Qs (.dn (.lst ((fL ks).map (·.2)))) else Qn
 |_=>Qn
def AX:∀{ds:Ql D}{ks:Ql (Ql Int×D)},ji ds=Qs ks->ds=ks.map (·.2)/\∀x∈ks,mh x.2=Qs x.1
 |[],ks,e=>by cases e;exact⟨rfl,λx hx=>nomatch hx⟩
 |d::ds,ks,e=>by
  simp only[ji]at e
  rcases e1:mh d with _|k
  .rw[e1]at e;cases e
  rw[e1]at e
  simp only[MP]at e
  rcases e2:ji ds with _|r
  .rw[e2]at e;cases e
  rw[e2]at e
  cases e
  obtain⟨a,b⟩:=AX e2
  refine⟨by rw[a];rfl,λx hx=>?_⟩
  rcases MQ.mp hx with z | z
  .rw[z];exact e1
  .exact b x z
def yW:∀{ks:Ql (Ql Int×D)},lM ks=Qt->(ks.map (·.1)).Nodup
 |[],_=>NM
 |x::xs,h=>by
  simp only[lM,MX,NJ,SI]at h
  exact M3.mpr ⟨λm=>by
   obtain⟨y,hy,e⟩:=Ny.mp m
   exact h.1 y hy e,yW h.2⟩
def BM{α β:Type}(g:α->β)(x:Ql Int×α):∀ys:Ql (Ql Int×α),jl (x.1,g x.2) (ys.map λw=>(w.1,g w.2))=(jl x ys).map λw=>(w.1,g w.2)
 |[]=>rfl
 |y::ys=>by
  simp only[M4,jl]
  split
  .rw[BM g x ys];rfl
  .rfl
def nI{α β:Type}(g:α->β):∀xs:Ql (Ql Int×α),fL (xs.map λw=>(w.1,g w.2))=(fL xs).map λw=>(w.1,g w.2)
 |[]=>rfl
 |x::xs=>by
  simp only[M4,fL]
  rw[nI g xs]
  exact BM g x _
def AM{α β:Type}{g:α->β}:∀{xs:Ql α},(xs.map g).Nodup->∀a∈xs,∀b∈xs,g a=g b->a=b
 |[],_,a,ha,_,_,_=>nomatch ha
 |x::xs,h,a,ha,b,hb,e=>by
  have n:=M3.mp h
  rcases MQ.mp ha with p | p
  .rcases MQ.mp hb with q | q
   .rw[p,q]
   .rw[p]at e;exact absurd (e ▸ OD q) n.1
  .rcases MQ.mp hb with q | q
   .rw[q]at e;exact absurd (e ▸ OD p) n.1
   .exact AM n.2 a p b q e
def XH(H:Hp)(b:U1)(is:Ql Int):Prop := ∃l v,H b=Qs (.tup [.ref l,v])/\H l=Qs (.lst (is.map V.int))
def BJ:∀{is js:Ql Int},is.map V.int=js.map V.int->is=js
 |[],[],_=>rfl
 |[],_::_,h=>by cases h
 |_::_,[],h=>by cases h
 |i::is,j::js,h=>by
  simp only[M4,List.cons.injEq]at h
  cases h.1
  rw[BJ h.2]
def XH.uniq{b:U1}{js:Ql Int}(x:XH H b is)(y:XH H b js):is=js:=by
 obtain⟨l,v,a1,a2⟩:=x
 obtain⟨l',v',b1,b2⟩:=y
 rw[a1]at b1
 cases b1
 rw[a2]at b2
 have:is.map V.int=js.map V.int:=by injection Ni b2
 exact BJ this
def AV{K:MK}{H0 H:Hp}(hs:QS H0 H):∀{ks:Ql (Ql Int×D)}{vs:Ql V}{C:Ql U1},Rg K H0 H (ks.map (·.2)) vs C->(∀x∈ks,mh x.2=Qs x.1)->∃zs:Ql ((Ql Int×D)×U1),zs.map (·.1)=ks/\vs=zs.map (λz=>V.ref z.2)/\∀z∈zs,XH H z.2 z.1.1
 |[],_,_,.nil,_=>⟨[],rfl,rfl,λz hz=>nomatch hz⟩
 |k::ks,_,_,.cons (v:=v) h r,hk=>by
  obtain⟨zs,e1,e2,e3⟩:=AV hs r λx hx=>hk x (MM _ hx)
  have ek:=hk k (MN ..)
  obtain⟨kk,d⟩:=k
  have ek:mh d=Qs kk:=ek
  have h:Rn K H0 H d v _:=h
  unfold mh at ek
  split at ek
  case h_2=>cases ek
  rename_i xs w
  have ei:=mw ek
  subst ei
  cases h with
  |flat f _=>simp[flat,RB]at f
  |@tup _ p us _ h1 h2 =>
   cases h2 with
   |@cons _ v1 _ TV B1 C1 a1 a2 =>
    cases a2 with
    |@cons _ v2 _ W3 B2 C2 b1 b2 =>
     cases b2
     cases a1 with
     |flat f _=>simp[flat]at f
     |@lst _ l us2 Cl c1 c2 =>
      have eu:=je (Rg.fl c2 (Ss _)).1
      subst eu
      refine⟨((kk,_),p)::zs,by rw[M4,e1],by rw[e2];rfl,λz hz=>?_⟩
      rcases MQ.mp hz with q | q
      .subst q
       exact⟨l,v2,hs _ _ h1,c1⟩
      .exact e3 z q
def LY(hu:X.A.units+64<cLine)(hc:X.calm=Qt):Tr X F (.builtin "sorted") tF:=Tr.of (L3 hu hc) λH0 H A xs rs e Q m g q ek hq=>by
 unfold tF at ek
 split at ek
 case h_2=>cases ek
 rename_i ds
 cases q with
 |cons q1 q2 =>
  cases q2
  rcases e1:ji ds with _|ks
  .rw[e1]at ek;cases ek
  rw[e1]at ek
  simp only[MP]at ek
  replace ek:=S0 ek
  obtain⟨ok,ek⟩:=ek
  simp only[MX,SI]at ok
  cases ek
  obtain⟨eds,emk⟩:=AX e1
  subst eds
  obtain⟨B,nb,fr,rd⟩:=q1
  cases rd with
  |flat f _=>simp[flat]at f
  |@lst _ p vs C hp r =>
   obtain⟨zs,z1,z2,z3⟩:=AV (aV _ _) r emk
   have nk:(zs.map λz=>z.1.1).Nodup:=by
    have:=yW ok.1
    rw[<-z1,Nk]at this
    exact this
   have inj:=AM nk
   let f:U1->Ql Int:=λb=>((zs.find? λz=>decide (z.2=b)).map λz=>z.1.1).getD []
   have hf:∀z∈zs,f z.2=z.1.1:=λz hz=>by
    show((zs.find? λy=>decide (y.2=z.2)).map λy=>y.1.1).getD []=z.1.1
    cases e2:zs.find? λy=>decide (y.2=z.2) with
    |none=>exact absurd (QM.mp e2 z hz) (by simp)
    |some y =>
     have my:=PZ e2
     have ey:y.2=z.2:=by have:=Rb e2;simpa using this
     exact XH.uniq (z3 y my) (ey ▸ z3 z hz)
   have lk:zs.length=ks.length:=by rw[<-z1,MY]
   subst z2
   have fin:∀b∈zs.map (·.2),∃z∈zs,z.2=b:=λb hb=>by
    obtain⟨z,hz,e⟩:=Ny.mp hb
    exact⟨z,hz,e⟩
   refine⟨p,zs.map (·.2),f,rfl,Rm.of (by rw[Nk];exact hp),by rw[MY,lk];exact ok.2,λb hb=>?_,λb hb c Ud nbc ebc=>?_,λl out hl po pf=>?_⟩
   .obtain⟨z,hz,rfl⟩:=fin b hb
    obtain⟨l,v,a1,a2⟩:=z3 z hz
    rw[hf z hz]
    exact⟨l,v,a1,Rm.of a2⟩
   .obtain⟨z,hz,rfl⟩:=fin b hb
    obtain⟨y,hy,rfl⟩:=fin c Ud
    rw[hf z hz,hf y hy]at ebc
    exact nbc (by rw[inj z hz y hy ebc])
   .let ws:=fL (zs.map λz=>(z.1.1,z))
    let WZ:=ws.map (·.2)
    have pw:ws.Perm (zs.map λz=>(z.1.1,z)):=nH _
    have pz:WZ.Perm zs:=by
     have:=pw.map (·.2)
     rw[Nk]at this
     have e:zs.map ((·.2) ∘ λz:(Ql Int×D)×U1=>(z.1.1,z))=zs:=by
      rw[show((λw:Ql Int×((Ql Int×D)×U1)=>w.2) ∘ λz:(Ql Int×D)×U1=>(z.1.1,z))=id from rfl,Pu]
     rw[e]at this
     exact this
    have wk:∀w∈ws,w.1=w.2.1.1/\w.2∈zs:=λw hw=>by
     obtain⟨z,hz,rfl⟩:=Ny.mp (pw.mem_iff.mp hw)
     exact⟨rfl,hz⟩
    have eo:out=WZ.map (·.2):=by
     refine zF (f:=f) (po.trans (pz.map _).symm) (λa ha b hb e=>?_) pf ?_
     .obtain⟨z,hz,rfl⟩:=fin a (po.mem_iff.mp ha)
      obtain⟨y,hy,rfl⟩:=fin b (po.mem_iff.mp hb)
      rw[hf z hz,hf y hy]at e
      rw[inj z hz y hy e]
     .show((ws.map (·.2)).map (·.2)).Pairwise _
      rw[Pm,Pm]
      have rk:ws.Pairwise (λx y=>bo y.1 x.1=Qf):=zm _
      refine List.Pairwise.imp_of_mem (λ{x y} mx my q=>?_) rk
      rw[hf _ (wk x mx).2,hf _ (wk y my).2, <-(wk x mx).1, <-(wk y my).1]
      exact q
    have ed:(fL ks).map (·.2)=WZ.map λz=>z.1.2:=by
     have ek:ks=(zs.map λz=>(z.1.1,z)).map λw=>(w.1,w.2.1.2):=by rw[Nk, <-z1];rfl
     rw[ek,nI (λz:(Ql Int×D)×U1=>z.1.2),Nk,Nk]
     rfl
    have r0:Rg X.K (ah ((p::C)++(A++F)) H) H ((zs.map λz=>(z.1.2,V.ref z.2)).map (·.1)) ((zs.map λz=>(z.1.2,V.ref z.2)).map (·.2)) C:=by
     rw[Nk,Nk]
     have:ks.map (·.2)=zs.map ((·.1) ∘ λz:(Ql Int×D)×U1=>(z.1.2,V.ref z.2)):=by rw[<-z1,Nk];rfl
     rw[<-this]
     exact r
    obtain⟨C',pC,r2⟩:=Rg.perm ((pz.map λz=>(z.1.2,V.ref z.2)).symm) r0
    have q1:∀Z:Ql ((Ql Int×D)×U1),(Z.map λz=>(z.1.2,V.ref z.2)).map (·.1)=Z.map λz=>z.1.2:=λZ=>by rw[Nk];rfl
    have q2:∀Z:Ql ((Ql Int×D)×U1),(Z.map λz=>(z.1.2,V.ref z.2)).map (·.2)=(Z.map (·.2)).map V.ref:=λZ=>by rw[Nk,Nk];rfl
    rw[q1,q2]at r2
    rw[ed]at hq
    rw[eo]
    have nC:=M3.mp nb
    have al:∀b∈C',H b≠Qn:=λb hb z=>by
     obtain⟨o,w⟩:=r2.lists b hb
     rw[z]at w;cases w
    have hlC:l∉C':=λz=>al l z hl
    have S:QS (ah ((p::C)++(A++F)) H) (ah ((l::C')++(A++F)) (L2.upd H l (.lst ((WZ.map (·.2)).map V.ref)))):=λb o h=>by
     obtain⟨n,h⟩:=cD h
     have bl:b≠l:=λz=>by rw[z,hl]at h;cases h
     refine bw (by rw[aN bl];exact h) λz=>?_
     rcases ML.mp z with z | z
     .rcases MQ.mp z with z | z
      .exact bl z
      .exact n (MJ _ (MM _ (pC.mem_iff.mp z)))
     .exact n (MI _ z)
    have kp:∀b∈C',∀o,H b=Qs o->L2.upd H l (.lst ((WZ.map (·.2)).map V.ref)) b=Qs o:=λb hb o h=>by
     rw[aN (show b≠l from λz=>hlC (z ▸ hb))];exact h
    refine hq _ _ (dW hl) ⟨l::C',M3.mpr ⟨hlC,pC.nodup_iff.mpr nC.2⟩,λb hb=>?_,.lst bF (Rg.mono S r2 kp)⟩
    rcases MQ.mp hb with z | z
    .rw[z];exact QS.free g hl
    .exact fr b (MM _ (pC.mem_iff.mp z))
open PySem.Spec L2
def jh(st:U4)(k:Nat):U4:=match st with
 |.ClassDef _ _ _ body _ _ _ _ _ _ _=>body.getD k (.Pass ⟨0,0,0,0⟩)
 |_=>.Pass ⟨0,0,0,0⟩
inductive Hm(K:MK)(C:U1)(x qual:Str)(st:U4)(f:U1):Prop where
 |mk {oc:M6}{od an:Option U1}{UK:Array (Option M6)}{kV doc pm Ru ct:M6} (a:Nr K (.ref C) x=Qs (Qs (.ref f))) (n:Qq K (.ref f)=Qt)
   (l:K.lookup f=Qs ⟨oc,od,.func (Ov x qual (iN st) (fW st) (bp st) .none kV doc pm an Ru ct),UK⟩) (c:Pr K Ru qual=Qt) (k:N2 K (.ref f)=Qt):Hm K C x qual st f
def Hm.fn{C:U1}{f:U1}(h:Hm K C x qual st f):∃fd,L2.R8 K x qual st f fd:=by
 cases h with
 |mk a n l c k=>exact⟨_,Cj l c k⟩
def Hm.U9{C:U1}{f:U1}(h:Hm K C x qual st f):Meth K C x f:=by
 cases h with
 |mk a n l c k=>exact⟨a,n,k⟩
def Hm.mk_{C:U1}{f:U1}(h:Hm K C "__init__" qual st f)(m:PJ K C=Qt)(k:N2 K (.ref C)=Qt):Mk K C f:=by
 cases h with
 |mk a n l c k'=>exact⟨m,a,n,k⟩
structure Hc(K:MK)(x:Str)(C:U1):Prop where
 a:OJ K mainGlobals x=Qs (Qs (.ref C))
 c1:O7 K C Str.empty=Qt
 c2:Pj K C=Qt
 c3:P4 K C=Qt
 c4:Nr K (.ref C) "__setattr__"=Qs (Qs (.builtin "object.__setattr__"))
 k1:PJ K C=Qt
 k2:N2 K (.ref C)=Qt
def Hc.cls{C:U1}(h:Hc K x C):Sd K C:=⟨h.c1,h.c2,h.c3,h.c4⟩
def Hc.mg{K:MK}{x:Str}{C:U1}{hp:U2}{mg:Str->Qo M6}(h:Hc K x C)(X:K.In hp)(G:hp.Ns mainGlobals mg):mg x=Qs (.ref C):=RK X G h.a
section
variable {rest:Ql U4}{C:U1}{J:Ql Nat}
def Hk(h:PS X st (dP X.K F J g))(s:∀i∈I,i∈J:=by decide):PS X st (dP X.K F I g):=by
 refine PS.imp h ?_
 rintro E σ H ⟨A,t,t',R,e,k⟩
 exact⟨A,t,t',R,e,λσ' H' A' gr R' p=>k σ' H' A' gr R' λi hi=>p i (s i hi)⟩
def k9(i:Nat)(g:DS):DS:=λt=>match t[i]? with
 |some (.dp (.RX ks ds))=>oX i g t
 |some (.val (.Rx _))=>g t
 |_=>Qn
def G2{g:DS}{st:U4}(i:Nat)(h:PS X st (dS X.K F g)):PS X st (dS X.K F (k9 i g)):=by
 intro pins s σ H D I q
 obtain⟨A,t,o,R,e,p⟩:=j8 q
 unfold k9 at e
 split at e
 .exact G3 i h pins s σ H D I (j9 R e p)
 .exact h pins s σ H D I (j9 R e p)
 .cases e
def kZ(f:DE):DT:=λt=>(f t).bind λr=>match r.d with
 |.Rx ks=>Qs (!ks.isEmpty)
 |.RX ks _=>Qs (!ks.isEmpty)
 |_=>Qn
def GV(ha:PE X a (dE X.K F fa))(he:∀whole,isTrue a X.env whole=(do let v <-whole;standAt a.pos;holding [v] (truthy v)):=by intro _;rfl):PT X a (dT X.K F (kZ fa)):=by
 rintro pins s σ H Q I ⟨A,t,k,R,e,h⟩
 unfold kZ at e
 rcases e1:fa t with _|r
 .rw[e1]at e;cases e
 rw[e1]at e
 simp only[MP]at e
 split at e
 .rename_i ks z
  exact GU ha he pins s σ H Q I ⟨A,t,k,R,by unfold xP;rw[e1];simp only[MP,z];exact e,h⟩
 .rename_i ks ds z
  exact GS ha he pins s σ H Q I ⟨A,t,k,R,by unfold xQ;rw[e1];simp only[MP,z];exact e,h⟩
 .cases e
def k6(g:gx):DE:=λt=>(g t).bind λq=>if q.1.length<=1000&&q.2.isEmpty then Qs (.dn (.tup q.1)) else Qn
def HL{x1}(h:PA X es (WW X.K F fns)):PE X (.Tuple es x1 pos) (dE X.K F (k6 fns)):=by
 refine PE.imp (sJ h) ?_
 rintro σ H Q ⟨A,t,r,R,e,h⟩
 unfold k6 at e
 rcases e1:fns t with _|q
 .rw[e1]at e;cases e
 obtain⟨ds,I⟩:=q
 rw[e1]at e
 simp only[MP]at e
 refine bZ e λok e=>?_
 cases e
 simp only[MX,SI,Q3]at ok
 obtain⟨hl,rfl⟩:=ok
 refine⟨A,t,ds,[],R,e1,λvs H1 B g1 n1 f1 r1=>⟨by rw[r1.length];exact Uy (by lia),λp hp=>?_⟩⟩
 have s1:=dW (o:=HO.tup vs) hp
 have np:p∉B:=dZ r1.lists hp
 have YG:RF H1 (A++F):=(R.mu).mono g1
 have nq:p∉A++F:=dZ YG hp
 refine h _ _ (g1.trans s1) ⟨B,n1,λb hb=>?_,.tup (RQ.of (bw bF λz=>(ML.mp z).elim np nq)) (Rg.mono (cT s1) r1 λb hb o w=>s1 _ _ w)⟩
 rcases f1 b hb with w | ⟨i,hi,_⟩
 .exact w
 .cases hi
def AJ{g1 g2:DS}(h1:kh g1)(h2:kh g2):kh (aE g1 g2):=λt o e=>by
 unfold aE at e
 refine aB e λo1 e1 e=>?_
 obtain⟨t1,rfl⟩:=h1 t o1 e1
 exact h2 t1 o e
def AK{k:Int->Int->Int}:kh (iQ k i C f fa fb):=λt o e=>by
 unfold iQ at e
 refine aB e λr1 e1 e=>?_
 refine aB e λr2 e2 e=>?_
 obtain⟨_,_,_,_,_,_,_,_,_,_,_,h⟩:=tH (show gL t i C f (tJ k r1 r2)=Qs o from e)
 exact⟨_,h⟩
def Jo{a k s:Nat}{f1 f2:Str}:kh (k8 i a k s C f1 f2):=λt o e=>by
 refine aB e λq _ e=>?_
 refine aB e λn _ e=>?_
 refine aB e λm _ e=>?_
 refine bZ e λ_ e=>?_
 refine aB e λj1 _ e=>?_
 refine aB e λj2 _ e=>?_
 refine aB e λrows _ e=>?_
 refine aB e λWq _ e=>?_
 refine aB e λxs _ e=>?_
 refine aB e λzs _ e=>?_
 refine aB e λW2 _ e=>?_
 refine bZ e λ_ e=>?_
 refine aB e λus _ e=>?_
 unfold xa at e
 split at e
 .cases e;exact⟨_,rfl⟩
 .obtain⟨t',_,rfl⟩:=Option.map_eq_some_iff.mp e
  exact⟨t',rfl⟩
end
end DL
variable{M:Nat}{t:DL.Th}{ts:Ql (Int×Int)}{a:Int}{w:Int->Int}{nt:Nat}{f:DL.DE}{wl:Ql Int}{r:DL.Ev}{m:Int}{fa:DL.DE}{fb:DL.DE}{b:Int}{i:Nat}{n:Nat}{ds:Ql DL.D}{x:Int}{r1:DL.Ev}{r2:DL.Ev}{g:Int->Bool}{v:Int}{p:Int}{w':Int->Int}{fe:DL.DE}{rs:Ql DL.Ev}{L:Ql Int}{j:Nat}{G:Ql Int}{W:Nat}{s:Int}{xs:Ql Int}{ns:Ql Str}{B:Nat}{u:Int}{ks:Ql Int}{l:Int}
namespace KX
open PySem.Spec L2 DL
abbrev c9:=kK (kI gW λi j=>.int (i+j)) kQ
abbrev qS:=kI gW λi j=>.int (i - j)
abbrev qM:=kK (kI UY λi j=>.int (i*j)) wH
abbrev qV:=kI Vd λi j=>.int (i.fdiv j)
abbrev qR:=kI jA λi j=>.int (i.fmod j)
abbrev qL:=kI gW λi j=>.bl (decide (i<j))
abbrev qE:=kI gW λi j=>.bl (decide (i<=j))
abbrev qG:=kI gW λi j=>.bl (decide (j<i))
abbrev qN:=kR λi j=>if j<i then j else i
abbrev qX:=kR λi j=>if j > i then j else i
abbrev qP:=kI mS λi j=>.int (i ^ j.toNat)
abbrev av:=ae 0
abbrev aA:=ae 1
abbrev aQ:=ae 2
abbrev bE:=ae 3
abbrev bA:=ae 4
abbrev bJ:=ae 5
abbrev cH:=ae 6
abbrev lD:=ae 7
abbrev bh:=dC (.int 0)
abbrev bT:=dC (.int 1)
abbrev gB:=dC (.int 2)
abbrev m9:=dC (.int 3)
abbrev qu:=dC (.int 6)
abbrev jJ:=dC (.int 10)
abbrev qt:=dC (.bl Qf)
abbrev gA:=dC .Ri
abbrev m8:=dC (.bl Qt)
abbrev bB:=cb 0
abbrev iy:=cb 3
abbrev gf:=cb 4
abbrev eZ:=ag av ao
abbrev eY:=ag aQ ao
abbrev eW:=bg af av
abbrev fw:=ag bJ ao
abbrev gz:=ag bE ao
abbrev DX:=cb 1
abbrev lI:=ag lD ao
abbrev m7:=ag aA ao
abbrev m6:=cb 2
abbrev i7:=cb 6
abbrev jI:=cb 5
abbrev jH:=ag bA ao
abbrev jG:=bg af aA
abbrev DW:=dg DX gN
abbrev lH:=ag av m7
abbrev DV:=dg iy gN
abbrev DU:=dg gf gN
abbrev lG:=ag bJ lI
abbrev gy:=dg bB DW
abbrev lF:=dg m6 DV
abbrev lE:=dg iy DU
def cN(i:Nat):U4:=PySem.Challenge.pw_nearenough_k69_whole_joined_alike.main.body.getD i (.Pass ⟨0,0,0,0⟩)
abbrev rO:U4:=cN 1
abbrev rL:U4:=cN 2
abbrev qZ:U4:=cN 8
abbrev vf:U4:=jh (cN 9) 0
abbrev vc:U4:=jh (cN 9) 1
abbrev va:U4:=jh (cN 9) 2
abbrev ve:U4:=jh (cN 9) 3
abbrev uX:U4:=jh (cN 9) 4
abbrev vb:U4:=jh (cN 9) 5
abbrev uY:U4:=jh (cN 9) 6
abbrev vd:U4:=jh (cN 9) 7
abbrev uZ:U4:=jh (cN 9) 8
abbrev rM:U4:=cN 11
abbrev qW:U4:=cN 12
abbrev qY:U4:=cN 13
abbrev rH:U4:=cN 14
abbrev rD:U4:=cN 16
abbrev rB:U4:=cN 17
abbrev q9:U4:=cN 18
abbrev rh:U4:=cN 19
abbrev rf:U4:=cN 20
abbrev rC:U4:=cN 21
abbrev q8:U4:=cN 22
abbrev rF:U4:=cN 23
abbrev rm:U4:=cN 24
abbrev rE:U4:=cN 25
abbrev rG:U4:=cN 26
structure SV(mg:Str->Option M6):Prop where
 zak:mg "abs"=Qn
 YE:mg "enumerate"=Qn
 U8:mg "len"=Qn
 Uc:mg "list"=Qn
 zaj:mg "max"=Qn
 YD:mg "min"=Qn
 UL:mg "range"=Qn
 Xj:mg "sorted"=Qn
noncomputable section
variable {P:NA}{w:OX}{K:MK}{mg:Str->Qo M6}{base:TL}{ad:U1}{fd:N8}
def FR:Sr ["one", "other"] ["one", "other"] (bp rO):=cO rfl rfl rfl rfl (by decide +kernel)
def mQ:DS:=(iP 0 1 (ag aA (ag (d2 qR av aA) ao)))
def Ce:DS :=
 (aE (iO (kW 1) (aI (d2 dU aA bh)) mQ) (cx (ai j4 eZ)))
def qi:Ql D->Qo Ev:=dR 2 ["one", "other"] Ce
def IU(Fn:L2.R8 K "common_factor" "common_factor" rO ad fd)(bu:SV mg) :RO P w K mg base bz 1 ad fd ["one", "other"] (SO K qi):=by
 have SC:=FR
 refine eR (k:=0) Fn SC (λ_ _ e=>eQ e) Ce (λ_ _ e=>eP e) (λRu A outer s H E F hr=>?_)
 refine bC ?_ ?_
 .exact(sk (kW 1) PassesOwn.never (cA (jS hr.units) (aa 1) aF) (bH (vE (i:=0) (j:=1) rfl SC.nd rfl rfl (by decide) rfl rfl (aq (aa 1) (aq (bU jg (aa 0) (aa 1)) aD)) rfl)))
 exact bH (dX (dy De rfl bu.zak Di (aq (aa 0) aD)))
def FO:Sr ["top", "bottom", "factor"] ["top", "bottom"] (bp rL):=cO rfl rfl rfl rfl (by decide +kernel)
def xk:DS :=
 (aE (aM 2 (ai (aO qi) lH)) (aE (bY (aI (d2 qL aA bh)) (aM 2 (d1 jk aQ)) cM) (cx (ai cY (ag (d2 qV av aQ) (ag (d2 qV aA aQ) ao))))))
def ip:Ql D->Qo Ev:=dR 2 ["top", "bottom", "factor"] xk
def IS(Fn:L2.R8 K "fraction" "fraction" rL ad fd)(bu:SV mg)(zeX:Ua P w K mg base "common_factor" 1 qi):RO P w K mg base bz 2 ad fd ["top", "bottom"] (SO K ip):=by
 have SC:=FO
 refine eR (k:=1) Fn SC (λ_ _ e=>eQ e) xk (λ_ _ e=>eP e) (λRu A outer s H E F hr=>?_)
 refine bC ?_ ?_
 .exact(ck (i:=2) SC.nd rfl (aC rfl) (e9 zeX hr.mono (aq (aa 0) (aq (aa 1) aD))))
 refine bC ?_ ?_
 .exact(e8 (cA nY (aa 1) aF) (bH (ck (i:=2) SC.nd rfl (aC rfl) (sH (aa 2)))) fA)
 exact bH (dX (iH (aq (bU kB (aa 0) (aa 2)) (aq (bU kB (aa 1) (aa 2)) aD))))
def Fz:Sr ["web", "numbers", "many", "ties", "least", "at", "low", "high"] ["web", "numbers"] (bp qZ):=cO rfl rfl rfl rfl (by decide +kernel)
def uA:DS:=(aE (dv (j6 2 (dg i7 (dg (cb 7) gN))) (ai g9 (ag (bK 1 [4] (fE (d2 az bE bJ)) bB bN (d2 az aA av)) ao)))
  (aM 4 (bK 1 [6,7] (cF bA) bB bN (oW (aI (d2 d5 av aQ)) aA av))))
def xb:DS :=
 (aE (dv (cK 2 lF) av) (aE (aM 4 (ig eY)) (aE (fX jI aA uA) (fj 4))))
def lu:Ql D->Qo Ev:=dR 2 ["web", "numbers", "many", "ties", "least", "at", "low", "high"] xb
def IC(Fn:L2.R8 K "least_led_to" "least_led_to" qZ ad fd)(bu:SV mg) :RO P w K mg base bz 1 ad fd ["web", "numbers"] (SO K lu):=by
 have SC:=Fz
 refine eR (k:=0) Fn SC (λ_ _ e=>eQ e) xb (λ_ _ e=>eP e) (λRu A outer s H E F hr=>?_)
 refine bC ?_ ?_
 .exact(nT (aa 0) (iG rfl (cW (aY (i:=2) SC.nd rfl (aC rfl)) (cW (aY (i:=3) SC.nd rfl (aC rfl)) gp))) (iA (cR (bq 2) (cR (bq 3) gi))))
 refine bC ?_ ?_
 .exact(ck (i:=4) SC.nd rfl (aC rfl) (sI rfl rfl bu.Uc rfl bu.UL (aq (aa 2) aD)))
 refine bC ?_ ?_
 .exact(sq PassesOwn.never rfl (aa 1) (aY (i:=5) SC.nd rfl (aC rfl)) (bq 5) (bC (nT (dy um rfl bu.Xj boot_sorted (aq (g7 1 [4] ["end", "least"] rfl (sD (bI (aa 3) (aa 5))) (λ_ _ _ _ _=>(aY (i:=0) (show List.Nodup (["end", "least"]:Ql Str) by decide +kernel) rfl (aC rfl))) (λ_=>(bq 0)) (λ_ _ _ _ _ _=>gF) (λ_ _ _ _ _ _=>(bI (aa 1) (aa 0)))) aD)) (vQ rfl (cW (aY (i:=6) SC.nd rfl (aC rfl)) (cW (aY (i:=7) SC.nd rfl (aC rfl)) gp))) (uO (cR (bq 6) (cR (bq 7) gi))))
  (bH (ck (i:=4) SC.nd rfl (aC rfl) (g7 1 [6,7] ["own", "low", "high"] rfl (iF (aa 4)) (λ_ _ _ _ _=>(aY (i:=0) (show List.Nodup (["own", "low", "high"]:Ql Str) by decide +kernel) rfl (aC rfl))) (λ_=>(bq 0)) (λ_ _ _ _ _ _=>gF) (λ_ _ _ _ _ _=>(HR (cA (jT hr.units) (aa 0) (aa 2)) (aa 1) (aa 0))))))))
 exact bH (jQ 4)
def Gb:Sr ["self", "web", "weights", "many", "ties"] ["self", "web", "weights"] (bp vf):=cO rfl rfl rfl rfl (by decide +kernel)
noncomputable def tY(C:U1):DS :=
 (aE (dv (cK 2 lE) aA)
  (aE (eN 0 C "ties" (ai dt jH))
  (aE (eN 0 C "weights" (ai dt eY))
  (aE (eN 0 C "parts" bT)
  (aE (eN 0 C "taken" (ai cE ao))
  (aE (eN 0 C "points" (iR 1 [] (hZ bE) bB bN (ai cE eZ)))
  (aE (eN 0 C "widths" (d2 qM (ai cE (ag bh ao)) bE))
  (aE (eN 0 C "paid" (d2 qM (ai cE (ag bh ao)) bE))
  (aE (eN 0 C "around" (d2 qM (ai cE (ag bh ao)) bE))
  (eN 0 C "piece_of" (ig gz)))))))))))
def m4(C:U1):Ql D->Qo D:=kF 3 ["self", "web", "weights", "many", "ties"] (tY C)
def Jd{C:U1}(cl:Sd K C)(n_around:RE K C "around")(n_paid:RE K C "paid")(n_parts:RE K C "parts")(n_piece_of:RE K C "piece_of")(n_points:RE K C "points")(n_taken:RE K C "taken")(n_ties:RE K C "ties")(n_weights:RE K C "weights")(n_widths:RE K C "widths")(Fn:L2.R8 K "__init__" "Pieces.__init__" vf ad fd)(bu:SV mg) :RO P w K mg base bz 1 ad fd ["self", "web", "weights"] (VG K (m4 C)):=by
 have SC:=Gb
 refine ua (k:=0) (m:=3) Fn SC rfl (tY C) (λRu A outer s H E F hr=>?_)
 exact(dY (Ah (aa 1) (iG rfl (cW (aY (i:=3) SC.nd rfl (aC rfl)) (cW (aY (i:=4) SC.nd rfl (aC rfl)) gp))) (iA (cR (bq 3) (cR (bq 4) gi))) (Kk (tD (tx (by decide)) (tD (tx (by decide)) Bz))))
  (dY (gG 0 cl n_ties (iI iS rfl bu.Uc iU (aq (aa 4) aD)))
  (dY (gG 0 cl n_weights (iI iS rfl bu.Uc iU (aq (aa 2) aD)))
  (dY (gG 0 cl n_parts aF)
  (dY (gG 0 cl n_taken (fB aD))
  (dY (gG 0 cl n_points (Aq 1 [] ["point"] rfl (vN rfl bu.UL (aa 3)) (λ_ _ _ _ _=>(aY (i:=0) (show List.Nodup (["point"]:Ql Str) by decide +kernel) rfl (aC rfl))) (λ_=>(bq 0)) (λ_ _ _ _ _ _=>gF) (λ_ _ _ _ _ _=>(fB (aq (aa 0) aD)))))
  (dY (gG 0 cl n_widths (bU (Ub.or fP) (fB (aq aF aD)) (aa 3)))
  (dY (gG 0 cl n_paid (bU (Ub.or fP) (fB (aq aF aD)) (aa 3)))
  (dY (gG 0 cl n_around (bU (Ub.or fP) (fB (aq aF aD)) (aa 3)))
  (lW (gG 0 cl n_piece_of (sI rfl rfl bu.Uc rfl bu.UL (aq (aa 3) aD)))))))))))))
def FY:Sr ["self", "at", "growing", "one", "other"] ["self", "at", "growing"] (bp vc):=cO rfl rfl rfl rfl (by decide +kernel)
def xo(C:U1):DS :=
 (aE (dv (j6 2 lE) (bK 1 [0] (fE (d2 az (d1 (aH C "ties") av) aA)) bB bN (d2 az (d1 (aH C "piece_of") aA) av)))
  (aE (bY (aI (d2 d5 bE bA)) (cx bh) cM)
  (cx (ai bV (ag (bK 1 [2] (fE (ai cY (ag bE jH))) bB (aI (d2 (jZ Qf) av aA)) av) ao)))))
def iY(C:U1):Ql D->Qo Ev:=dR 3 ["self", "at", "growing", "one", "other"] (xo C)
def Ja{C:U1}(cl:Sd K C)(n_piece_of:RE K C "piece_of")(n_ties:RE K C "ties")(Fn:L2.R8 K "growing_beside" "Pieces.growing_beside" vc ad fd)(bu:SV mg) :RO P w K mg base bz 1 ad fd ["self", "at", "growing"] (SO K (iY C)):=by
 have SC:=FY
 refine eR (k:=0) Fn SC (λ_ _ e=>eQ e) (xo C) (λ_ _ e=>eP e) (λRu A outer s H E F hr=>?_)
 refine bC ?_ ?_
 .exact(nT (g7 1 [0] ["end", "self"] rfl (sD (bI (cX cl n_ties (aa 0)) (aa 1))) (λ_ _ _ _ _=>(aY (i:=0) (show List.Nodup (["end", "self"]:Ql Str) by decide +kernel) rfl (aC rfl))) (λ_=>(bq 0)) (λ_ _ _ _ _ _=>gF) (λ_ _ _ _ _ _=>(bI (cX cl n_piece_of (aa 1)) (aa 0)))) (vQ rfl (cW (aY (i:=3) SC.nd rfl (aC rfl)) (cW (aY (i:=4) SC.nd rfl (aC rfl)) gp))) (uO (cR (bq 3) (cR (bq 4) gi))))
 refine bC ?_ ?_
 .exact(e8 (cA (jT hr.units) (aa 3) (aa 4)) (bH (dX aF)) fA)
 exact bH (dX (dy iT rfl bu.U8 PySem.boot_len (aq (g7 1 [2] ["piece", "growing"] rfl (sD (iH (aq (aa 3) (aq (aa 4) aD)))) (λ_ _ _ _ _=>(aY (i:=0) (show List.Nodup (["piece", "growing"]:Ql Str) by decide +kernel) rfl (aC rfl))) (λ_=>(bq 0)) (λ_ _ _ _ _ _=>(r8 (cA (Jk hr.units) (aa 0) (aa 1)))) (λ_ _ _ _ _ _=>(aa 0))) aD)))
def FW:Sr ["self", "at", "one", "other"] ["self", "at"] (bp va):=cO rfl rfl rfl rfl (by decide +kernel)
def xn(C:U1):DS :=
 (aE (dv (cK 2 lF) (d2 az (d1 (aH C "ties") av) aA))
  (cx (d2 qS (d2 qS (d2 qM (d2 az (d1 (aH C "weights") av) aA) (d1 (aH C "parts") av)) (d2 az (d1 (aH C "around") av) aQ)) (d2 az (d1 (aH C "around") av) bE))))
def gw(C:U1):Ql D->Qo Ev:=dR 2 ["self", "at", "one", "other"] (xn C)
def IZ{C:U1}(cl:Sd K C)(n_around:RE K C "around")(n_parts:RE K C "parts")(n_ties:RE K C "ties")(n_weights:RE K C "weights")(Fn:L2.R8 K "left_between" "Pieces.left_between" va ad fd)(bu:SV mg) :RO P w K mg base bz 1 ad fd ["self", "at"] (SO K (gw C)):=by
 have SC:=FW
 refine eR (k:=0) Fn SC (λ_ _ e=>eQ e) (xn C) (λ_ _ e=>eP e) (λRu A outer s H E F hr=>?_)
 refine bC ?_ ?_
 .exact(nT (bI (cX cl n_ties (aa 0)) (aa 1)) (iG rfl (cW (aY (i:=2) SC.nd rfl (aC rfl)) (cW (aY (i:=3) SC.nd rfl (aC rfl)) gp))) (iA (cR (bq 2) (cR (bq 3) gi))))
 exact bH (dX (bU AB (bU AB (bU (Ub.or fP) (bI (cX cl n_weights (aa 0)) (aa 1)) (cX cl n_parts (aa 0))) (bI (cX cl n_around (aa 0)) (aa 2))) (bI (cX cl n_around (aa 0)) (aa 3))))
def Ga:Sr ["self", "growing", "at"] ["self", "growing"] (bp ve):=cO rfl rfl rfl rfl (by decide +kernel)
def Cg(C:U1):DS :=
 (aE (jy m6 (ai bV (ag (d1 (aH C "ties") av) ao)) (bY (ij (aI (d2 qG (cj C "growing_beside" (iY C) av (ag aQ m7)) bh)) (aI (d2 qE (cj C "left_between" (gw C) av eY) bh))) (fj 2) cM))
  (cx gA))
def lC(C:U1):Ql D->Qo Ev:=dR 2 ["self", "growing", "at"] (Cg C)
def Jc{C:U1}(cl:Sd K C)(n_ties:RE K C "ties")(Fn:L2.R8 K "first_full" "Pieces.first_full" ve ad fd)(bu:SV mg)(Zs:VD P w K mg base C "growing_beside" 1 (iY C))(Zr:VD P w K mg base C "left_between" 1 (gw C)):RO P w K mg base bz 2 ad fd ["self", "growing"] (SO K (lC C)):=by
 have SC:=Ga
 refine eR (k:=1) Fn SC (λ_ _ e=>eQ e) (Cg C) (λ_ _ e=>eP e) (λRu A outer s H E F hr=>?_)
 refine bC ?_ ?_
 .exact(Ab PassesOwn.never rfl rfl bu.UL (dy iT rfl bu.U8 PySem.boot_len (aq (cX cl n_ties (aa 0)) aD)) (aY (i:=2) SC.nd rfl (aC rfl)) (bq 2) (bH (e8 (L2.PW.pt (rZ (cA l8 (l6 cl Zs hr.mono (aa 0) (aq (aa 2) (aq (aa 1) aD))) aF) (rY (cA Ji (l6 cl Zr hr.mono (aa 0) (aq (aa 2) aD)) aF)))) (bH (jQ 2)) fA)))
 exact bH (dX nU)
def FT:Sr ["self", "at", "one", "other", "joined", "point"] ["self", "at"] (bp uX):=cO rfl rfl rfl rfl (by decide +kernel)
noncomputable def tW(C:U1):DS :=
 (aE (dv (j6 2 lF) (bK 1 [0] (fE (d2 az (d1 (aH C "ties") av) aA)) bB bN (d2 az (d1 (aH C "piece_of") aA) av)))
  (aE (aM 4 (ai g9 (ag (d2 c9 (d2 az (d1 (aH C "points") av) aQ) (d2 az (d1 (aH C "points") av) bE)) ao)))
  (aE (oY 4 5 (mJ 0 C "piece_of" bJ (ai bV (ag (d1 (aH C "points") av) ao))))
  (aE (o6 0 4 C "points")
  (aE (lh 0 C "widths" bh)
  (aE (lh 0 C "paid" (d2 c9 (d2 az (d1 (aH C "paid") av) aQ) (d2 az (d1 (aH C "paid") av) bE)))
  (lh 0 C "taken" aA)))))))
def ql(C:U1):Ql D->Qo D:=kF 2 ["self", "at", "one", "other", "joined", "point"] (tW C)
def IV{C:U1}(cl:Sd K C)(n_paid:RE K C "paid")(n_piece_of:RE K C "piece_of")(n_points:RE K C "points")(n_taken:RE K C "taken")(n_ties:RE K C "ties")(n_widths:RE K C "widths")(Fn:L2.R8 K "take" "Pieces.take" uX ad fd)(bu:SV mg) :RO P w K mg base bz 1 ad fd ["self", "at"] (VG K (ql C)):=by
 have SC:=FT
 refine ua (k:=0) (m:=2) Fn SC rfl (tW C) (λRu A outer s H E F hr=>?_)
 exact(dY (Ah (g7 1 [0] ["end", "self"] rfl (sD (bI (cX cl n_ties (aa 0)) (aa 1))) (λ_ _ _ _ _=>(aY (i:=0) (show List.Nodup (["end", "self"]:Ql Str) by decide +kernel) rfl (aC rfl))) (λ_=>(bq 0)) (λ_ _ _ _ _ _=>gF) (λ_ _ _ _ _ _=>(bI (cX cl n_piece_of (aa 1)) (aa 0)))) (vQ rfl (cW (aY (i:=2) SC.nd rfl (aC rfl)) (cW (aY (i:=3) SC.nd rfl (aC rfl)) gp))) (uO (cR (bq 2) (cR (bq 3) gi))) (Kl (tD (tx (by decide)) (tD (tx (by decide)) Bz))))
  (dY (Hl (i:=4) (by decide) SC.nd rfl (aC rfl) (dy um rfl bu.Xj boot_sorted (aq (bU (T2.or fD) (bI (cX cl n_points (aa 0)) (aa 2)) (bI (cX cl n_points (aa 0)) (aa 3))) aD)))
  (dY (Hk (J:=[0,4]) (Hr (by decide) (by decide) PassesOwn.never rfl (aY (i:=5) SC.nd rfl (aC rfl)) (lW (Hq 0 cl n_piece_of (aa 5) (dy iT rfl bu.U8 PySem.boot_len (aq (cX cl n_points (aa 0)) aD))))))
  (dY (Ht 0 4 cl n_points)
  (dY (vI 0 cl n_widths aF)
  (dY (vI 0 cl n_paid (bU (T2.or fD) (bI (cX cl n_paid (aa 0)) (aa 2)) (bI (cX cl n_paid (aa 0)) (aa 3))))
  (lW (vI 0 cl n_taken (aa 1)))))))))
def FX:Sr ["self"] ["self"] (bp vb):=cO rfl rfl rfl rfl (by decide +kernel)
def tX(C:U1):DS :=
 (aE (o7 0 C "parts" gB)
  (aE (eN 0 C "widths" (bK 1 [] (cF (d1 (aH C "widths") av)) bB bN (d2 qM gB av)))
  (aE (eN 0 C "paid" (bK 1 [] (cF (d1 (aH C "paid") av)) bB bN (d2 qM gB av)))
  (eN 0 C "around" (bK 1 [] (cF (d1 (aH C "around") av)) bB bN (d2 qM gB av))))))
def qm(C:U1):Ql D->Qo D:=kF 1 ["self"] (tX C)
def I0{C:U1}(cl:Sd K C)(n_around:RE K C "around")(n_paid:RE K C "paid")(n_parts:RE K C "parts")(n_widths:RE K C "widths")(Fn:L2.R8 K "halve_parts" "Pieces.halve_parts" vb ad fd)(bu:SV mg) :RO P w K mg base bz 1 ad fd ["self"] (VG K (qm C)):=by
 have SC:=FX
 refine ua (k:=0) (m:=1) Fn SC rfl (tX C) (λRu A outer s H E F hr=>?_)
 exact(dY (Hu 0 cl n_parts aF)
  (dY (gG 0 cl n_widths (g7 1 [] ["width"] rfl (iF (cX cl n_widths (aa 0))) (λ_ _ _ _ _=>(aY (i:=0) (show List.Nodup (["width"]:Ql Str) by decide +kernel) rfl (aC rfl))) (λ_=>(bq 0)) (λ_ _ _ _ _ _=>gF) (λ_ _ _ _ _ _=>(bU (Ub.or fP) aF (aa 0)))))
  (dY (gG 0 cl n_paid (g7 1 [] ["width"] rfl (iF (cX cl n_paid (aa 0))) (λ_ _ _ _ _=>(aY (i:=0) (show List.Nodup (["width"]:Ql Str) by decide +kernel) rfl (aC rfl))) (λ_=>(bq 0)) (λ_ _ _ _ _ _=>gF) (λ_ _ _ _ _ _=>(bU (Ub.or fP) aF (aa 0)))))
  (lW (gG 0 cl n_around (g7 1 [] ["width"] rfl (iF (cX cl n_around (aa 0))) (λ_ _ _ _ _=>(aY (i:=0) (show List.Nodup (["width"]:Ql Str) by decide +kernel) rfl (aC rfl))) (λ_=>(bq 0)) (λ_ _ _ _ _ _=>gF) (λ_ _ _ _ _ _=>(bU (Ub.or fP) aF (aa 0)))))))))
def FU:Sr ["self", "growing", "beside"] ["self", "growing"] (bp uY):=cO rfl rfl rfl rfl (by decide +kernel)
def xl(C:U1):DS :=
 (aE (aM 2 (bK 1 [1,0] (hZ (ai bV (ag (d1 (aH C "ties") av) ao))) bB bN (cj C "growing_beside" (iY C) aQ lH)))
  (cx (bK 2 [0] (jt aQ) (cK 2 gy) (aI (d2 qG aA bh)) (d2 qV (cj C "left_between" (gw C) aQ eZ) aA))))
def mZ(C:U1):Ql D->Qo Ev:=dR 2 ["self", "growing", "beside"] (xl C)
def IW{C:U1}(cl:Sd K C)(n_ties:RE K C "ties")(Fn:L2.R8 K "steps_to_full" "Pieces.steps_to_full" uY ad fd)(bu:SV mg)(Zs:VD P w K mg base C "growing_beside" 1 (iY C))(Zr:VD P w K mg base C "left_between" 1 (gw C)):RO P w K mg base bz 2 ad fd ["self", "growing"] (SO K (mZ C)):=by
 have SC:=FU
 refine eR (k:=1) Fn SC (λ_ _ e=>eQ e) (xl C) (λ_ _ e=>eP e) (λRu A outer s H E F hr=>?_)
 refine bC ?_ ?_
 .exact(vB (i:=2) 1 [1,0] ["at", "growing", "self"] SC.nd rfl (Or.inl rfl) rfl (vN rfl bu.UL (dy iT rfl bu.U8 PySem.boot_len (aq (cX cl n_ties (aa 0)) aD))) (λ_ _ _ _ _=>(aY (i:=0) (show List.Nodup (["at", "growing", "self"]:Ql Str) by decide +kernel) rfl (aC rfl))) (λ_=>(bq 0)) (λ_ _ _ _ _ _=>gF) (λ_ _ _ _ _ _=>(l6 cl Zs hr.mono (aa 2) (aq (aa 0) (aq (aa 1) aD)))))
 exact bH (dX (g7 2 [0] ["at", "many", "self"] rfl (Ak rfl bu.YE (aa 2)) (λ_ _ _ _ _=>(iG rfl (cW (aY (i:=0) (show List.Nodup (["at", "many", "self"]:Ql Str) by decide +kernel) rfl (aC rfl)) (cW (aY (i:=1) (show List.Nodup (["at", "many", "self"]:Ql Str) by decide +kernel) rfl (aC rfl)) gp)))) (λ_=>(iA (cR (bq 0) (cR (bq 1) gi)))) (λ_ _ _ _ _ _=>(r8 (cA l8 (aa 1) aF))) (λ_ _ _ _ _ _=>(bU kB (l6 cl Zr hr.mono (aa 2) (aq (aa 0) aD)) (aa 1)))))
def FZ:Sr ["self", "growing", "step", "piece", "point"] ["self", "growing", "step"] (bp vd):=cO rfl rfl rfl rfl (by decide +kernel)
def Cf(C:U1):DS :=
 (oZ iy aA (aE (iQ (λi j=>i+j) 0 C "widths" bE aQ)
  (aE (iQ (λi j=>i+j) 0 C "paid" bE aQ)
  (k8 0 3 4 2 C "points" "around"))))
def qo(C:U1):Ql D->Qo D:=kF 3 ["self", "growing", "step", "piece", "point"] (Cf C)
def Jb{C:U1}(cl:Sd K C)(n_around:RE K C "around")(n_paid:RE K C "paid")(n_points:RE K C "points")(n_widths:RE K C "widths")(Fn:L2.R8 K "grow" "Pieces.grow" vd ad fd)(bu:SV mg) :RO P w K mg base bz 1 ad fd ["self", "growing", "step"] (VG K (qo C)):=by
 have SC:=FZ
 refine ua (k:=0) (m:=3) Fn SC rfl (Cf C) (λRu A outer s H E F hr=>?_)
 exact(lW (Hs (by decide) (AJ AK (AJ AK Jo)) PassesOwn.never rfl (aa 1) (aY (i:=3) SC.nd rfl (aC rfl)) (dY (Ag 0 cl n_widths wR (aa 3) (aa 2))
  (dY (Ag 0 cl n_paid wR (aa 3) (aa 2))
  (lW (Ho 0 3 4 2 cl n_points n_around (by decide) PassesOwn.never rfl (aY (i:=4) SC.nd rfl (aC rfl))))))))
def FV:Sr ["self", "wide"] ["self"] (bp uZ):=cO rfl rfl rfl rfl (by decide +kernel)
def xm(C:U1):DS :=
 (aE (aM 1 (bK 2 [] (jt (d1 (aH C "widths") av)) (cK 2 gy) (aI (d2 qG aA bh)) av))
  (cx (ai tF (ag (iR 1 [0] (cF aA) bB bN (k6 (dQ (dF (ai dt (ag (d2 az (d1 (aH C "points") aA) av) ao))) (dQ (dF (ai (aO ip) (ag (d2 az (d1 (aH C "widths") aA) av) (ag (d1 (aH C "parts") aA) ao)))) jU)))) ao))))
def gV(C:U1):Ql D->Qo Ev:=dR 1 ["self", "wide"] (xm C)
def IY{C:U1}(cl:Sd K C)(n_parts:RE K C "parts")(n_points:RE K C "points")(n_widths:RE K C "widths")(Fn:L2.R8 K "moats" "Pieces.moats" uZ ad fd)(bu:SV mg)(zeW:Ua P w K mg base "fraction" 2 ip):RO P w K mg base bz 3 ad fd ["self"] (SO K (gV C)):=by
 have SC:=FV
 refine eR (k:=2) Fn SC (λ_ _ e=>eQ e) (xm C) (λ_ _ e=>eP e) (λRu A outer s H E F hr=>?_)
 refine bC ?_ ?_
 .exact(vB (i:=1) 2 [] ["piece", "width"] SC.nd rfl (Or.inl rfl) rfl (Ak rfl bu.YE (cX cl n_widths (aa 0))) (λ_ _ _ _ _=>(iG rfl (cW (aY (i:=0) (show List.Nodup (["piece", "width"]:Ql Str) by decide +kernel) rfl (aC rfl)) (cW (aY (i:=1) (show List.Nodup (["piece", "width"]:Ql Str) by decide +kernel) rfl (aC rfl)) gp)))) (λ_=>(iA (cR (bq 0) (cR (bq 1) gi)))) (λ_ _ _ _ _ _=>(r8 (cA l8 (aa 1) aF))) (λ_ _ _ _ _ _=>(aa 0)))
 exact bH (dX (dy (LY hr.units rfl) rfl bu.Xj boot_sorted (aq (Aq 1 [0] ["piece", "self"] rfl (iF (aa 1)) (λ_ _ _ _ _=>(aY (i:=0) (show List.Nodup (["piece", "self"]:Ql Str) by decide +kernel) rfl (aC rfl))) (λ_=>(bq 0)) (λ_ _ _ _ _ _=>gF) (λ_ _ _ _ _ _=>(HL (kx (lY (iI iS rfl bu.Uc iU (aq (bI (cX cl n_points (aa 1)) (aa 0)) aD))) (kx (lY (e9 zeW hr.mono (aq (bI (cX cl n_widths (aa 1)) (aa 0)) (aq (cX cl n_parts (aa 1)) aD)))) vK))))) aD)))
def FQ:Sr ["web", "wishes", "numbers", "least", "wish", "one", "other"] ["web", "wishes", "numbers"] (bp rM):=cO rfl rfl rfl rfl (by decide +kernel)
def Cd:DS :=
 (aE (aM 3 (ai (aO lu) (ag av eY))) (aE (o8 (cK 2 (dg gf (dg (cK 2 (dg jI (dg i7 gN))) gN))) aA (bY (aI (d2 dU (d2 az bE bJ) (d2 az bE cH))) (fj 4) cM)) (cx gA)))
def iq:Ql D->Qo Ev:=dR 3 ["web", "wishes", "numbers", "least", "wish", "one", "other"] Cd
def IT(Fn:L2.R8 K "first_parted" "first_parted" rM ad fd)(bu:SV mg)(zeN:Ua P w K mg base "least_led_to" 1 lu):RO P w K mg base bz 2 ad fd ["web", "wishes", "numbers"] (SO K iq):=by
 have SC:=FQ
 refine eR (k:=1) Fn SC (λ_ _ e=>eQ e) Cd (λ_ _ e=>eP e) (λRu A outer s H E F hr=>?_)
 refine bC ?_ ?_
 .exact(ck (i:=3) SC.nd rfl (aC rfl) (e9 zeN hr.mono (aq (aa 0) (aq (aa 2) aD))))
 refine bC ?_ ?_
 .exact(G4 PassesOwn.never rfl rfl bu.YE (aa 1) (iG rfl (cW (aY (i:=4) SC.nd rfl (aC rfl)) (cW (iG rfl (cW (aY (i:=5) SC.nd rfl (aC rfl)) (cW (aY (i:=6) SC.nd rfl (aC rfl)) gp))) gp))) (iA (cR (bq 4) (cR (iA (cR (bq 5) (cR (bq 6) gi))) gi))) (bH (e8 (cA (jS hr.units) (bI (aa 3) (aa 5)) (bI (aa 3) (aa 6))) (bH (jQ 4)) fA)))
 exact bH (dX nU)
def Fu:Sr ["pieces", "wishes", "found", "one", "other", "here", "there"] ["pieces", "wishes"] (bp qW):=cO rfl rfl rfl rfl (by decide +kernel)
def B5(C:U1):DS :=
 (aE (aM 2 ug)
  (aE (fX (cK 2 lE) aA (aE (iP 5 6 (ag (d2 az (d1 (aH C "piece_of") av) bE) (ag (d2 az (d1 (aH C "piece_of") av) bA) ao)))
  (bY (aI (d2 dU bJ cH)) (mN (fR 2 bJ) (fR 2 cH) m8) cM)))
  (fj 2)))
def jF(C:U1):Ql D->Qo Ev:=dR 2 ["pieces", "wishes", "found", "one", "other", "here", "there"] (B5 C)
def Iz{C:U1}(cl:Sd K C)(n_piece_of:RE K C "piece_of")(Fn:L2.R8 K "wanting" "wanting" qW ad fd)(bu:SV mg) :RO P w K mg base bz 1 ad fd ["pieces", "wishes"] (SO K (jF C)):=by
 have SC:=Fu
 refine eR (k:=0) Fn SC (λ_ _ e=>eQ e) (B5 C) (λ_ _ e=>eP e) (λRu A outer s H E F hr=>?_)
 refine bC ?_ ?_
 .exact(ck (i:=2) SC.nd rfl (aC rfl) HN)
 refine bC ?_ ?_
 .exact(sq PassesOwn.never rfl (aa 1) (iG rfl (cW (aY (i:=3) SC.nd rfl (aC rfl)) (cW (aY (i:=4) SC.nd rfl (aC rfl)) gp))) (iA (cR (bq 3) (cR (bq 4) gi))) (bC (vE (i:=5) (j:=6) rfl SC.nd rfl rfl (by decide) rfl rfl (aq (bI (cX cl n_piece_of (aa 0)) (aa 3)) (aq (bI (cX cl n_piece_of (aa 0)) (aa 4)) aD)) rfl)
  (bH (e8 (cA (jS hr.units) (aa 5) (aa 6)) (bH (G5 nV (Am 2 hr.units (aa 5)) (Am 2 hr.units (aa 6)) za za)) fA))))
 exact bH (jQ 2)
def Fy:Sr ["web", "wishes", "taken", "kept", "at", "fewer"] ["web", "wishes", "taken"] (bp qY):=cO rfl rfl rfl rfl (by decide +kernel)
def B6:DS :=
 (aE (aM 3 (ai dt eY)) (aE (fX gf (d1 hU aQ) (aE (aM 5 (bK 1 [4] (cF bE) bB (aI (d2 dU av aA)) av)) (bY (aI (d2 jY (ai (aO iq) (ag av (ag aA fw))) gA)) (kc 5 (aM 3 bJ)) cM))) (cx (ai g9 gz))))
def il:Ql D->Qo Ev:=dR 3 ["web", "wishes", "taken", "kept", "at", "fewer"] B6
def IB(Fn:L2.R8 K "needed" "needed" qY ad fd)(bu:SV mg)(Zq:Ua P w K mg base "first_parted" 2 iq):RO P w K mg base bz 3 ad fd ["web", "wishes", "taken"] (SO K il):=by
 have SC:=Fy
 refine eR (k:=2) Fn SC (λ_ _ e=>eQ e) B6 (λ_ _ e=>eP e) (λRu A outer s H E F hr=>?_)
 refine bC ?_ ?_
 .exact(ck (i:=3) SC.nd rfl (aC rfl) (iI iS rfl bu.Uc iU (aq (aa 2) aD)))
 refine bC ?_ ?_
 .exact(sq PassesOwn.never rfl (Ap (aa 2)) (aY (i:=4) SC.nd rfl (aC rfl)) (bq 4) (bC (vB (i:=5) 1 [4] ["own", "at"] SC.nd rfl (Or.inl rfl) rfl (iF (aa 3)) (λ_ _ _ _ _=>(aY (i:=0) (show List.Nodup (["own", "at"]:Ql Str) by decide +kernel) rfl (aC rfl))) (λ_=>(bq 0)) (λ_ _ _ _ _ _=>(r8 (cA (jS hr.units) (aa 0) (aa 1)))) (λ_ _ _ _ _ _=>(aa 0)))
  (bH (e8 (cA AE (e9 Zq hr.mono (aq (aa 0) (aq (aa 1) (aq (aa 5) aD)))) nU) (bH (nS 5 (ck (i:=3) SC.nd rfl (aC rfl) (aa 5)))) fA))))
 exact bH (dX (dy um rfl bu.Xj boot_sorted (aq (aa 3) aD)))
def FN:Sr ["web", "weights", "wishes", "lost", "pieces", "growing", "full"] ["web", "weights", "wishes"] (bp rH):=cO rfl rfl rfl rfl (by decide +kernel)
def uB(C:U1):DS:=(aE (k9 5 (aM 6 (cj C "first_full" (lC C) bA fw)))
  (bY (aI (d2 jY cH gA)) (aE (ie 4 C "halve_parts" (qm C) ao)
  (ie 4 C "grow" (qo C) (ag bJ (ag (ai (kP dG) (ag (cj C "steps_to_full" (mZ C) bA fw) ao)) ao)))) (aE (ie 4 C "take" (ql C) (ag cH ao))
  (aM 5 (ai (aO (jF C)) (ag bA eY))))))
noncomputable def xj(C:U1):DS :=
 (aE (aM 3 (ai (aO iq) (ag av (ag aQ (ag (ig (ag (ai bV (ag (d2 az av bT) ao)) ao)) ao))))) (aE (bY (aI (d2 tG bE gA)) xR cM) (aE (aM 4 (ai (ot C (m4 C)) lH)) (aE (aM 5 (ai (aO (jF C)) (ag bA eY))) (aE (iO (λ_=>200) (kZ bJ) (uB C)) (oU (oe (fQ (eL (ai (aO il) (ag av (ag aQ (ag (d1 (aH C "taken") bA) ao))))) (fQ (eL (cj C "moats" (gV C) bA ao)) jW)))))))))
def gU(C:U1):Ql D->Qo Ev:=dR 3 ["web", "weights", "wishes", "lost", "pieces", "growing", "full"] (xj C)
def IQ{C:U1}(cl:Sd K C)(n_taken:RE K C "taken")(Fn:L2.R8 K "join_by_moats" "join_by_moats" rH ad fd)(bu:SV mg)(Zq:Ua P w K mg base "first_parted" 2 iq)(ze4:zbA P w K mg base "Pieces" C 1 (m4 C))(zbr:Ua P w K mg base "wanting" 1 (jF C))(ze3:VD P w K mg base C "first_full" 2 (lC C))(ze1:XJ P w K mg base C "halve_parts" 1 (qm C))(ze2:XJ P w K mg base C "grow" 1 (qo C))(zeZ:VD P w K mg base C "steps_to_full" 2 (mZ C))(zeY:XJ P w K mg base C "take" 1 (ql C))(ze0:VD P w K mg base C "moats" 3 (gV C))(zeM:Ua P w K mg base "needed" 3 il):RO P w K mg base bz 4 ad fd ["web", "weights", "wishes"] (SO K (gU C)):=by
 have SC:=FN
 refine eR (k:=3) Fn SC (λ_ _ e=>eQ e) (xj C) (λ_ _ e=>eP e) (λRu A outer s H E F hr=>?_)
 refine bC ?_ ?_
 .exact(ck (i:=3) SC.nd rfl (aC rfl) (e9 Zq hr.mono (aq (aa 0) (aq (aa 2) (aq (sI rfl rfl bu.Uc rfl bu.UL (aq (dy iT rfl bu.U8 PySem.boot_len (aq (bI (aa 0) aF) aD)) aD)) aD)))))
 refine bC ?_ ?_
 .exact(e8 (cA Jj (aa 3) nU) (bH G0) fA)
 refine bC ?_ ?_
 .exact(ck (i:=4) SC.nd rfl (aC rfl) (HP ze4 hr.mono (aq (aa 0) (aq (aa 1) aD))))
 refine bC ?_ ?_
 .exact(ck (i:=5) SC.nd rfl (aC rfl) (e9 zbr hr.mono (aq (aa 4) (aq (aa 2) aD))))
 refine bC ?_ ?_
 .exact(sk (λ_=>200) PassesOwn.never (GV (aa 5)) (bC (G2 5 (ck (i:=6) SC.nd rfl (aC rfl) (l6 cl ze3 hr.mono (aa 4) (aq (aa 5) aD))))
  (bH (e8 (cA AE (aa 6) nU) (bC (vC vX (Hn 4 cl ze1 hr.mono))
  (bH (vC vX (Af 4 cl ze2 hr.mono (aq (aa 5) (aq (dy (LZ rfl) rfl bu.YD (by decide +kernel) (aq (l6 cl zeZ hr.mono (aa 4) (aq (aa 5) aD)) aD)) aD)))))) (bC (vC vX (Af 4 cl zeY hr.mono (aq (aa 6) aD)))
  (bH (ck (i:=5) SC.nd rfl (aC rfl) (e9 zbr hr.mono (aq (aa 4) (aq (aa 2) aD))))))))))
 exact bH (GZ (HB (Ai (λ_=>(Aj (e9 zeM hr.mono (aq (aa 0) (aq (aa 2) (aq (cX cl n_taken (aa 4)) aD)))))) (λ_=>(Ai (λ_=>(Aj (HQ cl ze0 hr.mono (aa 4)))) (λ_=>HA))))))
def FI:Sr ["_law_script", "_law_k", "_law_cell", "_law_number"] ["_law_script", "_law_k"] (bp rD):=cO rfl rfl rfl rfl (by decide +kernel)
def xg:DS :=
 (aE (aM 2 bh) (aE (bY (aI (d2 qL aA (ai bV eZ))) (aM 2 (d2 az av aA)) cM) (aE (aM 3 (d2 qR (d2 qP (d2 c9 (d2 c9 (d2 qR aQ (dC (.int 2147483629))) (d2 qM (d2 qM (dC (.int 104729)) aA) aA)) (dC (.int 11))) m9) (dC (.int 2147483647)))) (aE (bY (aI (d2 qL aQ (d2 qP jJ (dC (.int 18))))) (aM 2 bh) cM) (cx (ai cE (ag aQ gz)))))))
def pY:Ql D->Qo Ev:=dR 2 ["_law_script", "_law_k", "_law_cell", "_law_number"] xg
def IK(Fn:L2.R8 K "_law_pool" "_law_pool" rD ad fd)(bu:SV mg) :RO P w K mg base bz 1 ad fd ["_law_script", "_law_k"] (SO K pY):=by
 have SC:=FI
 refine eR (k:=0) Fn SC (λ_ _ e=>eQ e) xg (λ_ _ e=>eP e) (λRu A outer s H E F hr=>?_)
 refine bC ?_ ?_
 .exact(ck (i:=2) SC.nd rfl (aC rfl) aF)
 refine bC ?_ ?_
 .exact(e8 (cA nY (aa 1) (dy iT rfl bu.U8 PySem.boot_len (aq (aa 0) aD))) (bH (ck (i:=2) SC.nd rfl (aC rfl) (bI (aa 0) (aa 1)))) fA)
 refine bC ?_ ?_
 .exact(ck (i:=3) SC.nd rfl (aC rfl) (bU jg (bU vV (bU (T2.or fD) (bU (T2.or fD) (bU jg (aa 2) aF) (bU (Ub.or fP) (bU (Ub.or fP) aF (aa 1)) (aa 1))) aF) aF) aF))
 refine bC ?_ ?_
 .exact(e8 (cA nY (aa 2) (bU vV aF aF)) (bH (ck (i:=2) SC.nd rfl (aC rfl) aF)) fA)
 exact bH (dX (fB (aq (aa 2) (aq (aa 3) aD))))
def FG:Sr ["_law_pool_here", "_law_many", "_law_found"] ["_law_pool_here", "_law_many"] (bp rB):=cO rfl rfl rfl rfl (by decide +kernel)
noncomputable def Cb(p:U1):WS af :=
 (bj (iB (km (cL qG (gR p 0 0) (bg af bh))) (bj (dO 2 (cL qR (gR p 0 0) jG))
  (bj (jO p 0 0 (cL qV (gR p 0 0) jG))
  (cy af (fj 2)))) nK)
  (bj (jO p 0 1 (cL qR (cL c9 (cL qM (gR p 0 1) (bg af (dC (.int 48271)))) (bg af (dC (.int 11)))) (bg af (dC (.int 2147483647)))))
  (jN (cL qR (cL qV (cL qR (cL qM (gR p 0 1) (gR p 0 1)) (bg af (dC (.int 2147483629)))) (bg af (dC (.int 64)))) jG))))
def di:Int×Int->Ql D->Qo (Ev×(Int×Int)):=gK (ρ:=af) 2 ["_law_pool_here", "_law_many", "_law_found"] Cb
def II(Fn:L2.R8 K "_law_take" "_law_take" rB ad fd)(bu:SV mg) :RO P w K mg base bz 1 ad fd ["_law_pool_here", "_law_many"] (U7 af K di):=by
 have SC:=FG
 refine mC lX (k:=0) (m:=2) Fn SC rfl Cb (λRu A outer s H E F p hr=>?_)
 refine bX ?_ ?_
 .exact(sh (vy (λ_=>l8) (l5 0) (aU λ_=>aF)) (bX (g6 (i:=2) SC.nd rfl (aC rfl) (fO (λ_=>jg) (l5 0) (aU λ_=>(aa 1))))
  (bX (z9 0 (fO (λ_=>kB) (l5 0) (aU λ_=>(aa 1))))
  (fz (df λF=>(jQ 2))))) sg)
 refine bX ?_ ?_
 .exact(z9 0 (fO (λ_=>jg) (fO (λ_=>(T2.or fD)) (fO (λ_=>(Ub.or fP)) (l5 0) (aU λ_=>aF)) (aU λ_=>aF)) (aU λ_=>aF)))
 exact fz (sf (fO (λ_=>jg) (fO (λ_=>kB) (fO (λ_=>jg) (fO (λ_=>(Ub.or fP)) (l5 0) (l5 0)) (aU λ_=>aF)) (aU λ_=>aF)) (aU λ_=>(aa 1))))
def FC:Sr ["_law_pool_here", "_law_many"] ["_law_pool_here", "_law_many"] (bp q9):=cO rfl rfl rfl rfl (by decide +kernel)
def B8(p:U1):WS af :=
 (jN (cL qR (cL c9 (cL qM (eX p di (aX eW (aX (bg af (dC (.int 1000003))) SU))) (bg af (dC (.int 1000003)))) (eX p di (aX eW (aX (bg af (dC (.int 1000003))) SU)))) jG))
def uH:Int×Int->Ql D->Qo (Ev×(Int×Int)):=gK (ρ:=af) 2 ["_law_pool_here", "_law_many"] B8
def IE(Fn:L2.R8 K "_law_wide" "_law_wide" q9 ad fd)(bu:SV mg)(TH:Ut af P w K mg base "_law_take" 1 di):RO P w K mg base bz 2 ad fd ["_law_pool_here", "_law_many"] (U7 af K uH):=by
 have SC:=FC
 refine mC lX (k:=1) (m:=2) Fn SC rfl B8 (λRu A outer s H E F p hr=>?_)
 exact fz (sf (fO (λ_=>jg) (fO (λ_=>(T2.or fD)) (fO (λ_=>(Ub.or fP)) (eI TH hr.mono (bL (aU λ_=>aa 0) (bL (aU λ_=>aF) ez))) (aU λ_=>aF)) (eI TH hr.mono (bL (aU λ_=>aa 0) (bL (aU λ_=>aF) ez)))) (aU λ_=>(aa 1))))
def FE:Sr ["_law_pool_here", "_law_most", "_law_many", "_law_dense", "_law_line", "_law_ties", "_law_one", "_law_other"] ["_law_pool_here", "_law_most"] (bp rh):=cO rfl rfl rfl rfl (by decide +kernel)
def rX:DT:=(ij (aI (d2 qG bA bh)) (aI (d2 d5 lD (d2 c9 cH bT))))
noncomputable def GF(p:U1):WE af:=(cL d5 (eX p di (aX eW (aX (bg af bE) SU))) (bg af bh))
noncomputable def vv(p:U1):WT af:=(Vi (km (GF p)) (jK af rX))
noncomputable def Dv(p:U1):WS af:=(iB (vv p) (cy af (fH 5 (ai cY (ag cH lI)))) nK)
noncomputable def uy(p:U1):WS af:=(gZ (cb 7) (iK af (oI (d2 c9 cH bT) aQ)) (Dv p))
noncomputable def Ca(p:U1):WS af :=
 (bj (dO 2 (cL c9 (bg af bT) (eX p di (aX eW (aX jG SU))))) (bj (dO 3 (cL az (bg af (ai cE (ag gB (ag m9 (ag qu ao))))) (eX p di (aX eW (aX (bg af m9) SU))))) (bj (dO 4 (eX p di (aX eW (aX (bg af m9) SU)))) (bj (cy af (aM 5 (ai cE ao))) (bj (gZ i7 (iK af (hZ aQ)) (uy p)) (cy af (kc 5 (cx (ai cY (ag aQ fw))))))))))
def pW:Int×Int->Ql D->Qo (Ev×(Int×Int)):=gK (ρ:=af) 2 ["_law_pool_here", "_law_most", "_law_many", "_law_dense", "_law_line", "_law_ties", "_law_one", "_law_other"] Ca
def IG(Fn:L2.R8 K "_law_web" "_law_web" rh ad fd)(bu:SV mg)(TH:Ut af P w K mg base "_law_take" 1 di):RO P w K mg base bz 2 ad fd ["_law_pool_here", "_law_most"] (U7 af K pW):=by
 have SC:=FE
 refine mC lX (k:=1) (m:=2) Fn SC rfl Ca (λRu A outer s H E F p hr=>?_)
 refine bX ?_ ?_
 .exact(g6 (i:=2) SC.nd rfl (aC rfl) (fO (λ_=>(T2.or fD)) (aU λ_=>aF) (eI TH hr.mono (bL (aU λ_=>aa 0) (bL (aU λ_=>(aa 1)) ez)))))
 refine bX ?_ ?_
 .exact(g6 (i:=3) SC.nd rfl (aC rfl) (Ao (aU λ_=>(fB (aq aF (aq aF (aq aF aD))))) (eI TH hr.mono (bL (aU λ_=>aa 0) (bL (aU λ_=>aF) ez)))))
 refine bX ?_ ?_
 .exact(g6 (i:=4) SC.nd rfl (aC rfl) (eI TH hr.mono (bL (aU λ_=>aa 0) (bL (aU λ_=>aF) ez))))
 refine bX ?_ ?_
 .exact(df λF=>(ck (i:=5) SC.nd rfl (aC rfl) (fB aD)))
 refine bX ?_ ?_
 .exact(si PassesOwn.never rfl (sC λ_=>(vN rfl bu.UL (aa 2))) (aY (i:=6) SC.nd rfl (aC rfl)) (λ_=>(bq 6)) (fz (si PassesOwn.never rfl (sC λ_=>(HF rfl bu.UL (bU (T2.or fD) (aa 6) aF) (aa 2))) (aY (i:=7) SC.nd rfl (aC rfl)) (λ_=>(bq 7)) (fz (sh (PW.ptw (GG (vy (λ_=>(jT hr.units)) (eI TH hr.mono (bL (aU λ_=>aa 0) (bL (aU λ_=>(aa 3)) ez))) (aU λ_=>aF)) (GH (z5 λ_=>(L2.PW.pt (rZ (cA l8 (aa 4) aF) (rY (cA (jT hr.units) (aa 7) (bU (T2.or fD) (aa 6) aF))))))))) (fz (df λF=>(lU 5 (iH (aq (aa 6) (aq (aa 7) aD)))))) sg)))))
 exact fz (df λF=>(nS 5 (dX (iH (aq (aa 2) (aq (aa 5) aD))))))
def FD:Sr ["_law_pool_here", "_law_way"] ["_law_pool_here"] (bp rf):=cO rfl rfl rfl rfl (by decide +kernel)
def B9(p:U1):WS af :=
 (bj (dO 1 (eX p di (aX eW (aX (bg af (dC (.int 8))) SU))))
  (bj (cy af (bY (aI (d2 d5 aA bh)) (cx bh) cM))
  (bj (iB (jK af (aI (d2 qL aA qu))) (jN (eX p di (aX eW (aX (bg af jJ) SU)))) nK)
  (jN (eX p uH (aX eW (aX (bg af (d2 c9 (d2 qP jJ (dC (.int 9))) bT)) SU)))))))
def lz:Int×Int->Ql D->Qo (Ev×(Int×Int)):=gK (ρ:=af) 1 ["_law_pool_here", "_law_way"] B9
def IF(Fn:L2.R8 K "_law_weight" "_law_weight" rf ad fd)(bu:SV mg)(TH:Ut af P w K mg base "_law_take" 1 di)(zeP:Ut af P w K mg base "_law_wide" 2 uH):RO P w K mg base bz 3 ad fd ["_law_pool_here"] (U7 af K lz):=by
 have SC:=FD
 refine mC lX (k:=2) (m:=1) Fn SC rfl B9 (λRu A outer s H E F p hr=>?_)
 refine bX ?_ ?_
 .exact(g6 (i:=1) SC.nd rfl (aC rfl) (eI TH hr.mono (bL (aU λ_=>aa 0) (bL (aU λ_=>aF) ez))))
 refine bX ?_ ?_
 .exact(df λF=>(e8 (cA (jT hr.units) (aa 1) aF) (bH (dX aF)) fA))
 refine bX ?_ ?_
 .exact(sh (z5 λ_=>(cA nY (aa 1) aF)) (fz (sf (eI TH hr.mono (bL (aU λ_=>aa 0) (bL (aU λ_=>aF) ez))))) sg)
 exact fz (sf (eI zeP hr.mono (bL (aU λ_=>aa 0) (bL (aU λ_=>(bU (T2.or fD) (bU vV aF aF) aF)) ez))))
def FH:Sr ["_law_web_here", "_law_ties", "_law_start", "_law_found", "_law_at", "_law_number", "_law_one", "_law_other"] ["_law_web_here", "_law_ties", "_law_start"] (bp rC):=cO rfl rfl rfl rfl (by decide +kernel)
def ux:DS:=(aE (dv (cK 2 (dg i7 (dg (cb 7) gN))) (d2 az (d2 az av bT) bJ))
  (aE (bY (ij (aI (d2 d5 cH (d2 az bE bA))) (aI (d2 kL lD bE))) (fH 3 lD) cM)
  (bY (ij (aI (d2 d5 lD (d2 az bE bA))) (aI (d2 kL cH bE))) (fH 3 cH) cM)))
def pG:DS:=(aE (fX jI aA ux) (aM 4 (d2 c9 bA bT)))
def xf:DS :=
 (aE (aM 3 (ai cE eY)) (aE (aM 4 bh) (aE (iO (λ_=>100) (aI (d2 qL bA (ai bV gz))) pG) (fj 3))))
def pX:Ql D->Qo Ev:=dR 3 ["_law_web_here", "_law_ties", "_law_start", "_law_found", "_law_at", "_law_number", "_law_one", "_law_other"] xf
def IJ(Fn:L2.R8 K "_law_reached" "_law_reached" rC ad fd)(bu:SV mg) :RO P w K mg base bz 1 ad fd ["_law_web_here", "_law_ties", "_law_start"] (SO K pX):=by
 have SC:=FH
 refine eR (k:=0) Fn SC (λ_ _ e=>eQ e) xf (λ_ _ e=>eP e) (λRu A outer s H E F hr=>?_)
 refine bC ?_ ?_
 .exact(ck (i:=3) SC.nd rfl (aC rfl) (fB (aq (aa 2) aD)))
 refine bC ?_ ?_
 .exact(ck (i:=4) SC.nd rfl (aC rfl) aF)
 refine bC ?_ ?_
 .exact(sk (λ_=>100) PassesOwn.never (cA nY (aa 4) (dy iT rfl bu.U8 PySem.boot_len (aq (aa 3) aD))) (bC (sq PassesOwn.never rfl (aa 1) (aY (i:=5) SC.nd rfl (aC rfl)) (bq 5) (bC (nT (bI (bI (aa 0) aF) (aa 5)) (iG rfl (cW (aY (i:=6) SC.nd rfl (aC rfl)) (cW (aY (i:=7) SC.nd rfl (aC rfl)) gp))) (iA (cR (bq 6) (cR (bq 7) gi))))
  (bC (e8 (L2.PW.pt (rZ (cA (jT hr.units) (aa 6) (bI (aa 3) (aa 4))) (rY (cA AD (aa 7) (aa 3))))) (bH (lU 3 (aa 7))) fA)
  (bH (e8 (L2.PW.pt (rZ (cA (jT hr.units) (aa 7) (bI (aa 3) (aa 4))) (rY (cA AD (aa 6) (aa 3))))) (bH (lU 3 (aa 6))) fA)))))
  (bH (ck (i:=4) SC.nd rfl (aC rfl) (bU (T2.or fD) (aa 4) aF)))))
 exact bH (jQ 3)
def FA:Sr ["_law_pool_here", "_law_web_here", "_law_most", "_law_found", "_law_k", "_law_one", "_law_there", "_law_other"] ["_law_pool_here", "_law_web_here", "_law_most"] (bp q8):=cO rfl rfl rfl rfl (by decide +kernel)
noncomputable def uw(p:U1):WS af:=(bj (dO 5 (eX p di (aX eW (aX (bg af (d2 az aA bh)) SU))))
  (bj (cy af (aM 6 (ai g9 (ag (ai (aO pX) (ag aA (ag (ig (ag (ai bV (ag (d2 az aA bT) ao)) ao)) fw))) ao))))
  (bj (dO 7 (cL az (bg af cH) (eX p di (aX eW (aX (bg af (ai bV (ag cH ao))) SU)))))
  (cy af (fH 3 (ai cY (ag (ai qN lG) (ag (ai qX lG) ao))))))))
noncomputable def B7(p:U1):WS af :=
 (bj (cy af (aM 3 (ai cE ao))) (bj (gZ gf (kS (eX p di (aX eW (aX (bg af (d2 c9 aQ bT)) SU)))) (uw p)) (cy af (fj 3))))
def pV:Int×Int->Ql D->Qo (Ev×(Int×Int)):=gK (ρ:=af) 3 ["_law_pool_here", "_law_web_here", "_law_most", "_law_found", "_law_k", "_law_one", "_law_there", "_law_other"] B7
def ID(Fn:L2.R8 K "_law_wishes" "_law_wishes" q8 ad fd)(bu:SV mg)(TH:Ut af P w K mg base "_law_take" 1 di)(zeS:Ua P w K mg base "_law_reached" 1 pX):RO P w K mg base bz 2 ad fd ["_law_pool_here", "_law_web_here", "_law_most"] (U7 af K pV):=by
 have SC:=FA
 refine mC lX (k:=1) (m:=3) Fn SC rfl B7 (λRu A outer s H E F p hr=>?_)
 refine bX ?_ ?_
 .exact(df λF=>(ck (i:=3) SC.nd rfl (aC rfl) (fB aD)))
 refine bX ?_ ?_
 .exact(si PassesOwn.never rfl (HE rfl bu.UL (eI TH hr.mono (bL (aU λ_=>aa 0) (bL (aU λ_=>(bU (T2.or fD) (aa 2) aF)) ez)))) (aY (i:=4) SC.nd rfl (aC rfl)) (λ_=>(bq 4)) (bX (g6 (i:=5) SC.nd rfl (aC rfl) (eI TH hr.mono (bL (aU λ_=>aa 0) (bL (aU λ_=>(bI (aa 1) aF)) ez))))
  (bX (df λF=>(ck (i:=6) SC.nd rfl (aC rfl) (dy um rfl bu.Xj boot_sorted (aq (e9 zeS hr.mono (aq (aa 1) (aq (sI rfl rfl bu.Uc rfl bu.UL (aq (dy iT rfl bu.U8 PySem.boot_len (aq (bI (aa 1) aF) aD)) aD)) (aq (aa 5) aD)))) aD))))
  (bX (g6 (i:=7) SC.nd rfl (aC rfl) (Ao (aU λ_=>(aa 6)) (eI TH hr.mono (bL (aU λ_=>aa 0) (bL (aU λ_=>(dy iT rfl bu.U8 PySem.boot_len (aq (aa 6) aD))) ez)))))
  (fz (df λF=>(lU 3 (iH (aq (dy (Dc rfl) rfl bu.YD (by decide +kernel) (aq (aa 5) (aq (aa 7) aD))) (aq (dy (Dd rfl) rfl bu.zaj (by decide +kernel) (aq (aa 5) (aq (aa 7) aD))) aD))))))))))
 exact fz (df λF=>(jQ 3))
def FK:Sr ["_law_top", "_law_bottom", "_law_one", "_law_other"] ["_law_top", "_law_bottom"] (bp rF):=cO rfl rfl rfl rfl (by decide +kernel)
def og:DS:=(iP 2 3 (ag bE (ag (d2 qR aQ bE) ao)))
def sY:DT:=(aI (d2 qG bE bh))
def xh:DS :=
 (aE (aM 2 (ai j4 eZ)) (aE (aM 3 aA) (aE (iO (kW 3) sY og) (cx (ai cY (ag (d2 qV av aQ) (ag (d2 qV aA aQ) ao)))))))
def mY:Ql D->Qo Ev:=dR 2 ["_law_top", "_law_bottom", "_law_one", "_law_other"] xh
def IM(Fn:L2.R8 K "_law_low" "_law_low" rF ad fd)(bu:SV mg) :RO P w K mg base bz 1 ad fd ["_law_top", "_law_bottom"] (SO K mY):=by
 have SC:=FK
 refine eR (k:=0) Fn SC (λ_ _ e=>eQ e) xh (λ_ _ e=>eP e) (λRu A outer s H E F hr=>?_)
 refine bC ?_ ?_
 .exact(ck (i:=2) SC.nd rfl (aC rfl) (dy De rfl bu.zak Di (aq (aa 0) aD)))
 refine bC ?_ ?_
 .exact(ck (i:=3) SC.nd rfl (aC rfl) (aa 1))
 refine bC ?_ ?_
 .exact(sk (kW 3) PassesOwn.never (cA l8 (aa 3) aF) (bH (vE (i:=2) (j:=3) rfl SC.nd rfl rfl (by decide) rfl rfl (aq (aa 3) (aq (bU jg (aa 2) (aa 3)) aD)) rfl)))
 exact bH (dX (iH (aq (bU kB (aa 0) (aa 2)) (aq (bU kB (aa 1) (aa 2)) aD))))
def FF:Sr ["_law_found", "_law_many"] ["_law_found", "_law_many"] (bp rm):=cO rfl rfl rfl rfl (by decide +kernel)
def oM:DE:=(ai cY (ag (ai dt eZ) (ag (ai (aO mY) (ag (d2 qM (d2 az aA bh) aQ) (ag (d2 az aA bT) ao))) ao)))
def xc:DS :=
 (cx (ai cY (ag (ai dt (ag (d2 az av bh) ao)) (ag (bK 2 [1] (cF (d2 az av bT)) (cK 2 gy) bN oM) ao))))
def lB:Ql D->Qo Ev:=dR 2 ["_law_found", "_law_many"] xc
def IH(Fn:L2.R8 K "_law_times" "_law_times" rm ad fd)(bu:SV mg)(zeV:Ua P w K mg base "_law_low" 1 mY):RO P w K mg base bz 2 ad fd ["_law_found", "_law_many"] (SO K lB):=by
 have SC:=FF
 refine eR (k:=1) Fn SC (λ_ _ e=>eQ e) xc (λ_ _ e=>eP e) (λRu A outer s H E F hr=>?_)
 exact bH (dX (iH (aq (iI iS rfl bu.Uc iU (aq (bI (aa 0) aF) aD)) (aq (g7 2 [1] ["_law_points", "_law_width", "_law_many"] rfl (iF (bI (aa 0) aF)) (λ_ _ _ _ _=>(iG rfl (cW (aY (i:=0) (show List.Nodup (["_law_points", "_law_width", "_law_many"]:Ql Str) by decide +kernel) rfl (aC rfl)) (cW (aY (i:=1) (show List.Nodup (["_law_points", "_law_width", "_law_many"]:Ql Str) by decide +kernel) rfl (aC rfl)) gp)))) (λ_=>(iA (cR (bq 0) (cR (bq 1) gi)))) (λ_ _ _ _ _ _=>gF) (λ_ _ _ _ _ _=>(iH (aq (iI iS rfl bu.Uc iU (aq (aa 0) aD)) (aq (e9 zeV hr.mono (aq (bU (Ub.or fP) (bI (aa 1) aF) (aa 2)) (aq (bI (aa 1) aF) aD))) aD))))) aD))))
def FJ:Sr ["_law_pool_here", "_law_wishes_here", "_law_points", "_law_found", "_law_wish", "_law_point"] ["_law_pool_here", "_law_wishes_here", "_law_points"] (bp rE):=cO rfl rfl rfl rfl (by decide +kernel)
noncomputable def uz(p:U1):WS af:=(bj (dO 5 (eX p di (aX eW (aX (bg af aQ) SU))))
  (cy af (aM 3 (d2 c9 bE (ai cE (ag bA (ag (ai cY (ag bJ fw)) jH)))))))
noncomputable def Cc(p:U1):WS af :=
 (bj (cy af (aM 3 (ai cE ao))) (bj (gZ gf (iK af (cF (d1 hU aA))) (uz p)) (cy af (fj 3))))
def p9:Int×Int->Ql D->Qo (Ev×(Int×Int)):=gK (ρ:=af) 3 ["_law_pool_here", "_law_wishes_here", "_law_points", "_law_found", "_law_wish", "_law_point"] Cc
def IL(Fn:L2.R8 K "_law_more" "_law_more" rE ad fd)(bu:SV mg)(TH:Ut af P w K mg base "_law_take" 1 di):RO P w K mg base bz 2 ad fd ["_law_pool_here", "_law_wishes_here", "_law_points"] (U7 af K p9):=by
 have SC:=FJ
 refine mC lX (k:=1) (m:=3) Fn SC rfl Cc (λRu A outer s H E F p hr=>?_)
 refine bX ?_ ?_
 .exact(df λF=>(ck (i:=3) SC.nd rfl (aC rfl) (fB aD)))
 refine bX ?_ ?_
 .exact(si PassesOwn.never rfl (sC λ_=>(iF (Ap (aa 1)))) (aY (i:=4) SC.nd rfl (aC rfl)) (λ_=>(bq 4)) (bX (g6 (i:=5) SC.nd rfl (aC rfl) (eI TH hr.mono (bL (aU λ_=>aa 0) (bL (aU λ_=>(aa 2)) ez))))
  (fz (df λF=>(ck (i:=3) SC.nd rfl (aC rfl) (bU (T2.or fD) (aa 3) (by refine fB ?_;exact(aq (aa 4) (aq (iH (aq (aa 5) (aq (aa 5) aD))) (aq (aa 4) aD))))))))))
 exact fz (df λF=>(jQ 3))
def FL:Sr ["_law_script", "_law_kept", "_law_held", "_law_k", "_law_pool_here", "_law_web_here", "_law_weights", "_law_wishes_here", "_law_handed", "_law_found", "_law_many", "_law_more_here"] ["_law_script"] (bp rG):=cO rfl rfl rfl rfl (by decide +kernel)
def vw:DE:=(oV (dQ (n6 (dQ (dF (d2 az bJ bh)) (dQ (dF (ai dt (ag (d2 az bJ bT) ao))) jU))) (dQ (dF (ai dt (ag cH ao))) (dQ (dF (ai dt lI)) jU))))
def zQ:DS:=(kc 7 (kc 6 (aM 8 vw)))
def zP:DS:=(kc 9 (fH 2 (ae 9)))
def zO:DS:=(fH 1 (ai (aO lB) (ag (ae 9) (ag bT ao))))
def zW:DS:=(aM 11 (ai cY (ag (d2 c9 (d2 az bJ bh) bT) (ag (ai dt (ag (d2 az bJ bT) ao)) ao))))
def zU:DS:=(bY (aI (d2 dU (ae 8) (ai cE (ag bJ (ag cH lI))))) (cx qt) cM)
def zT:DS:=(pb 8 [bh,bT])
def zS:DS:=(pb 8 [bT])
def zR:DS:=(pb 8 [gB])
def zN(C:U1):DS:=(bY (aI (d2 dU (ai (aO (gU C)) (ag bJ (ag (bK 1 [10] (cF cH) bB bN (d2 qM av aA)) lI))) (ai (aO lB) (ag (ae 9) (ag (ae 10) ao))))) (cx qt) cM)
def zV(C:U1):DS:=(bY (aI (d2 dU (ai (aO (gU C)) (ag (ae 11) (ag cH lI))) (d2 az aA (d1 jk bT)))) (cx qt) cM)
noncomputable def zM(C p:U1):WS af:=(iB (km (cL dU (mG (aO (gU C)) (aX (bg af bJ) (aX (bg af cH) (aX (eX p p9 (aX (bg af bA) (aX (bg af lD) (aX (bg af (d2 az bJ bh)) SU)))) SU)))) (bg af (d2 az aA (d1 jk bT))))) (cy af (cx qt)) nK)
noncomputable def mU(C p:U1):WS af:=(bj (dO 5 (eX p pW (aX (bg af bA) (aX (bg af (dC (.int 8))) SU)))) (bj (dO 6 (oR 1 [4] (iK af (cF (d2 az bJ bT))) bB ny (eX p lz (aX jG SU)))) (bj (dO 7 (eX p pV (aX (bg af bA) (aX (bg af bJ) (aX (bg af (dC (.int 5))) SU))))) (bj (cy af zQ) (bj (cy af (aM 9 (ai (aO (gU C)) (ag (d2 az (ae 8) bh) (ag (d2 az (ae 8) bT) (ag (d2 az (ae 8) gB) ao)))))) (bj (cy af zP) (bj (cy af zO) (bj (dO 10 (cL c9 (bg af gB) (eX p di (aX (bg af bA) (aX (bg af (dC (.int 999))) SU))))) (bj (cy af (zN C)) (bj (zM C p) (bj (cy af zW) (bj (cy af (zV C)) (bj (cy af zU) (bj (cy af zT) (bj (cy af zS) (cy af zR))))))))))))))))
noncomputable def xi(C:U1):DS :=
 (aE (aM 1 (ai cE ao)) (aE (aM 2 (ai cE ao)) (aE (jy iy (ai qX (ag bT (ag (ai qN (ag (ai bV eZ) (ag jJ ao))) ao))) (aE (aM 4 (ai (aO pY) (ag av gz))) (k7 4 λp=>(mU C p)))) (cx (d2 d5 aQ aA)))))
def yG(C:U1):Ql D->Qo Ev:=dR 1 ["_law_script", "_law_kept", "_law_held", "_law_k", "_law_pool_here", "_law_web_here", "_law_weights", "_law_wishes_here", "_law_handed", "_law_found", "_law_many", "_law_more_here"] (xi C)
def IP{C:U1}(cl:Sd K C) (Fn:L2.R8 K "law" "law" rG ad fd)(bu:SV mg)(zeT:Ua P w K mg base "_law_pool" 1 pY)(zeR:Ut af P w K mg base "_law_web" 2 pW)(zeQ:Ut af P w K mg base "_law_weight" 3 lz)(zeO:Ut af P w K mg base "_law_wishes" 2 pV)(Yi:Ua P w K mg base "join_by_moats" 4 (gU C))(zbs:Ua P w K mg base "_law_times" 2 lB)(TH:Ut af P w K mg base "_law_take" 1 di)(zeU:Ut af P w K mg base "_law_more" 2 p9):RO P w K mg base bz 5 ad fd ["_law_script"] (SO K (yG C)):=by
 have SC:=FL
 refine eR (k:=4) Fn SC (λ_ _ e=>eQ e) (xi C) (λ_ _ e=>eP e) (λRu A outer s H E F hr=>?_)
 refine bC ?_ ?_
 .exact(ck (i:=1) SC.nd rfl (aC rfl) (fB aD))
 refine bC ?_ ?_
 .exact(ck (i:=2) SC.nd rfl (aC rfl) (fB aD))
 refine bC ?_ ?_
 .exact(Ab PassesOwn.never rfl rfl bu.UL (dy (Dd rfl) rfl bu.zaj (by decide +kernel) (aq aF (aq (dy (Dc rfl) rfl bu.YD (by decide +kernel) (aq (dy iT rfl bu.U8 PySem.boot_len (aq (aa 0) aD)) (aq aF aD))) aD))) (aY (i:=3) SC.nd rfl (aC rfl)) (bq 3) (bC (ck (i:=4) SC.nd rfl (aC rfl) (e9 zeT hr.mono (aq (aa 0) (aq (aa 3) aD))))
  (G1 4 λp=>(bX (g6 (i:=5) SC.nd rfl (aC rfl) (eI zeR hr.mono (bL (aU λ_=>aa 4) (bL (aU λ_=>aF) ez))))
  (bX (GY (i:=6) 1 [4] ["_law_tie", "_law_pool_here"] SC.nd rfl (Or.inl rfl) rfl (sC λ_=>(iF (bI (aa 5) aF))) (λ_ _ _ _ _=>(aY (i:=0) (show List.Nodup (["_law_tie", "_law_pool_here"]:Ql Str) by decide +kernel) rfl (aC rfl))) (λ_=>(bq 0)) (λ_ _ _ _ _ _=>GQ) (λ_ _ _ _ _ _=>(eI zeQ hr.mono (bL (aU λ_=>aa 1) ez))))
  (bX (g6 (i:=7) SC.nd rfl (aC rfl) (eI zeO hr.mono (bL (aU λ_=>aa 4) (bL (aU λ_=>(aa 5)) (bL (aU λ_=>aF) ez)))))
  (bX (df λF=>(nS 7 (nS 6 (ck (i:=8) SC.nd rfl (aC rfl) (HM (kx (Hz (kx (lY (bI (aa 5) aF)) (kx (lY (iI iS rfl bu.Uc iU (aq (bI (aa 5) aF) aD))) vK))) (kx (lY (iI iS rfl bu.Uc iU (aq (aa 6) aD))) (kx (lY (iI iS rfl bu.Uc iU (aq (aa 7) aD))) vK))))))))
  (bX (df λF=>(ck (i:=9) SC.nd rfl (aC rfl) (e9 Yi hr.mono (aq (bI (aa 8) aF) (aq (bI (aa 8) aF) (aq (bI (aa 8) aF) aD))))))
  (bX (df λF=>(nS 9 (lU 2 (aa 9))))
  (bX (df λF=>(lU 1 (e9 zbs hr.mono (aq (aa 9) (aq aF aD)))))
  (bX (g6 (i:=10) SC.nd rfl (aC rfl) (fO (λ_=>(T2.or fD)) (aU λ_=>aF) (eI TH hr.mono (bL (aU λ_=>aa 4) (bL (aU λ_=>aF) ez)))))
  (bX (df λF=>(e8 (cA (jS hr.units) (e9 Yi hr.mono (aq (aa 5) (aq (g7 1 [10] ["_law_one", "_law_many"] rfl (iF (aa 6)) (λ_ _ _ _ _=>(aY (i:=0) (show List.Nodup (["_law_one", "_law_many"]:Ql Str) by decide +kernel) rfl (aC rfl))) (λ_=>(bq 0)) (λ_ _ _ _ _ _=>gF) (λ_ _ _ _ _ _=>(bU (Ub.or fP) (aa 0) (aa 1)))) (aq (aa 7) aD)))) (e9 zbs hr.mono (aq (aa 9) (aq (aa 10) aD)))) (bH (dX nV)) fA))
  (bX (sh (vy (λ_=>(jS hr.units)) (HK Yi hr.mono (bL (aU λ_=>(aa 5)) (bL (aU λ_=>(aa 6)) (bL (eI zeU hr.mono (bL (aU λ_=>aa 4) (bL (aU λ_=>(aa 7)) (bL (aU λ_=>(bI (aa 5) aF)) ez)))) ez)))) (aU λ_=>(bI (aa 1) (sH aF)))) (fz (df λF=>(dX nV))) sg)
  (bX (df λF=>(ck (i:=11) SC.nd rfl (aC rfl) (iH (aq (bU (T2.or fD) (bI (aa 5) aF) aF) (aq (iI iS rfl bu.Uc iU (aq (bI (aa 5) aF) aD)) aD)))))
  (bX (df λF=>(e8 (cA (jS hr.units) (e9 Yi hr.mono (aq (aa 11) (aq (aa 6) (aq (aa 7) aD)))) (bI (aa 1) (sH aF))) (bH (dX nV)) fA))
  (bX (df λF=>(e8 (cA (jS hr.units) (aa 8) (fB (aq (aa 5) (aq (aa 6) (aq (aa 7) aD))))) (bH (dX nV)) fA))
  (bX (df λF=>(vF 8 (sA (sA (vL 8) aF) aF)))
  (bX (df λF=>(vF 8 (sA (vL 8) aF)))
  (fz (df λF=>(vF 8 (sA (vL 8) aF))))))))))))))))))))))
 exact bH (dX (HW (jT hr.units) (aa 2) (aa 1)))
end
def pJ(t:Th){xs:Ql D}{d:D}(hf:f t=Qs (.cl d))(hi:t[i]?=Qs (.own xs))(hl:xs.length<100000):fH i f t=Qs (.nx (t.set i (.own (xs++[d])))):=by
 unfold fH
 rw[hf]
 simp only[MP,tL,hi,Ev.ok,Ev.d,hl,decide_true,Bool.and_self,if_true]
def Ms(t:Th){d:D}(hf:f t=Qs (.cl d))(hi:i<t.length):aM i f t=Qs (.nx (t.set i (.val d))):=by
 unfold aM
 rw[hf]
 simp only[MP,cJ,hi,if_true,Oe]
def Ss:∀xs:Ql Int,RB (xs.map D.int)=Qt
 |[]=>rfl
 |x::xs=>by
  have:=Ss xs
  simp[RB,flat,this]
def eG{k:Ql Ev->Qo Ev}{ra rb:Ev}(h1:fa t=Qs ra)(h2:fb t=Qs rb):ai k (ag fa (ag fb ao)) t=k [ra,rb]:=by
 simp[ai,ag,ao,h1,h2]
def cQ{k:Ev->Ev->Qo Ev}{ra rb:Ev}(h1:fa t=Qs ra)(h2:fb t=Qs rb):d2 k fa fb t=k ra rb:=by
 simp[d2,h1,h2]
def kn{k:Ql Ev->Qo Ev}{fc:DE}{ra rb rc:Ev}(h1:fa t=Qs ra)(h2:fb t=Qs rb)(h3:fc t=Qs rc):ai k (ag fa (ag fb (ag fc ao))) t=k [ra,rb,rc]:=by
 simp[ai,ag,ao,h1,h2,h3]
def gX{k:Ql Ev->Qo Ev}{ra:Ev}(h1:fa t=Qs ra):ai k (ag fa ao) t=k [ra]:=by
 simp[ai,ag,ao,h1]
def iW{d:D}(hf:f t=Qs (.cl d))(hi:i<t.length):aM i f t=Qs (.nx (t.set i (.val d))):=Ms t hf hi
def ik{xs:Ql D}(hf:f t=Qs (.nw xs))(hi:i<t.length):aM i f t=Qs (.nx (t.set i (.own xs))):=by
 unfold aM
 rw[hf]
 simp only[MP,cJ,hi,if_true,Oe]
def wO(n b:Nat)(h:b<n):Sz n (b:Int)=Qs b:=by unfold Sz;rw[QO (by lia),QO (by lia)];simp
def get_map(L:Ql Int)(b:Nat)(h:b<L.length):(L.map D.int)[b]?=Qs (.int (L.getD b 0)):=by simp[M5,h]
def Mp(L:Ql Int)(b:Nat)(h:b<L.length):RP (L.map D.int) (b:Int)=Qs (.int (L.getD b 0)):=by
 unfold RP
 rw[wO _ _ (by simpa using h)]
 exact get_map L b h
def KC (L:Ql Int)(b:Nat)(h:b<L.length)(h1:r1.d=.lst (L.map D.int))(h2:r2.d=.int (b:Int)):az r1 r2=Qs (.cl (.int (L.getD b 0))):=by
 unfold az
 rw[h1,h2]
 show(RP (L.map D.int) (b:Int)).map _=_
 rw[Mp L b h]
 simp[flat]
def w6{c:DT}{g1 g2:DS}{b:Bool}(h:c t=Qs b):bY c g1 g2 t=if b then g1 t else g2 t:=by
 unfold bY;rw[h];rfl
def jn{c:DT}{g1 g2:DS}{b:Bool}(h:c t=Qs b)(hb:b=Qt):bY c g1 g2 t=g1 t:=by
 rw[w6 h,hb];rfl
def BQ{c:DT}{g1 g2:DS}{b:Bool}(h:c t=Qs b)(hb:b=Qf):bY c g1 g2 t=g2 t:=by
 rw[w6 h,hb];rfl
def KQ (p:Int)(K:Ql Int)(h1:r1.d=.int p)(h2:r2.d=.lst (K.map D.int)):TC r1 r2=Qs (.cl (.bl (decide (p∈K)))):=by
 unfold TC
 rw[h1,h2]
 clear h2
 have e1:(K.map D.int).all (λd=>aP d&&aS 0 d (.int p))=Qt:=by
  rw[NJ]
  intro d hd
  obtain⟨k,_,rfl⟩:=Ny.mp hd
  rfl
 have e2:(K.map D.int).any (λd=>cg d (.int p))=decide (p∈K):=by
  induction K with
  |nil=>rfl
  |cons k K ih =>
   have VX:(K.map D.int).all (λd=>aP d&&aS 0 d (.int p))=Qt:=by
    simp only[M4,NQ,MX]at e1;exact e1.2
   rw[M4,OA,ih VX,xF]
   by_cases h:k=p
   .subst h;simp
   .have : ¬ p=k:=λq=>h q.symm
    simp[h,this]
 show(if aP (.int p)&&(K.map D.int).all (λd=>aP d&&aS 0 d (.int p)) then Qs (Ev.cl (.bl ((K.map D.int).any λd=>cg d (.int p)))) else Qn)=_
 rw[e1,e2]
 rfl
def Me (p:Int)(K:Ql Int)(ha:fa t=Qs r1)(hb:fb t=Qs r2)(h1:r1.d=.int p)(h2:r2.d=.lst (K.map D.int)):aI (d2 TC fa fb) t=Qs (decide (p∈K)):=by
 unfold aI
 rw[cQ ha hb,KQ p K h1 h2]
 rfl
def Mu(t:Th) (hf:f t=Qs (.cl (.int p)))(hi:t[i]?=Qs (.own (xs.map D.int)))(hl:xs.length<100000):fH i f t=Qs (.nx (t.set i (.own ((xs++[p]).map D.int)))):=by
 rw[pJ t hf hi (by simpa using hl)]
 simp
def uV{g1 g2:DS}(h:g1 t=Qs (.rt r)):aE g1 g2 t=Qs (.rt r):=by simp[aE,h]
def gu{c:DT}{g:DS}{b:Bool}(h:c t=Qs b)(hb:b=Qf):bY c g cM t=Qs (.nx t):=(BQ h hb).trans rfl
def RN{g:Qo Out}(h:g=Qs (.rt r)):g.bind dD=Qs r:=by rw[h];rfl
def jE (h1:fa t=Qs (.cl (.int a)))(h2:fb t=Qs (.cl (.int b))):(d2 c9 fa fb) t=Qs (.cl (.int (a+b))):=(cQ h1 h2).trans rfl
def zg (h1:fa t=Qs (.cl (.int a)))(h2:fb t=Qs (.cl (.int b))):(d2 qS fa fb) t=Qs (.cl (.int (a - b))):=(cQ h1 h2).trans rfl
def AY (h1:fa t=Qs (.cl (.int a)))(h2:fb t=Qs (.cl (.int b)))(hb:b≠0):(d2 qR fa fb) t=Qs (.cl (.int (a.fmod b))):=by
 rw[cQ h1 h2]
 show(if jA a b=Qt then _ else Qn)=_
 rw[QO (by unfold jA;exact RC hb)]
def oS (h1:fa t=Qs (.cl (.int a)))(h2:fb t=Qs (.cl (.int b)))(hb:b≠0)(hs:sm b=Qt):(d2 qV fa fb) t=Qs (.cl (.int (a.fdiv b))):=by
 rw[cQ h1 h2]
 show(if Vd a b=Qt then _ else Qn)=_
 rw[QO (by unfold Vd;rw[hs];simp[hb])]
def mf (h1:fa t=Qs (.cl (.int a)))(h2:fb t=Qs (.cl (.int b)))(ha:sm a=Qt)(hb:sm b=Qt):(d2 qM fa fb) t=Qs (.cl (.int (a*b))):=by
 rw[cQ h1 h2]
 have:UY a b=Qt:=by simp only[UY];rw[ha,hb];rfl
 simp[kK,kI,Ev.d,this]
def oh (h1:fa t=Qs (.cl (.int a)))(h2:fb t=Qs (.cl (.int b))):aI (d2 qL fa fb) t=Qs (decide (a<b)):=by
 unfold aI;rw[cQ h1 h2];rfl
def oF (h1:fa t=Qs (.cl (.int a)))(h2:fb t=Qs (.cl (.int b))):aI (d2 qG fa fb) t=Qs (decide (b<a)):=by
 unfold aI;rw[cQ h1 h2];rfl
def oO (h1:fa t=Qs (.cl (.int a)))(h2:fb t=Qs (.cl (.int b))):aI (d2 d5 fa fb) t=Qs (decide (a=b)):=by
 unfold aI;rw[cQ h1 h2]
 have:d5 (.cl (.int a)) (.cl (.int b))=Qs (.cl (.bl (cg (.int a) (.int b)))):=rfl
 rw[this,xF];rfl
def wc (h1:fa t=Qs (.cl (.int a)))(h2:fb t=Qs (.cl (.int b))):aI (d2 dU fa fb) t=Qs (!decide (a=b)):=by
 unfold aI;rw[cQ h1 h2]
 have:dU (.cl (.int a)) (.cl (.int b))=Qs (.cl (.bl (!cg (.int a) (.int b)))):=rfl
 rw[this,xF];rfl
def DB{f g:DT}{a b:Bool}(h1:f t=Qs a)(h2:g t=Qs b):ij f g t=Qs (a&&b):=by
 unfold ij;rw[h1];cases a<;>simp[h2]
def oo (h:f t=Qs r)(hr:r.d=.lst (xs.map D.int)):(ai bV (ag f ao)) t=Qs (.cl (.int (xs.length:Int))):=by
 rw[gX h]
 unfold bV
 simp only[hr,MY]
def wN (L:Ql Int)(b:Nat)(ha:fa t=Qs r1)(hb:fb t=Qs r2)(h:b<L.length)(h1:r1.d=.lst (L.map D.int))(h2:r2.d=.int (b:Int)):(d2 az fa fb) t=Qs (.cl (.int (L.getD b 0))):=by
 rw[cQ ha hb,KC L b h h1 h2]
def pB{G:Ql D->Qo Ev}(h:G (rs.map Ev.d)=Qs (.nw (xs.map D.int))):aO G rs=Qs (.nw (xs.map D.int)):=by
 unfold aO
 rw[h]
 simp only[Oe,gD]
 split
 .rfl
 .simp[Ss]
def mR{G:Ql D->Qo Ev}{d:D}(h:G (rs.map Ev.d)=Qs (.cl d))(hf:flat d=Qt):aO G rs=Qs (.cl d):=by
 unfold aO
 rw[h]
 simp only[Oe,gD]
 split
 .rfl
 .simp[hf]
def ui{g:DA}(h1:f t=Qs r)(h2:g t=Qs rs):ag f g t=Qs (r::rs):=by
 unfold ag;rw[h1,h2];rfl
def jd (h:f t=Qs r):cx f t=Qs (.rt r):=by
 unfold cx;rw[h];rfl
def Cu{k:D->Th->Qo Th}{b:DS}(h:f t=Qs r)(hd:r.d=.lst ds)(ho:r.ok=Qt):fX k f b t=bQ k b ds t:=by
 unfold fX
 rw[h]
 simp only[MP,hd,ho,if_true]
def zH(x:Int):∀m:Nat,(M8 m [D.int x]).flatten=(M8 m x).map D.int
 |0=>rfl
 |m+1=>by rw[N3,O1,zH x m,N3];rfl
def Gi{m:Nat}(h1:fa t=Qs (.nw [.int x]))(h2:fb t=Qs (.cl (.int (m:Int))))(hm:m<=900):(d2 qM fa fb) t=Qs (.nw ((M8 m x).map D.int)):=by
 rw[cQ h1 h2]
 show(if([D.int x].length<=100&&decide (-1000000<=(m:Int)/\(m:Int)<=1000))=Qt then Qs (Ev.nw (M8 (m:Int).toNat [D.int x]).flatten) else Qn)=_
 rw[QO (by simp;lia),N7,zH]
def uU(n:Nat):Builtin.Range.rangeSize 0 (n:Int) 1=(n:Int):=by
 unfold Builtin.Range.rangeSize
 rw[QO (by lia)]
 split<;>lia
def IA (hn:n<=1000):kr 0 (n:Int) 1=Qt:=by
 unfold kr
 rw[Fp (by lia) (by lia),uU,RC (by lia)]
 rfl
def sZ (h:f t=Qs (.cl (.int (n:Int))))(hn:n<=1000):(ig (ag f ao)) t=Qs (.nw ((aj n).map D.int)):=by
 have e:(ag f ao) t=Qs [.cl (.int (n:Int))]:=by simp[ag,ao,h]
 have e2:rW ([Ev.cl (.int (n:Int))].map Ev.d)=Qs (0,(n:Int),1):=rfl
 have c:(kr 0 (n:Int) 1&&decide (Builtin.Range.rangeSize 0 (n:Int) 1<=50000))=Qt:=by
  rw[IA hn,uU,RC (by lia)];rfl
 unfold ig
 rw[e,MP,e2,MP,QO c]
 unfold rT aj
 rw[uU,N7]
 simp
def Gh{k0:D->Th->Qo Th}{b:DS}(h:f t=Qs r)(hr:r.d=.int (n:Int))(hn:n<=100000):jy k0 f b t=bQ k0 b ((aj n).map D.int) t:=by
 unfold jy
 rw[h]
 simp only[MP,hr]
 rw[QO (by unfold c7;exact RC (by lia)),N7]
 congr 1
 unfold cU aj
 simp
def Jw(n:Nat):aj (n+1)=aj n++[(n:Int)]:=by
 unfold aj;rw[List.range_succ];simp
def mq (h:f t=Qs r)(hr:r.d=.lst (xs.map D.int)):(ai dt (ag f ao)) t=Qs (.nw (xs.map D.int)):=by
 rw[gX h]
 unfold dt
 simp only[hr,Ss,NW,if_true]
def nF (h:f t=Qs r)(hr:r.d=.lst (xs.map D.int))(hl:xs.length<64):(ai g9 (ag f ao)) t=Qs (.nw ((cS xs).map D.int)):=by
 rw[gX h]
 unfold g9
 simp only[hr,BK,MP]
 rw[QO hl]
def xS{k:D->Th->Qo Th}{fe:DE}{f:Int->Int}{ext:Th}(hk:∀(s:Sl) (x:Int),k (.int x) (s::ext)=Qs (.val (.int x)::ext)):∀(xs:Ql Int) (s:Sl),(∀x∈xs,fe (.val (.int x)::ext)=Qs (.cl (.int (f x))))->bW k bN fe (xs.map D.int) (s::ext)=Qs ((xs.map f).map D.int)
 |[],s,_=>rfl
 |x::xs,s,hf=>by
  simp only[M4,bW,hk,MP,bN,hf x (MN ..),if_true]
  rw[xS hk xs _ λy hy=>hf y (MM _ hy)]
  rfl
def xY{cap:Ql Nat}{g:Int->Int}{b:Bool}{c:Ql D}(hf:f t=Qs r)(hr:r.d=.lst (xs.map D.int))(hn:xs.length<=50000)(hc:fI t cap=Qs (b,c))(he:∀x∈xs,fe (.val (.int x)::c.map Sl.val)=Qs (.cl (.int (g x)))) :
  (bK 1 cap (cF f) bB bN fe) t=Qs (.nw ((xs.map g).map D.int)):=by
 unfold bK
 have e1:cF f t=Qs (r.ok,xs.map D.int):=by
  unfold cF
  rw[hf]
  simp only[MP,hr]
 have e2:bW bB bN fe (xs.map D.int) (Sl.no::c.map Sl.val)=Qs ((xs.map g).map D.int):=xS (λ_ _=>rfl) _ _ he
 rw[e1,hc]
 simp only[MP]
 rw[QO (by simpa using hn)]
 show(bW bB bN fe (xs.map D.int) (Sl.no::c.map Sl.val)).bind _=_
 rw[e2]
 simp only[MP,Ss,NW,if_true]
end KX
set_option maxHeartbeats 1000000
namespace KX
open PySem.Spec L2 DL
section
variable {ρ:Res}{t':Th}{w w1 w2:ρ.γ}{p:U1}
def xM (h:f t=Qs r):bg ρ f t w=Qs (r,w):=by simp[bg,h]
def d6{k:Ev->Ev->Qo Ev}{fa fb:WE ρ}(h1:fa t w=Qs (r1,w1))(h2:fb t w1=Qs (r2,w2))(hk:k r1 r2=Qs r):cL k fa fb t w=Qs (r,w2):=by simp[cL,h1,h2,hk]
def mW:(SU:WA ρ) t w=Qs ([],w):=rfl
def gb{f:WE ρ}{g:WA ρ}(h1:f t w=Qs (r,w1))(h2:g t w1=Qs (rs,w2)):aX f g t w=Qs (r::rs,w2):=by simp[aX,h1,h2]
def LB{k:Ql Ev->Qo Ev}{g:WA ρ}(h:g t w=Qs (rs,w1))(hk:k rs=Qs r):mG k g t w=Qs (r,w1):=by simp[mG,h,hk]
def oQ{G:ρ.γ->Ql D->Qo (Ev×ρ.γ)}{ga:WA ρ}(h:ga t w=Qs (.cl (.adr p)::rs,w1))(hG:G w1 (rs.map Ev.d)=Qs (r,w2)):eX p G ga t w=Qs (gD (rs.all Ev.ok) r,w2):=by simp[eX,h,hG]
def nD{f:WE ρ}{b:Bool}(h:f t w=Qs (.cl (.bl b),w1)):km f t w=Qs (b,w1):=by simp[km,h,Ev.d]
def zd{f:DT}{b:Bool}(h:f t=Qs b):jK ρ f t w=Qs (b,w):=by simp[jK,h]
def EI{f g:WT ρ}(h:f t w=Qs (Qt,w1)):Vi f g t w=Qs (Qt,w1):=by simp[DL.Vi,h]
def EJ{f g:WT ρ}(h:f t w=Qs (Qf,w1)):Vi f g t w=g t w1:=by simp[DL.Vi,h]
def eh{g:DS}(h:g t=Qs (.nx t')):cy ρ g t w=Qs (.nx t' w):=by simp[cy,h,oL]
def rQ{g:DS}(h:g t=Qs (.rt r)):cy ρ g t w=Qs (.rt r w):=by simp[cy,h,oL]
def bP{g1 g2:WS ρ}(h:g1 t w=Qs (.nx t' w1)):bj g1 g2 t w=g2 t' w1:=by simp[bj,h]
def vg{g1 g2:WS ρ}(h:g1 t w=Qs (.rt r w1)):bj g1 g2 t w=Qs (.rt r w1):=by simp[bj,h]
def vh{c:WT ρ}{g1 g2:WS ρ}(h:c t w=Qs (Qt,w1)):iB c g1 g2 t w=g1 t w1:=by simp[iB,h]
def rR{c:WT ρ}{g1 g2:WS ρ}(h:c t w=Qs (Qf,w1)):iB c g1 g2 t w=g2 t w1:=by simp[iB,h]
def rP{f:WE ρ}(h:f t w=Qs (r,w1)):jN f t w=Qs (.rt r w1):=by simp[jN,h]
def iC{f:WE ρ}{d:D}(h:f t w=Qs (.cl d,w1))(hi:i<t.length):dO i f t w=Qs (.nx (t.set i (.val d)) w1):=by simp[dO,h,cJ,hi]
def zB{f:WE ρ}{xs:Ql D}(h:f t w=Qs (.nw xs,w1))(hi:i<t.length):dO i f t w=Qs (.nx (t.set i (.own xs)) w1):=by simp[dO,h,cJ,hi]
def rS{k:D->Th->Qo Th}{fs:WI ρ}{b:WS ρ}(h:fs t w=Qs ((Qt,ds),w1)):gZ k fs b t w=eM k b ds t w1:=by simp[gZ,h]
def tQ{fs:DI}{q:Bool×Ql D}(h:fs t=Qs q):iK ρ fs t w=Qs (q,w):=by simp[iK,h]
def KZ{f:WE ρ}(h:f t w=Qs (.cl (.int (n:Int)),w1))(hn:n<=100000):kS f t w=Qs ((Qt,(aj n).map D.int),w1):=by
 unfold kS
 rw[h]
 show(if c7 (n:Int) then Qs ((Qt,cU 0 (n:Int).toNat),w1) else Qn)=_
 rw[QO (by unfold c7;exact RC (by lia))]
 have:cU 0 (n:Int).toNat=(aj n).map D.int:=by unfold cU aj;simp
 rw[this]
def oK{k:D->Th->Qo Th}{b:WS ρ}{d:D}{t1 t2:Th}(h1:k d t=Qs t1)(h2:b t1 w=Qs (.nx t2 w1)):eM k b (d::ds) t w=eM k b ds t2 w1:=by simp[eM,h1,h2]
def LN{k:D->Th->Qo Th}{ft:WT ρ}{fe:WE ρ}{d:D}{t1:Th}{ys:Ql D×ρ.γ}{w3:ρ.γ}(h1:k d t=Qs t1)(h2:ft t1 w=Qs (Qt,w1))(h3:fe t1 w1=Qs (r,w2))(h4:eO k ft fe ds t1 w2=Qs (ys.1,w3)):eO k ft fe (d::ds) t w=Qs (r.d::ys.1,w3):=by simp[eO,h1,h2,h3,h4]
def LC{cap:Ql Nat}{fs:WI ρ}{k:D->Th->Qo Th}{ft:WT ρ}{fe:WE ρ}{b c:Bool}{cs ys:Ql D}(h1:fs t w=Qs ((b,ds),w1))(h2:fI t cap=Qs (c,cs))(hl:ds.length<=50000)(h3:eO k ft fe ds (M8 n Sl.no++cs.map Sl.val) w1=Qs (ys,w2))(hf:RB ys=Qt):oR n cap fs k ft fe t w=Qs (.nw ys,w2):=by
 unfold oR
 rw[h1]
 show((fI t cap).bind λc=>if ds.length<=50000 then(eO k ft fe ds (M8 n Sl.no++c.2.map Sl.val) w1).bind λys=>if(b&&c.1)||RB ys.1 then Qs (Ev.nw ys.1,ys.2) else Qn else Qn)=_
 rw[h2]
 show(if ds.length<=50000 then(eO k ft fe ds (M8 n Sl.no++cs.map Sl.val) w1).bind λys=>if(b&&c)||RB ys.1 then Qs (Ev.nw ys.1,ys.2) else Qn else Qn)=_
 rw[QO hl,h3]
 show(if(b&&c)||RB ys then Qs (Ev.nw ys,w2) else Qn)=_
 rw[hf,NW,QO rfl]
def jj{k:Nat}{N:Ql Str}{g:U1->WS ρ}(hl:ds.length+1=k)(h:∀p,g p (qJ N p ds) w=Qs (.rt r w1)):gK k N g w ds=Qs (r,w1):=JM hl λp=>by unfold lS;rw[h p];rfl
end
structure Tc(w:Int×Int):Prop where
 c0:0<=w.1
 n0:0<=w.2
 n1:w.2<2147483647
def cG{w:Int×Int}(h:f t=Qs r):bg af f t w=Qs (r,w):=xM (ρ:=af) h
def fV{G:Int×Int->Ql D->Qo (Ev×(Int×Int))}{fm:DE}{p:U1}{w w':Int×Int}{r:Int}(hi:t[i]?=Qs (.val (.adr p)))(hm:fm t=Qs (.cl (.int m)))(hG:G w [.int m]=Qs (.cl (.int r),w')) :
  eX (ρ:=af) p G (aX (bg af (ae i)) (aX (bg af fm) SU)) t w=Qs (.cl (.int r),w'):=by
 have h0:ae i t=Qs (.cl (.adr p)):=by unfold ae;rw[hi]
 exact oQ (rs:=[.cl (.int m)]) (gb (ρ:=af) (xM h0) (gb (ρ:=af) (xM hm) mW)) hG
def sG{p:U1}{w:Int×Int}(hi:t[i]?=Qs (.val (.adr p))):gR p i 0 t w=Qs (.cl (.int w.1),w):=by simp[gR,hi];rfl
def An{p:U1}{w:Int×Int}(hi:t[i]?=Qs (.val (.adr p))):gR p i 1 t w=Qs (.cl (.int w.2),w):=by simp[gR,hi];rfl
def Hg{p:U1}{w w1:Int×Int}{f:WE af}{n:Int}(hi:t[i]?=Qs (.val (.adr p)))(h:f t w=Qs (.cl (.int n),w1)):jO p i 0 f t w=Qs (.nx t (n,w1.2)):=by
 unfold jO
 rw[h,hi]
 exact QO rfl
def Hf{p:U1}{w w1:Int×Int}{f:WE af}{n:Int}(hi:t[i]?=Qs (.val (.adr p)))(h:f t w=Qs (.cl (.int n),w1)):jO p i 1 f t w=Qs (.nx t (w1.1,n)):=by
 unfold jO
 rw[h,hi]
 exact QO rfl
def oq (h:b≠0):qR (.cl (.int a)) (.cl (.int b))=Qs (.cl (.int (a.fmod b))):=by
 show(if jA a b then Qs (Ev.cl (.int (a.fmod b))) else Qn)=_
 rw[QO (by unfold jA;exact RC h)]
def BB (h:b≠0)(hs:sm b=Qt):qV (.cl (.int a)) (.cl (.int b))=Qs (.cl (.int (a.fdiv b))):=by
 show(if Vd a b then Qs (Ev.cl (.int (a.fdiv b))) else Qn)=_
 rw[QO (by unfold Vd;rw[hs,RC h];rfl)]
def wy (ha:sm a=Qt)(hs:sm b=Qt):qM (.cl (.int a)) (.cl (.int b))=Qs (.cl (.int (a*b))):=by
 (try unfold c9);(try unfold qM);unfold kK
 have:(kI UY λi j=>.int (i*j)) (.cl (.int a)) (.cl (.int b))=Qs (.cl (.int (a*b))):=by
  show(if UY a b then Qs (Ev.cl (.int (a*b))) else Qn)=_
  rw[QO (by unfold UY;rw[ha,hs];rfl)]
 rw[this]
def tE :c9 (.cl (.int a)) (.cl (.int b))=Qs (.cl (.int (a+b))):=rfl
def Kv :d5 (.cl (.int a)) (.cl (.int b))=Qs (.cl (.bl (decide (a=b)))):=rfl
def BA :qG (.cl (.int a)) (.cl (.int b))=Qs (.cl (.bl (decide (b<a)))):=rfl
def Tb (h0:0<=a)(h1:a<1000000000000000000):sm a=Qt:=jL (by lia) (by lia)
end KX
set_option maxHeartbeats 4000000
namespace KX
open PySem.Spec L2 DL
def pD(p:Int×Int):D:=.tup [.int p.1,.int p.2]
def mE:∀ts:Ql (Int×Int),RB (ts.map pD)=Qt
 |[]=>rfl
 |p::ts=>by simp only[M4,RB,mE ts];rfl
def xE(n:Nat):∀ts:Ql (Int×Int),aS (n+2) (.lst (ts.map pD)) (.lst (ts.map pD))=Qt
 |[]=>rfl
 |p::ts=>by
  have:=xE n ts
  simp only[aS]at this ⊢
  simp only[M4,Nu,NQ,this,Qb]
  cases n<;>rfl
def tj (h:f t=Qs r)(hr:r.d=.lst (ts.map pD)):(ai dt (ag f ao)) t=Qs (.nw (ts.map pD)):=by
 rw[gX h]
 unfold dt
 simp only[hr,mE,NW,if_true]
end KX
set_option maxHeartbeats 1000000
namespace KX
open PySem.Spec L2 DL
def vJ (h1:fa t=Qs (.cl (.int a)))(h2:fb t=Qs (.cl (.int b)))(h:mS a b=Qt):(d2 qP fa fb) t=Qs (.cl (.int (a ^ b.toNat))):=by
 rw[cQ h1 h2]
 show(if mS a b then Qs (Ev.cl (.int (a ^ b.toNat))) else Qn)=_
 rw[QO h]
def Hy(ns:Ql Int)(hl:ns.length<=63){k:Nat}(hk:k<=100):∃c n:Int,Tc (c,n)/\pY [.lst (ns.map D.int),.int (k:Int)]=Qs (.nw [.int c,.int n]):=by
 let N:Sl:=.val (.lst (ns.map D.int))
 let K:Sl:=.val (.int (k:Int))
 have E1:aM 2 bh [N,K,.no,.no]=Qs (.nx [N,K,.val (.int 0),.no]):=rfl
 have c1:=oh (fa:=ae 1) (t:=[N,K,.val (.int 0),.no]) (a:=(k:Int)) rfl (oo (xs:=ns) (f:=ae 0) (t:=[N,K,.val (.int 0),.no]) (r:=.cl (.lst (ns.map D.int))) rfl rfl)
 obtain⟨v,E2⟩:∃v:Int,(bY (aI (d2 qL aA (ai bV eZ))) (aM 2 (d2 az av aA)) cM) [N,K,.val (.int 0),.no]=Qs (.nx [N,K,.val (.int v),.no]):=by
  by_cases h:(k:Int)<(ns.length:Int)
  .have e:=wN (fa:=ae 0) (fb:=ae 1) (t:=[N,K,.val (.int 0),.no]) (r1:=.cl (.lst (ns.map D.int))) (r2:=.cl (.int (k:Int))) ns k rfl rfl (by lia) rfl rfl
   exact⟨_,(jn c1 (RC h)).trans (iW (i:=2) e (by simp))⟩
  .exact⟨0,gu c1 (Su h)⟩
 let t2:Th:=[N,K,.val (.int v),.no]
 have f0:0<=v.fmod 2147483629:=Oj _ (by decide)
 have f1:v.fmod 2147483629<2147483629:=OI _ (by decide)
 have kk:(k:Int)*(k:Int)<=10000:=by
  have:k*k<=100*100:=QF hk hk
  have e:((k*k:Nat):Int)=(k:Int)*(k:Int):=Int.natCast_mul k k
  lia
 have k0:0<=(k:Int)*(k:Int):=QG (by lia) (by lia)
 have m1:=mf (fa:=dC (.int 104729)) (fb:=ae 1) (t:=t2) (a:=104729) (b:=(k:Int)) rfl rfl (jL (by decide) (by decide)) (jL (by lia) (by lia))
 have m2:=mf (fb:=ae 1) (t:=t2) (b:=(k:Int)) m1 rfl (jL (by lia) (by lia)) (jL (by lia) (by lia))
 have em:104729*(k:Int)*(k:Int)=104729*((k:Int)*(k:Int)):=Qe _ _ _
 rw[em]at m2
 have a1:=jE (jE (AY (fa:=ae 2) (fb:=dC (.int 2147483629)) (t:=t2) (a:=v) (b:=2147483629) rfl rfl (by decide)) m2) (rfl:dC (.int 11) t2=Qs (.cl (.int 11)))
 have p1:=vJ a1 (rfl:dC (.int 3) t2=Qs (.cl (.int 3))) (by unfold mS;exact RC (by lia))
 have n1:=AY p1 (rfl:dC (.int 2147483647) t2=Qs (.cl (.int 2147483647))) (by decide)
 have g0:=Oj ((v.fmod 2147483629+104729*((k:Int)*(k:Int))+11) ^ (3:Int).toNat) (show(0:Int)<2147483647 by decide)
 have g1:=OI ((v.fmod 2147483629+104729*((k:Int)*(k:Int))+11) ^ (3:Int).toNat) (show(0:Int)<2147483647 by decide)
 generalize ((v.fmod 2147483629+104729*((k:Int)*(k:Int))+11) ^ (3:Int).toNat).fmod 2147483647=n at *
 have E3:=iW (i:=3) n1 (by simp[t2])
 let t3:Th:=[N,K,.val (.int v),.val (.int n)]
 have p2:=vJ (fa:=dC (.int 10)) (fb:=dC (.int 18)) (t:=t3) (a:=10) (b:=18) rfl rfl (by decide)
 have c4:=oh (fa:=ae 2) (t:=t3) (a:=v) rfl p2
 obtain⟨c,c0,E4⟩:∃c:Int,0<=c/\(bY (aI (d2 qL aQ (d2 qP jJ (dC (.int 18))))) (aM 2 bh) cM) t3=Qs (.nx [N,K,.val (.int c),.val (.int n)]):=by
  by_cases h:v<(10:Int) ^ (18:Int).toNat
  .exact⟨0,Om _,(jn c4 (RC h)).trans rfl⟩
  .have:(0:Int)<=(10:Int) ^ (18:Int).toNat:=by decide
   exact⟨v,by lia,gu c4 (Su h)⟩
 refine⟨c,n,⟨c0,g0,g1⟩,?_⟩
 show(xg [N,K,.no,.no]).bind dD=_
 refine RN ?_
 exact(aL E1).trans ((aL E2).trans ((aL E3).trans ((aL E4).trans rfl)))
def gj{w:Int×Int}(hw:Tc w) (m0:0<m)(hs:sm m=Qt):∃(r:Int) (w':Int×Int),0<=r/\r<m/\Tc w'/\di w [.int m]=Qs (.cl (.int r),w'):=by
 obtain⟨h0,h1,h2⟩:=hw
 by_cases hc:0<w.1
 .refine⟨w.1.fmod m,(w.1.fdiv m,w.2),Oj _ m0,OI _ m0,⟨Int.fdiv_nonneg h0 (by lia),h1,h2⟩,jj rfl λp=>?_⟩
  let t0:Th:=[.val (.adr p),.val (.int m),.no]
  let t1:Th:=[.val (.adr p),.val (.int m),.val (.int (w.1.fmod m))]
  have e1:=nD (d6 (ρ:=af) (sG (i:=0) (t:=t0) (p:=p) (w:=w) rfl) (cG (rfl:dC (.int 0) t0=Qs (.cl (.int 0)))) BA)
  rw[RC hc]at e1
  have e2:=iC (i:=2) (d6 (ρ:=af) (sG (i:=0) (t:=t0) (p:=p) (w:=w) rfl) (cG (rfl:ae 1 t0=Qs (.cl (.int m)))) (oq (by lia))) (by simp[t0])
  have e3:=Hg (i:=0) (t:=t1) (p:=p) (w:=w) rfl (d6 (ρ:=af) (sG (i:=0) (t:=t1) (p:=p) (w:=w) rfl) (cG (rfl:ae 1 t1=Qs (.cl (.int m)))) (BB (by lia) hs))
  refine vg ((vh e1).trans ((bP e2).trans ((bP e3).trans ?_)))
  rfl
 .obtain⟨n',Xu⟩:∃n',n'=(w.2*48271+11).fmod 2147483647:=⟨_,rfl⟩
  have n0:0<=n':=by rw[Xu];exact Oj _ (by decide)
  have n1:n' < 2147483647:=by rw[Xu];exact OI _ (by decide)
  refine⟨(((n'*n').fmod 2147483629).fdiv 64).fmod m,(w.1,n'),Oj _ m0,OI _ m0,⟨h0,n0,n1⟩,jj rfl λp=>?_⟩
  let t0:Th:=[.val (.adr p),.val (.int m),.no]
  have e1:=nD (d6 (ρ:=af) (sG (i:=0) (t:=t0) (p:=p) (w:=w) rfl) (cG (rfl:dC (.int 0) t0=Qs (.cl (.int 0)))) BA)
  rw[Su hc]at e1
  have e2:=Hf (i:=0) (t:=t0) (p:=p) (w:=w) rfl (d6 (ρ:=af) (d6 (ρ:=af) (d6 (ρ:=af) (An (i:=0) (t:=t0) (p:=p) (w:=w) rfl) (cG (rfl:dC (.int 48271) t0=Qs (.cl (.int 48271)))) (wy (Tb h1 (by lia)) (Tb (by decide) (by decide)))) (cG (rfl:dC (.int 11) t0=Qs (.cl (.int 11)))) tE) (cG (rfl:dC (.int 2147483647) t0=Qs (.cl (.int 2147483647)))) (oq (by decide)))
  rw[<-Xu]at e2
  have g1:=An (i:=0) (t:=t0) (p:=p) (w:=(w.1,n')) rfl
  have e3:=rP (d6 (ρ:=af) (d6 (ρ:=af) (d6 (ρ:=af) (d6 (ρ:=af) g1 g1 (wy (Tb n0 (by lia)) (Tb n0 (by lia)))) (cG (rfl:dC (.int 2147483629) t0=Qs (.cl (.int 2147483629)))) (oq (by decide))) (cG (rfl:dC (.int 64) t0=Qs (.cl (.int 64)))) (BB (by decide) (Tb (by decide) (by decide)))) (cG (rfl:ae 1 t0=Qs (.cl (.int m)))) (oq (by lia)))
  exact(bP ((rR e1).trans rfl)).trans ((bP e2).trans e3)
def Eb{w:Int×Int}(hw:Tc w) (m0:0<m):∃(r:Int) (w':Int×Int),0<=r/\r<m/\Tc w'/\uH w [.int m]=Qs (.cl (.int r),w'):=by
 obtain⟨a,w1,a0,a1,o1,e1⟩:=gj hw (m:=1000003) (by decide) (Tb (by decide) (by decide))
 obtain⟨b,w2,b0,b1,o2,e2⟩:=gj o1 (m:=1000003) (by decide) (Tb (by decide) (by decide))
 refine⟨(a*1000003+b).fmod m,w2,Oj _ m0,OI _ m0,o2,jj rfl λp=>?_⟩
 let t0:Th:=[.val (.adr p),.val (.int m)]
 have d1:=fV (i:=0) (t:=t0) (p:=p) rfl (rfl:dC (.int 1000003) t0=Qs (.cl (.int 1000003))) e1
 have Vc:=fV (i:=0) (t:=t0) (p:=p) rfl (rfl:dC (.int 1000003) t0=Qs (.cl (.int 1000003))) e2
 exact rP (d6 (ρ:=af) (d6 (ρ:=af) (d6 (ρ:=af) d1 (cG (rfl:dC (.int 1000003) t0=Qs (.cl (.int 1000003)))) (wy (Tb a0 (by lia)) (Tb (by decide) (by decide)))) Vc tE) (cG (rfl:ae 1 t0=Qs (.cl (.int m)))) (oq (by lia)))
def Ec{w:Int×Int}(hw:Tc w):∃(r:Int) (w':Int×Int),0<=r/\r<=1000000000/\Tc w'/\lz w []=Qs (.cl (.int r),w'):=by
 obtain⟨a,w1,a0,a1,o1,e1⟩:=gj hw (m:=8) (by decide) (Tb (by decide) (by decide))
 have first:∀p,dO 1 (eX p di (aX eW (aX (bg af (dC (.int 8))) SU))) [.val (.adr p),.no] w=Qs (.nx [.val (.adr p),.val (.int a)] w1):=λp=>iC (i:=1) (fV (i:=0) (t:=[.val (.adr p),.no]) (p:=p) rfl rfl e1) (by simp)
 have q:∀p:U1,aI (d2 d5 aA bh) [.val (.adr p),.val (.int a)]=Qs (decide (a=0)):=λp=>oO (fa:=ae 1) (fb:=dC (.int 0)) (a:=a) (b:=0) rfl rfl
 by_cases h0:a=0
 .refine⟨0,w1,Om _,by decide,o1,jj rfl λp=>?_⟩
  refine(bP (first p)).trans (vg (rQ ((jn (q p) (RC h0)).trans rfl)))
 .have skip:∀p:U1,cy af (bY (aI (d2 d5 aA bh)) (cx bh) cM) [.val (.adr p),.val (.int a)] w1=Qs (.nx [.val (.adr p),.val (.int a)] w1):=λp=>eh (gu (q p) (Su h0))
  have q2:∀p:U1,jK af (aI (d2 qL aA qu)) [.val (.adr p),.val (.int a)] w1=Qs (decide (a<6),w1):=λp=>zd (oh (fa:=ae 1) (fb:=dC (.int 6)) (a:=a) (b:=6) rfl rfl)
  by_cases h6:a<6
  .obtain⟨b,w2,b0,b1,o2,e2⟩:=gj o1 (m:=10) (by decide) (Tb (by decide) (by decide))
   refine⟨b,w2,b0,by lia,o2,jj rfl λp=>?_⟩
   have z:=q2 p
   rw[RC h6]at z
   exact(bP (first p)).trans ((bP (skip p)).trans (vg ((vh z).trans (rP (fV (i:=0) (t:=[.val (.adr p),.val (.int a)]) (p:=p) rfl rfl e2)))))
  .obtain⟨b,w2,b0,b1,o2,e2⟩:=Eb o1 (m:=1000000001) (by decide)
   refine⟨b,w2,b0,by lia,o2,jj rfl λp=>?_⟩
   have z:=q2 p
   rw[Su h6]at z
   have pw:=jE (vJ (fa:=dC (.int 10)) (fb:=dC (.int 9)) (t:=[.val (.adr p),.val (.int a)]) (a:=10) (b:=9) rfl rfl (by decide)) (rfl:dC (.int 1) _=Qs (.cl (.int 1)))
   exact(bP (first p)).trans ((bP (skip p)).trans ((bP ((rR z).trans rfl)).trans (rP (fV (i:=0) (t:=[.val (.adr p),.val (.int a)]) (p:=p) (m:=1000000001) rfl pw e2))))
structure TJ(M:Nat)(ts:List (Int×Int)):Prop where
 pos:0<M
 lt:∀e∈ts,0<=e.1/\e.1<e.2/\e.2<(M:Int)
def Mt (h6:t[6]?=Qs (.val (.int a)))(h7:t[7]?=Qs (.val (.int b)))(h5:t[5]?=Qs (.own (ts.map pD)))(hl:ts.length<100000):fH 5 (ai cY (ag (ae 6) (ag (ae 7) ao))) t=Qs (.nx (t.set 5 (.own ((ts++[(a,b)]).map pD)))):=by
 have e6:ae 6 t=Qs (.cl (.int a)):=by unfold ae;rw[h6]
 have e7:ae 7 t=Qs (.cl (.int b)):=by unfold ae;rw[h7]
 have:=pJ t (i:=5) (d:=pD (a,b)) ((eG (k:=cY) e6 e7).trans rfl) h5 (by rw[MY];exact hl)
 rw[this,Od]
 rfl
abbrev tI(p:U1)(s1:Sl)(M:Nat)(dn ln:Int)(ts:Ql (Int×Int))(a b:Int):Th:=[.val (.adr p),s1,.val (.int (M:Int)),.val (.int dn),.val (.int ln),.own (ts.map pD),.val (.int a),.val (.int b)]
def Bm{M:Nat}{a dn ln:Int}(a0:0<=a)(d0:0<dn)(d1:dn<=100):∀(bs:Ql Int) (ts:Ql (Int×Int)) (w:Int×Int),Tc w->(∀b∈bs,a<b/\b<(M:Int))->ts.length+bs.length<100000->(∀e∈ts,0<=e.1/\e.1<e.2/\e.2<(M:Int)) ->
  ∃(Uj:Ql (Int×Int)) (w':Int×Int),Tc w'/\Uj.length<=ts.length+bs.length/\(∀e∈Uj,0<=e.1/\e.1<e.2/\e.2<(M:Int))/\∀(p:U1) (s1 s7:Sl),∃u7,eM (cb 7) (Dv p) (bs.map D.int) [.val (.adr p),s1,.val (.int (M:Int)),.val (.int dn),.val (.int ln),.own (ts.map pD),.val (.int a),s7] w=Qs (.nx [.val (.adr p),s1,.val (.int (M:Int)),.val (.int dn),.val (.int ln),.own (Uj.map pD),.val (.int a),u7] w')
 |[],ts,w,ok,_,_,ht=>⟨ts,w,ok,by simp,ht,λp s1 s7=>⟨s7,rfl⟩⟩
 |b::bs,ts,w,ok,hb,hl,ht=>by
  rw[M9]at hl
  obtain⟨b1,b2⟩:=hb b (MN ..)
  obtain⟨r,w1,r0,r1,o1,e1⟩:=gj ok (m:=dn) d0 (Tb (by lia) (by lia))
  have rest:=λts h1 h2=>Bm (M:=M) (ln:=ln) a0 d0 d1 bs ts w1 o1 (λb Vw=>hb b (MM _ Vw)) h1 h2
  have dr:∀(p:U1) (s1 s7:Sl),cL d5 (eX p di (aX eW (aX (bg af bE) SU))) (bg af bh) (tI p s1 M dn ln ts a b) w=Qs (.cl (.bl (decide (r=0))),w1):=λp s1 s7=>d6 (ρ:=af) (fV (i:=0) (p:=p) rfl rfl e1) (cG rfl) Kv
  have c2:∀(p:U1) (s1:Sl),rX (tI p s1 M dn ln ts a b)=Qs (decide (0<ln)&&decide (b=a+1)):=λp s1=>by
   unfold rX ij
   rw[oF (fa:=ae 4) (fb:=dC (.int 0)) (a:=ln) (b:=0) rfl rfl,oO (fa:=ae 7) (a:=b) (b:=a+1) rfl (jE (fa:=ae 6) (fb:=dC (.int 1)) (a:=a) (b:=1) rfl rfl)]
   cases decide (0<ln)<;>rfl
  have yes:(∀(p:U1) (s1:Sl),(vv p) (tI p s1 M dn ln ts a b) w=Qs (Qt,w1))\/∀(p:U1) (s1:Sl),(vv p) (tI p s1 M dn ln ts a b) w=Qs (Qf,w1):=by
   by_cases z:r=0
   .refine .inl λp s1=>?_
    have:=nD (ρ:=af) (dr p s1 .no)
    rw[RC z]at this
    exact EI this
   .have fst:∀(p:U1) (s1:Sl),_:=λp s1=>by
     have:=nD (ρ:=af) (dr p s1 .no)
     rw[Su z]at this
     exact(EJ (g:=(jK af rX)) this).trans (zd (ρ:=af) (c2 p s1))
    cases hh:decide (0<ln)&&decide (b=a+1) with
    |true=>exact .inl λp s1=>by have:=fst p s1;rw[hh]at this;exact this
    |false=>exact .inr λp s1=>by have:=fst p s1;rw[hh]at this;exact this
  rcases yes with yes | no
  .have el:(ts++[(a,b)]).length=ts.length+1:=by simp
   obtain⟨Uj,w',o',l',h',run⟩:=rest (ts++[(a,b)]) (by lia) (λe he=>by
    rcases ML.mp he with z | z
    .exact ht e z
    .rw[MS.mp z];exact⟨a0,b1,b2⟩)
   refine⟨Uj,w',o',by rw[M9];lia,h',λp s1 s7=>?_⟩
   obtain⟨u7,e⟩:=run p s1 (.val (.int b))
   refine⟨u7,(oK (ρ:=af) (rfl:cb 7 (.int b) [.val (.adr p),s1,.val (.int (M:Int)),.val (.int dn),.val (.int ln),.own (ts.map pD),.val (.int a),s7]=Qs (tI p s1 M dn ln ts a b)) ((vh (yes p s1)).trans (eh (Mt (t:=(tI p s1 M dn ln ts a b)) rfl rfl rfl (by lia))))).trans e⟩
  .obtain⟨Uj,w',o',l',h',run⟩:=rest ts (by lia) ht
   refine⟨Uj,w',o',by rw[M9];lia,h',λp s1 s7=>?_⟩
   obtain⟨u7,e⟩:=run p s1 (.val (.int b))
   exact⟨u7,(oK (ρ:=af) (rfl:cb 7 (.int b) [.val (.adr p),s1,.val (.int (M:Int)),.val (.int dn),.val (.int ln),.own (ts.map pD),.val (.int a),s7]=Qs (tI p s1 M dn ln ts a b)) ((rR (no p s1)).trans rfl)).trans e⟩
def above(a:Int)(M:Nat):Ql Int:=(NI ((M:Int) - (a+1)).toNat).map λ(i:Nat)=>a+1+(i:Int)
def My :∀b∈above a M,a<b/\b<(M:Int):=λb hb=>by
 obtain⟨i,hi,rfl⟩:=Ny.mp hb
 have:=O6.mp hi
 lia
def Bh{M:Nat}(hM:M<=60){dn ln:Int}(d0:0<dn)(d1:dn<=100):∀(as:Ql Int) (ts:Ql (Int×Int)) (w:Int×Int),Tc w->(∀a∈as,0<=a/\a<(M:Int))->ts.length+60*as.length<90000->(∀e∈ts,0<=e.1/\e.1<e.2/\e.2<(M:Int)) ->
  ∃(Uj:Ql (Int×Int)) (w':Int×Int),Tc w'/\Uj.length<=ts.length+(as.map λa=>(above a M).length).sum/\(∀e∈Uj,0<=e.1/\e.1<e.2/\e.2<(M:Int))/\∀(p:U1) (s1 s6 s7:Sl),∃u6 u7,eM i7 (uy p) (as.map D.int) [.val (.adr p),s1,.val (.int (M:Int)),.val (.int dn),.val (.int ln),.own (ts.map pD),s6,s7] w=Qs (.nx [.val (.adr p),s1,.val (.int (M:Int)),.val (.int dn),.val (.int ln),.own (Uj.map pD),u6,u7] w')
 |[],ts,w,ok,_,_,ht=>⟨ts,w,ok,by simp,ht,λp s1 s6 s7=>⟨s6,s7,rfl⟩⟩
 |a::as,ts,w,ok,ha,hl,ht=>by
  rw[M9]at hl
  obtain⟨a0,a1⟩:=ha a (MN ..)
  have al:(above a M).length<=60:=by unfold above;rw[MY,Pl];lia
  obtain⟨ts1,w1,o1,l1,h1,Yt⟩:=Bm (M:=M) (ln:=ln) a0 d0 d1 (above a M) ts w ok My (by lia) ht
  obtain⟨Uj,w',o',l',h',run⟩:=Bh hM (ln:=ln) d0 d1 as ts1 w1 o1 (λb hb=>ha b (MM _ hb)) (by lia) h1
  refine⟨Uj,w',o',by rw[M4,List.sum_cons];lia,h',λp s1 s6 s7=>?_⟩
  obtain⟨v7,e1⟩:=Yt p s1 s7
  obtain⟨u6,u7,e⟩:=run p s1 (.val (.int a)) v7
  refine⟨u6,u7,?_⟩
  let t:Th:=[.val (.adr p),s1,.val (.int (M:Int)),.val (.int dn),.val (.int ln),.own (ts.map pD),.val (.int a),s7]
  have rg:oI (d2 c9 cH bT) aQ t=Qs (Qt,(above a M).map D.int):=by
   unfold oI
   rw[jE (fa:=ae 6) (fb:=dC (.int 1)) (t:=t) (a:=a) (b:=1) rfl rfl]
   show(if c7 (M:Int)&&c7 (a+1) then Qs (Qt,cU (a+1) ((M:Int) - (a+1)).toNat) else Qn)=_
   rw[QO (by unfold c7;rw[RC (by lia),RC (by lia)];rfl)]
   unfold above cU
   rw[Nk]
   rfl
  exact(oK (ρ:=af) (t1:=t) rfl ((rS (ρ:=af) (tQ (ρ:=af) rg)).trans e1)).trans e
def Lu:∀M:Nat,M<=9->((aj M).map λa=>(above a M).length).sum<=36:=by
 intro M h
 rcases(by lia:M=0\/M=1\/M=2\/M=3\/M=4\/M=5\/M=6\/M=7\/M=8\/M=9) with rfl | rfl | rfl | rfl | rfl | rfl | rfl | rfl | rfl | rfl<;>decide
def Ee{w:Int×Int}(hw:Tc w) (m0:0<m)(m1:m<=60):∃(M:Nat) (ts:Ql (Int×Int)) (w':Int×Int),TJ M ts/\(M:Int)<=m/\ts.length<=((aj M).map λa=>(above a M).length).sum/\Tc w'/\pW w [.int m]=Qs (.cl (.tup [.int (M:Int),.lst (ts.map pD)]),w'):=by
 obtain⟨a,w1,a0,a1,o1,e1⟩:=gj hw (m:=m) m0 (Tb (by lia) (by lia))
 obtain⟨b,w2,b0,b1,o2,e2⟩:=gj o1 (m:=3) (by decide) (Tb (by decide) (by decide))
 obtain⟨c,w3,c0,c1,o3,e3⟩:=gj o2 (m:=3) (by decide) (Tb (by decide) (by decide))
 obtain⟨M,hM⟩:∃M:Nat,1+a=(M:Int):=⟨(1+a).toNat,by lia⟩
 obtain⟨dn,d0,d1,ed⟩:∃dn:Int,0<dn/\dn<=100/\az (.nw [.int 2,.int 3,.int 6]) (.cl (.int b))=Qs (.cl (.int dn)):=by
  rcases(by lia:b=0\/b=1\/b=2) with rfl | rfl | rfl
  .exact⟨2,by decide,by decide,rfl⟩
  .exact⟨3,by decide,by decide,rfl⟩
  .exact⟨6,by decide,by decide,rfl⟩
 obtain⟨ts,w',o',l',h',run⟩:=Bh (M:=M) (by lia) (ln:=c) d0 d1 (aj M) [] w3 o3 (λx hx=>by
  unfold aj at hx
  obtain⟨i,hi,rfl⟩:=Ny.mp hx
  have:=O6.mp hi
  lia) (by unfold aj;simp;lia) (λe he=>by cases he)
 refine⟨M,ts,w',⟨by lia,h'⟩,by lia,by rw[Pd,O4]at l';exact l',o',jj rfl λp=>?_⟩
 obtain⟨u6,u7,e⟩:=run p (.val (.int m)) .no .no
 let t0:Th:=[.val (.adr p),.val (.int m),.no,.no,.no,.no,.no,.no]
 have E1:=iC (i:=2) (d6 (ρ:=af) (cG (rfl:dC (.int 1) t0=Qs (.cl (.int 1)))) (fV (i:=0) (t:=t0) (p:=p) rfl (rfl:ae 1 t0=Qs (.cl (.int m))) e1) tE) (by simp[t0])
 rw[hM]at E1
 let t1:Th:=[.val (.adr p),.val (.int m),.val (.int (M:Int)),.no,.no,.no,.no,.no]
 have E2:=iC (i:=3) (d6 (ρ:=af) (cG (rfl:ai cE (ag gB (ag m9 (ag qu ao))) t1=Qs (.nw [.int 2,.int 3,.int 6]))) (fV (i:=0) (t:=t1) (p:=p) rfl (rfl:dC (.int 3) t1=Qs (.cl (.int 3))) e2) ed) (by simp[t1])
 let t2:Th:=[.val (.adr p),.val (.int m),.val (.int (M:Int)),.val (.int dn),.no,.no,.no,.no]
 have E3:=iC (ρ:=af) (i:=4) (fV (i:=0) (t:=t2) (p:=p) rfl (rfl:dC (.int 3) t2=Qs (.cl (.int 3))) e3) (by simp[t2])
 let t4:Th:=[.val (.adr p),.val (.int m),.val (.int (M:Int)),.val (.int dn),.val (.int c),.own [],.no,.no]
 have rg:hZ aQ t4=Qs (Qt,(aj M).map D.int):=by
  show(if c7 (M:Int) then Qs (Qt,cU 0 (M:Int).toNat) else Qn)=_
  rw[QO (by unfold c7;exact RC (by lia))]
  unfold cU aj
  simp
 have E5:=(rS (ρ:=af) (k:=cb 6) (b:=uy p) (tQ (ρ:=af) (w:=w3) rg)).trans e
 show(bj _ (bj _ (bj _ (bj _ (bj (gZ i7 (iK af (hZ aQ)) (uy p)) _)))):WS af) t0 w=_
 refine(bP E1).trans ((bP E2).trans ((bP E3).trans ((bP (eh (t':=t4) rfl)).trans ((bP E5).trans ?_))))
 exact rQ rfl
abbrev Eg:=Int×Int
inductive Eqv(es:List Eg):Int->Int->Prop
 |refl (u:Int):Eqv es u u
 |VW {a b:Int}:(a,b)∈es->Eqv es a b
 |symm {u v:Int}:Eqv es u v->Eqv es v u
 |trans {u v w:Int}:Eqv es u v->Eqv es v w->Eqv es u w
def Eqv.mono{es Sk:Ql Eg}(k:∀e∈es,e∈Sk) (h:Eqv es u v):Eqv Sk u v:=by
 induction h with
 |refl u=>exact .refl u
 |VW h=>exact .VW (k _ h)
 |symm _ ih=>exact .symm ih
 |trans _ _ i1 i2=>exact .trans i1 i2
def Eqv.pred{es:Ql Eg}{p:Int->Prop}(k:∀e∈es,(p e.1↔p e.2)) (h:Eqv es u v):p u↔p v:=by
 induction h with
 |refl u=>exact Iff.rfl
 |VW h=>exact k _ h
 |symm _ ih=>exact ih.symm
 |trans _ _ i1 i2=>exact i1.trans i2
def Eqv.ends{es:Ql Eg}(h:Eqv es u v):u=v\/((∃e∈es,u=e.1\/u=e.2)/\∃e∈es,v=e.1\/v=e.2):=by
 induction h with
 |refl u=>exact .inl rfl
 |VW h=>exact .inr ⟨⟨_,h,.inl rfl⟩,⟨_,h,.inr rfl⟩⟩
 |symm _ ih =>
  rcases ih with h | ⟨a,b⟩
  .exact .inl h.symm
  .exact .inr ⟨b,a⟩
 |trans _ _ i1 i2 =>
  rcases i1 with h | ⟨a,b⟩
  .subst h;exact i2
  .rcases i2 with h | ⟨c,d⟩
   .subst h;exact .inr ⟨a,b⟩
   .exact .inr ⟨a,d⟩
def jb(f:Int->Int)(a b:Int):Int->Int:=λv=>if f v=(if f a<f b then f b else f a) then(if f a<f b then f a else f b) else f v
def om(f:Int->Int)(es:Ql Eg):Int->Int:=es.foldl (λf e=>jb f e.1 e.2) f
structure LL(es:List Eg)(f:Int->Int):Prop where
 own:∀v,Eqv es v (f v)
 one:∀e∈es,f e.1=f e.2
 low:∀v,0<=v->0<=f v/\f v<=v
def LL.nil:LL [] id:=⟨λv=>.refl v,λe h=>(by cases h),λv h=>⟨h,Om _⟩⟩
def LL.step{es:Ql Eg}{f:Int->Int}(h:LL es f){e:Eg}(a0:0<=e.1)(b0:0<=e.2):LL (es++[e]) (jb f e.1 e.2):=by
 have mo:∀{u v},Eqv es u v->Eqv (es++[e]) u v:=λq=>q.mono λx hx=>MJ _ hx
 have ab:Eqv (es++[e]) (f e.1) (f e.2):=((mo (h.own e.1)).symm.trans (.VW (MI _ (MS.mpr rfl)))).trans (mo (h.own e.2))
 refine⟨λv=>?_,λx hx=>?_,λv hv=>?_⟩
 .have o:=mo (h.own v)
  unfold jb
  by_cases c:f e.1<f e.2
  .simp only[QO c]
   split
   .rename_i z;rw[z]at o;exact o.trans ab.symm
   .exact o
  .simp only[QU c]
   split
   .rename_i z;rw[z]at o;exact o.trans ab
   .exact o
 .rcases ML.mp hx with z | z
  .unfold jb;rw[h.one x z]
  .rw[MS.mp z]
   unfold jb
   by_cases c:f e.1<f e.2
   .simp only[QO c]
    rw[QU (by lia)]
    simp
   .simp only[QU c]
    by_cases c2:f e.2=f e.1
    .rw[c2];simp
    .rw[QU c2]
     simp
 .have l1:=h.low e.1 a0
  have l2:=h.low e.2 b0
  have l3:=h.low v hv
  unfold jb
  by_cases c:f e.1<f e.2
  .simp only[QO c]
   split<;>lia
  .simp only[QU c]
   split<;>lia
def LL.run:∀(es Wq:Ql Eg) {f:Int->Int},LL Wq f->(∀e∈es,0<=e.1/\0<=e.2)->LL (Wq++es) (om f es)
 |[],Wq,f,h,_=>by rw[Nt];exact h
 |e::es,Wq,f,h,k=>by
  have:=LL.run es (Wq++[e]) (h.step (k e (MN ..)).1 (k e (MN ..)).2) λx hx=>k x (MM _ hx)
  rw[Nv]at this
  exact this
def ll(es:Ql Eg):Int->Int:=om id es
def J6{es:Ql Eg}(k:∀e∈es,0<=e.1/\0<=e.2):LL es (ll es):=LL.run es [] LL.nil k
def LL.iff{es:Ql Eg}{f:Int->Int}(h:LL es f)(u v:Int):f u=f v↔Eqv es u v:=by
 constructor
 .intro e
  exact(h.own u).trans (e ▸ (h.own v).symm)
 .intro q
  induction q with
  |refl u=>rfl
  |VW q=>exact h.one _ q
  |symm _ ih=>exact ih.symm
  |trans _ _ i1 i2=>exact i1.trans i2
end KX
variable{e:Int->KX.Eg}{ws:Ql KX.Eg}{Ry:Ql KX.Eg}{es:Ql KX.Eg}
set_option maxHeartbeats 4000000
namespace KX
open PySem.Spec L2 DL
def cZ(r:Ql Int):D:=.lst (r.map D.int)
def mD(M:Ql (Ql Int)):D:=.lst (M.map cZ)
def Jr (p:Int)(K:Ql Int)(ha:fa t=Qs r1)(hb:fb t=Qs r2)(h1:r1.d=.int p)(h2:r2.d=.lst (K.map D.int)):aI (d2 kL fa fb) t=Qs (!decide (p∈K)):=by
 have e:=Me p K ha hb h1 h2
 unfold aI at e ⊢
 rw[cQ ha hb]at e ⊢
 unfold TC at e
 unfold kL
 rw[h2]at e ⊢
 simp only at e ⊢
 split at e
 .rename_i c
  rw[QO c]
  simp only[MP,Ev.d,Option.some.injEq]at e ⊢
  rw[e]
 .cases e
def oj(L:Ql Int):Int:=dG (L.headD 0) L.tail
def Lv (h:f t=Qs r)(hr:r.d=.lst (L.map D.int))(hl:0<L.length):(ai (kP dG) (ag f ao)) t=Qs (.cl (.int (oj L))):=by
 rw[gX h]
 unfold kP
 simp only[hr,BK]
 cases L with
 |nil=>simp at hl
 |cons x r=>rfl
def zx:∀xs:Ql Int,(xs.map D.int).all aP=Qt
 |[]=>rfl
 |x::xs=>by simp only[M4,NQ,zx xs];rfl
def dm (h:x∈aj n):0<=x/\x<(n:Int):=by
 obtain⟨i,hi⟩:=List.mem_iff_getElem?.mp h
 obtain⟨q,l⟩:=Jy hi
 lia
def ml (h0:0<=x)(h1:x<(n:Int)):x∈aj n:=by
 unfold aj
 exact Ny.mpr ⟨x.toNat,O6.mpr (by lia),by lia⟩
def uQ:∀{l C:Ql Int},l.Nodup->(∀x∈l,x∈C)->l.length<=C.length
 |[],C,_,_=>OU _
 |x::l,C,nd,h=>by
  rw[M3]at nd
  have hx:=h x (MN ..)
  have:=uQ (l:=l) (C:=C.erase x) nd.2 λy hy=>(List.mem_erase_of_ne (λe=>nd.1 (by rw[<-e];exact hy))).mpr (h y (MM _ hy))
  rw[List.length_erase_of_mem hx]at this
  have:=Pf hx
  simp only[M9]
  lia
def Jv(n:Nat):(aj n).Nodup:=by
 unfold aj
 refine Pm.mpr ?_
 exact(List.nodup_range (n:=n)).imp λh e=>h (by lia)
end KX
set_option maxHeartbeats 1000000
namespace KX
abbrev Hd:=Ql (Int×Nat)
def MF(w:Nat->Nat)(hd:Hd)(s:Ql Int):Nat:=(hd.map λp=>if p.1∈s then w p.2 else 0).sum
open PySem.Spec L2 DL
def pH{d:D}(hf:f t=Qs (.dn d))(hi:i<t.length):aM i f t=Qs (.nx (t.set i (.dp d))):=by
 unfold aM
 rw[hf]
 simp only[MP,cJ,hi,if_true,Oe]
def j7{k:D->Th->Qo Th}{b:DS}{d:D}{t1 t2:Th}(h1:k d t=Qs t1)(h2:b t1=Qs (.nx t2)):bQ k b (d::ds) t=bQ k b ds t2:=by simp[bQ,h1,h2]
def Cv{k:D->Th->Qo Th}{b:DS}{d:D}{t1:Th}(h1:k d t=Qs t1)(h2:b t1=Qs (.rt r)):bQ k b (d::ds) t=Qs (.rt r):=by simp[bQ,h1,h2]
def xU{α:Type}{e:α->D}{ft:DT}{fe:DE}{p:α->Bool}{f:α->D}{ext:Th}:∀(xs:Ql α) (s:Sl),(∀x∈xs,ft (.val (e x)::ext)=Qs (p x))->(∀x∈xs,p x=Qt->∃r,fe (.val (e x)::ext)=Qs r/\r.d=f x)->bW bB ft fe (xs.map e) (s::ext)=Qs ((xs.filter p).map f)
 |[],s,_,_=>rfl
 |x::l,s,h,h'=>by
  have i:=xU (p:=p) (f:=f) l (.val (e x)) (λy hy=>h y (MM _ hy)) (λy hy=>h' y (MM _ hy))
  show((ft (.val (e x)::ext)).bind λb=>if b then(fe (.val (e x)::ext)).bind λr=>(bW bB ft fe (l.map e) (.val (e x)::ext)).map λxs=>r.d::xs else bW bB ft fe (l.map e) (.val (e x)::ext))=_
  rw[h x (MN ..),i]
  cases hp:p x with
  |false=>rw[List.filter_cons_of_neg (by rw[hp];decide)];rfl
  |true =>
   obtain⟨r,e1,e2⟩:=h' x (MN ..) hp
   rw[e1,List.filter_cons_of_pos hp,M4, <-e2]
   rfl
def xX{α:Type}{e:α->D}{fe:DE}{f:α->D}{ext:Th}:∀(xs:Ql α) (s:Sl),(∀x∈xs,∃r,fe (.val (e x)::ext)=Qs r/\toDn r=Qs (f x))->fq bB bN fe (xs.map e) (s::ext)=Qs (xs.map f)
 |[],s,_=>rfl
 |x::l,s,h'=>by
  have i:=xX (f:=f) l (.val (e x)) (λy hy=>h' y (MM _ hy))
  obtain⟨r,e1,e2⟩:=h' x (MN ..)
  show((fe (.val (e x)::ext)).bind λr=>(toDn r).bind λd=>(fq bB bN fe (l.map e) (.val (e x)::ext)).map λxs=>d::xs)=_
  rw[e1,i]
  show((toDn r).bind λd=>_)=_
  rw[e2]
  rfl
def LI{α:Type}{e:α->D}{ft:DT}{p:α->Bool}{g:α->D}{cap:Ql Nat}{xs:Ql α}{b:Bool}{c:Ql D}(hf:f t=Qs r)(hr:r.d=.lst (xs.map e))(hc:fI t cap=Qs (b,c))(hl:xs.length<=50000)
  (h1:∀x∈xs,ft (.val (e x)::c.map Sl.val)=Qs (p x)) (h2:∀x∈xs,p x=Qt->∃r,fe (.val (e x)::c.map Sl.val)=Qs r/\r.d=g x) (h3:RB ((xs.filter p).map g)=Qt\/(r.ok&&b)=Qt):bK 1 cap (cF f) bB ft fe t=Qs (.nw ((xs.filter p).map g)):=by
 unfold bK
 have e1:cF f t=Qs (r.ok,xs.map e):=by
  unfold cF;rw[hf];simp only[MP,hr]
 have e2:bW bB ft fe (xs.map e) (Sl.no::c.map Sl.val)=Qs ((xs.filter p).map g):=xU xs _ h1 h2
 rw[e1,hc]
 simp only[MP]
 rw[QO (by simpa using hl)]
 show(bW bB ft fe (xs.map e) (Sl.no::c.map Sl.val)).bind _=_
 rw[e2]
 show(if((r.ok&&b)||RB ((xs.filter p).map g))=Qt then _ else _)=_
 rw[QO (by rcases h3 with h | h<;>rw[h]<;>simp)]
def kN(n:Int):aK:=Sum.inl n
def BV(x:Int):∀ks:Ql Int,kT (ks.map kN) (kN x)=decide (x∈ks)
 |[]=>rfl
 |k::ks=>by
  have i:=BV x ks
  unfold kT at i ⊢
  rw[M4,OA,i]
  by_cases h:k=x
  .subst h;simp
  .have h' : ¬ kN k=kN x:=λz=>h (by cases z;rfl)
   rw[Su h']
   have:(x∈k::ks)=(x∈ks):=by rw[MQ];simp[show ¬ x=k from λz=>h z.symm]
   simp only[this,Pe]
def fM(ks:Ql Int)(x:Int):Ql Int:=if x∈ks then ks else ks++[x]
def iz(_:Int):D:=.bl Qt
def W0{ks:Ql Int}{x:Int}:∀ls:Ql Int,Q2 (λk' d'=>if k'=kN x then D.bl Qt else d') (ls.map kN) (ls.map iz)=ls.map iz
 |[]=>rfl
 |l::ls=>by
  rw[M4,M4,Pg,W0 (ks:=ks) ls]
  congr 1
  split<;>rfl
def GO(ks:Ql Int)(x:Int):g4 (ks.map kN) (ks.map iz) (kN x) (.bl Qt)=((fM ks x).map kN,(fM ks x).map iz):=by
 unfold g4 fM
 rw[BV]
 by_cases h:x∈ks
 .rw[RC h,QO rfl,QO h,W0 (ks:=ks) ks]
 .rw[Su h,QU (by decide),QU h]
  simp[kN,iz]
structure AllK(M:Nat)(ks:List Int):Prop where
 nd:ks.Nodup
 lt:∀x∈ks,0<=x/\x<(M:Int)
def AllK.len (h:AllK M ks):ks.length<=M:=by
 have:=uQ (l:=ks) (C:=aj M) h.nd λx hx=>ml (h.lt x hx).1 (h.lt x hx).2
 simpa[aj] using this
def AllK.put (h:AllK M ks)(h0:0<=x)(h1:x<(M:Int)):AllK M (fM ks x):=by
 unfold fM
 split
 .exact h
 .rename_i n
  refine⟨MW.mpr ⟨h.nd,by simp,λa ha b hb e=>?_⟩,λy hy=>?_⟩
  .rw[MS]at hb;subst hb;subst e;exact n ha
  .rcases ML.mp hy with z | z
   .exact h.lt y z
   .rw[MS]at z;subst z;exact⟨h0,h1⟩
def wD(M:Nat)(ts:Ql (Int×Int)):D:=.tup [.int (M:Int),.lst (ts.map pD)]
def tN (L:Ql Int)(b:Int)(ha:fa t=Qs r1)(hb:fb t=Qs r2)(h0:0<=b)(h:b<(L.length:Int))(h1:r1.d=.lst (L.map D.int))(h2:r2.d=.int b):(d2 az fa fb) t=Qs (.cl (.int (L.getD b.toNat 0))) :=
 wN L b.toNat ha hb (by lia) h1 (by rw[h2,NN h0])
def aw(ts:Ql (Int×Int))(l:Int):Int×Int:=ts.getD l.toNat (0,0)
def cu(ts:Ql (Int×Int))(L:Ql Int):Ql Eg:=L.map (aw ts)
def lN (h0:0<=l)(h1:l<(ts.length:Int)):aw ts l∈ts:=by
 unfold aw
 rw[M5,MR (by lia)]
 exact Oh _
def qF (ha:fa t=Qs r1)(hb:fb t=Qs r2)(h1:r1.d=.lst (ts.map pD))(h2:r2.d=.int l)(h0:0<=l)(hl:l<(ts.length:Int)):(d2 az fa fb) t=Qs (.cl (pD (aw ts l))):=by
 rw[cQ ha hb]
 unfold az
 rw[h1,h2]
 show(RP (ts.map pD) l).map _=_
 have:RP (ts.map pD) l=Qs (pD (aw ts l)):=by
  unfold L2.RP
  have e:Sz (ts.map pD).length l=Qs l.toNat:=by
   rw[MY]
   unfold L2.Sz
   first
    |(rw[QO h0,QO (by lia)])
    |(simp only[];split<;>first | rfl | lia)
  rw[e]
  show(ts.map pD)[l.toNat]?=_
  rw[Nj]
  unfold aw
  rw[M5,MR (by lia)]
  rfl
 rw[this]
 show Qs (if r1.ok||flat (pD (aw ts l)) then Ev.cl (pD (aw ts l)) else Ev.tm (pD (aw ts l)))=_
 rw[show flat (pD (aw ts l))=Qt from rfl,NW,QO rfl]
def lJ (h:t[i]?=Qs (.val (wD M ts))):(d2 az (ae i) (dC (.int 1))) t=Qs (.cl (.lst (ts.map pD))):=by
 have:ae i t=Qs (.cl (wD M ts)):=by unfold ae;rw[h]
 rw[cQ this rfl]
 rfl
def qz (h:t[i]?=Qs (.val (wD M ts))):(d2 az (ae i) (dC (.int 0))) t=Qs (.cl (.int (M:Int))):=by
 have:ae i t=Qs (.cl (wD M ts)):=by unfold ae;rw[h]
 rw[cQ this rfl]
 rfl
def Fm(x y:Int):cS [x,y]=[if x<y then x else y,if x<y then y else x]:=by
 show jm x [y]=_
 unfold jm
 by_cases h:x<y
 .rw[QO (by lia),QO h,QO h]
 .by_cases e:x=y
  .subst e;simp
  .rw[QU (by lia),QU h,QU h]
   rfl
def Es(s0 s1 s2 s6 s7:Sl) (hM:M<=1000) (hw:TJ M ts){f:Int->Int}(h0:0<=l)(h1:l<(ts.length:Int)) :
  ∃u6 u7,uA [s0,s1,s2,.val (.lst (ts.map pD)),.own (((aj M).map f).map D.int),.val (.int l),s6,s7]=Qs (.nx [s0,s1,s2,.val (.lst (ts.map pD)),.own (((aj M).map (jb f (aw ts l).1 (aw ts l).2)).map D.int),.val (.int l),u6,u7]):=by
 obtain⟨a0,ab,bM⟩:=hw.lt _ (lN h0 h1)
 let e:=aw ts l
 let t:Th:=[s0,s1,s2,.val (.lst (ts.map pD)),.own (((aj M).map f).map D.int),.val (.int l),s6,s7]
 have et:=qF (fa:=ae 3) (fb:=ae 5) (t:=t) (r1:=.cl (.lst (ts.map pD))) (r2:=.cl (.int l)) (l:=l) rfl rfl rfl rfl h0 h1
 have nl:(aj M).length=M:=by unfold aj;simp
 have gv:∀v:Int,0<=v->v<(M:Int)->((aj M).map f).getD v.toNat 0=f v:=λv v0 v1=>by
  rw[M5,Nj]
  unfold aj
  rw[Nj,OB (by lia)]
  show f (v.toNat:Int)=f v
  rw[NN v0]
 have ix:∀(v:Int),0<=v->v<(M:Int)->(d2 az aA av) [.val (.int v),.val (.lst (((aj M).map f).map D.int))]=Qs (.cl (.int (f v))):=λv v0 v1=>by
  have:=tN (fa:=ae 1) (fb:=ae 0) (t:=[.val (.int v),.val (.lst (((aj M).map f).map D.int))]) (r1:=.cl (.lst (((aj M).map f).map D.int))) (r2:=.cl (.int v)) ((aj M).map f) v rfl rfl v0 (by rw[MY,nl];exact v1) rfl rfl
  rw[gv v v0 v1]at this
  exact this
 have c1:(bK 1 [4] (fE (d2 az bE bJ)) bB bN (d2 az aA av)) t=Qs (.nw [.int (f e.1),.int (f e.2)]):=by
  unfold bK fE
  rw[et]
  show((if[D.int e.1,D.int e.2].length<=50000 then(bW bB bN (d2 az aA av) [D.int e.1,D.int e.2] [.no,.val (.lst (((aj M).map f).map D.int))]).bind _ else Qn))=_
  have k1:=ix e.1 a0 (Qy ab bM)
  have k2:=ix e.2 (NR (Pa a0 ab)) bM
  have cc:bW bB bN (d2 az aA av) [D.int e.1,D.int e.2] [.no,.val (.lst (((aj M).map f).map D.int))]=Qs [.int (f e.1),.int (f e.2)]:=by
   show((d2 az aA av) [.val (.int e.1),.val (.lst (((aj M).map f).map D.int))]).bind (λr=>(((d2 az aA av) [.val (.int e.2),.val (.lst (((aj M).map f).map D.int))]).bind λr2=>Qs [r2.d]).map λxs=>r.d::xs)=_
   rw[k1,k2]
   rfl
  rw[cc]
  rfl
 have c2:=nF (xs:=[f e.1,f e.2]) c1 rfl (by simp)
 rw[Fm]at c2
 have E1:dv (j6 2 (dg i7 (dg (cb 7) gN))) (ai g9 (ag (bK 1 [4] (fE (d2 az bE bJ)) bB bN (d2 az aA av)) ao)) t=Qs (.nx [s0,s1,s2,.val (.lst (ts.map pD)),.own (((aj M).map f).map D.int),.val (.int l),.val (.int (if f e.1<f e.2 then f e.1 else f e.2)),.val (.int (if f e.1<f e.2 then f e.2 else f e.1))]):=by
  unfold dv
  rw[c2]
  rfl
 let t1:Th:=[s0,s1,s2,.val (.lst (ts.map pD)),.own (((aj M).map f).map D.int),.val (.int l),.val (.int (if f e.1<f e.2 then f e.1 else f e.2)),.val (.int (if f e.1<f e.2 then f e.2 else f e.1))]
 have c3:=xY (cap:=[6,7]) (f:=ae 4) (t:=t1) (r:=.tm (.lst (((aj M).map f).map D.int))) (xs:=(aj M).map f) (g:=λx=>if x=(if f e.1<f e.2 then f e.2 else f e.1) then(if f e.1<f e.2 then f e.1 else f e.2) else x) (b:=Qt) (c:=[.int (if f e.1<f e.2 then f e.1 else f e.2),.int (if f e.1<f e.2 then f e.2 else f e.1)]) (fe:=(oW (aI (d2 d5 av aQ)) aA av)) rfl rfl (by rw[MY,nl];lia) rfl (λx _=>by
  unfold oW
  rw[oO (fa:=ae 0) (fb:=ae 2) (a:=x) (b:=(if f e.1<f e.2 then f e.2 else f e.1)) rfl rfl]
  by_cases z:x=(if f e.1<f e.2 then f e.2 else f e.1)
  .rw[RC z,QO z];rfl
  .rw[Su z,QU z];rfl)
 have em:((aj M).map f).map (λx=>if x=(if f e.1<f e.2 then f e.2 else f e.1) then(if f e.1<f e.2 then f e.1 else f e.2) else x)=(aj M).map (jb f e.1 e.2):=by rw[Nk];rfl
 rw[em]at c3
 exact⟨_,_,(aL E1).trans (ik (i:=4) c3 (by simp[t1]))⟩
def Bj(s0 s1 s2:Sl){M:Nat}(hM:M<=1000){ts:Ql (Int×Int)}(hw:TJ M ts):∀(L:Ql Int) (f:Int->Int) (s5 s6 s7:Sl),(∀l∈L,0<=l/\l<(ts.length:Int)) ->
  ∃u5 u6 u7,bQ jI uA (L.map D.int) [s0,s1,s2,.val (.lst (ts.map pD)),.own (((aj M).map f).map D.int),s5,s6,s7]=Qs (.nx [s0,s1,s2,.val (.lst (ts.map pD)),.own (((aj M).map (om f (cu ts L))).map D.int),u5,u6,u7])
 |[],f,s5,s6,s7,_=>⟨s5,s6,s7,rfl⟩
 |l::L,f,s5,s6,s7,h=>by
  obtain⟨h0,h1⟩:=h l (MN ..)
  obtain⟨v6,v7,e⟩:=Es s0 s1 s2 s6 s7 hM hw (f:=f) h0 h1
  obtain⟨u5,u6,u7,ih⟩:=Bj s0 s1 s2 hM hw L (jb f (aw ts l).1 (aw ts l).2) (.val (.int l)) v6 v7 λl' WL=>h l' (MM _ WL)
  exact⟨u5,u6,u7,(j7 rfl e).trans ih⟩
def Kd (hM:M<=1000) (hw:TJ M ts) (h:∀l∈L,0<=l/\l<(ts.length:Int)):lu [wD M ts,.lst (L.map D.int)]=Qs (.nw (((aj M).map (ll (cu ts L))).map D.int)):=by
 let W:Sl:=.val (wD M ts)
 let N:Sl:=.val (.lst (L.map D.int))
 have E1:dv (cK 2 lF) av [W,N,.no,.no,.no,.no,.no,.no]=Qs (.nx [W,N,.val (.int (M:Int)),.val (.lst (ts.map pD)),.no,.no,.no,.no]):=rfl
 have E2:=ik (i:=4) (sZ (f:=ae 2) (t:=[W,N,.val (.int (M:Int)),.val (.lst (ts.map pD)),.no,.no,.no,.no]) (n:=M) rfl hM) (by simp)
 have e0:(aj M).map D.int=((aj M).map id).map D.int:=by rw[Pu]
 obtain⟨u5,u6,u7,e⟩:=Bj W N (.val (.int (M:Int))) hM hw L id .no .no .no h
 have E3:fX jI aA uA [W,N,.val (.int (M:Int)),.val (.lst (ts.map pD)),.own ((aj M).map D.int),.no,.no,.no]=Qs (.nx [W,N,.val (.int (M:Int)),.val (.lst (ts.map pD)),.own (((aj M).map (om id (cu ts L))).map D.int),u5,u6,u7]):=by
  rw[e0]
  exact e
 show(xb [W,N,.no,.no,.no,.no,.no,.no]).bind dD=_
 refine RN ?_
 have E4:fj 4 [W,N,.val (.int (M:Int)),.val (.lst (ts.map pD)),.own (((aj M).map (om id (cu ts L))).map D.int),u5,u6,u7]=Qs (.rt (.nw (((aj M).map (ll (cu ts L))).map D.int))):=rfl
 exact(aL E1).trans ((aL E2).trans ((aL E3).trans E4))
structure PS where
 n:Nat
 pa:Int
 tk:List Int
 pt:Int->List Int
 wd:Int->Int
 pd:Int->Int
 ar:Int->Int
 po:Int->Int
def PS.new(M:Nat):PS:=⟨M,1,[],λp=>[p],λ_=>0,λ_=>0,λ_=>0,id⟩
def jD(b:Bool):Int:=if b then 1 else 0
def RD(S:PS)(e:Int->Eg)(g:Int->Bool)(at':Int):Int:=if S.po (e at').1=S.po (e at').2 then 0 else jD (g (S.po (e at').1))+jD (g (S.po (e at').2))
def RV(S:PS)(e:Int->Eg)(w:Int->Int)(at':Int):Int:=w at'*S.pa - S.ar (e at').1 - S.ar (e at').2
def jq(S:PS)(e:Int->Eg)(w:Int->Int)(g:Int->Bool)(at':Int):Bool:=decide (0<RD S e g at')&&decide (RV S e w at'<=0)
def dH(S:PS)(e:Int->Eg)(w:Int->Int)(g:Int->Bool)(nt:Nat):Qo Int:=(aj nt).find? (jq S e w g)
def gk(S:PS)(e:Int->Eg)(w:Int->Int)(g:Int->Bool)(nt:Nat):Ql Int:=((aj nt).filter λa=>decide (0<RD S e g a)).map λa=>(RV S e w a).fdiv (RD S e g a)
def R7(S:PS):PS:={ S with pa:=S.pa*2,wd:=λp=>2*S.wd p,pd:=λp=>2*S.pd p,ar:=λv=>2*S.ar v }
def TR(S:PS)(g:Int->Bool)(st:Int):PS:={ S with wd:=λp=>S.wd p+(if g p then st else 0),pd:=λp=>S.pd p+(if g p then st else 0),ar:=λv=>S.ar v+(if g (S.po v) then st else 0) }
def cB(S:PS)(e:Int->Eg)(a:Int):Ql Int:=cS (S.pt (S.po (e a).1)++S.pt (S.po (e a).2))
def Sy(S:PS)(e:Int->Eg)(a:Int):PS:={ S with
 n:=S.n+1,tk:=S.tk++[a]
 pt:=λp=>if p=(S.n:Int) then cB S e a else S.pt p
 wd:=λp=>if p=(S.n:Int) then 0 else S.wd p
 pd:=λp=>if p=(S.n:Int) then S.pd (S.po (e a).1)+S.pd (S.po (e a).2) else S.pd p
 po:=λv=>if v∈cB S e a then(S.n:Int) else S.po v }
def gT(ks:Ql Int)(x:Int):Ql Int:=if x∈ks then ks else ks++[x]
def gC(S:PS)(ks:Ql Int)(w:Eg):Ql Int:=if S.po w.1=S.po w.2 then ks else gT (gT ks (S.po w.1)) (S.po w.2)
def RA(S:PS)(ws:Ql Eg):Ql Int:=ws.foldl (gC S) []
def aJ(G:Ql Int):Int->Bool:=λp=>decide (p∈G)
def cI(e:Int->Eg)(w:Int->Int)(nt:Nat)(ws:Ql Eg)(S:PS):PS:=match dH S e w (aJ (RA S ws)) nt with
 |none=>TR (R7 S) (aJ (RA S ws)) (oj (gk (R7 S) e w (aJ (RA S ws)) nt))
 |some a=>Sy S e a
def gm(e:Int->Eg)(w:Int->Int)(nt:Nat)(ws:Ql Eg):Nat->PS->PS
 |0,S=>S
 |k+1,S=>if RA S ws=[] then S else gm e w nt ws k (cI e w nt ws S)
def Bb{y:Int}:y∈gT ks x↔y∈ks\/y=x:=by
 unfold gT
 split
 .rename_i h
  exact⟨.inl,λz=>z.elim id λz=>z ▸ h⟩
 .simp
def A9{S:PS}{p:Int}:∀{ws:Ql Eg}{ks:Ql Int},p∈ws.foldl (gC S) ks↔p∈ks\/∃w∈ws,S.po w.1≠S.po w.2/\(p=S.po w.1\/p=S.po w.2)
 |[],ks=>by simp
 |w::ws,ks=>by
  rw[PN,A9 (ws:=ws)]
  have:p∈gC S ks w↔p∈ks\/(S.po w.1≠S.po w.2/\(p=S.po w.1\/p=S.po w.2)):=by
   unfold gC
   split
   .rename_i h;simp[h]
   .rename_i h;rw[Bb,Bb];simp only[ne_eq,h,not_false_eq_true,true_and,or_assoc]
  rw[this]
  simp only[MQ,exists_eq_or_imp,or_assoc]
def V0{S:PS}:p∈RA S ws↔∃w∈ws,S.po w.1≠S.po w.2/\(p=S.po w.1\/p=S.po w.2):=by
 unfold RA
 rw[A9]
 simp
def Yj{S:PS}:RA S ws=[]↔∀w∈ws,S.po w.1=S.po w.2:=by
 constructor
 .intro h w hw
  by_cases z:S.po w.1=S.po w.2
  .exact z
  .have:S.po w.1∈RA S ws:=V0.mpr ⟨w,hw,z,.inl rfl⟩
   rw[h]at this
   cases this
 .intro h
  refine List.eq_nil_iff_forall_not_mem.mpr λp hp=>?_
  obtain⟨w,hw,n,_⟩:=V0.mp hp
  exact n (h w hw)
def AQ (h:ks.Nodup):(gT ks x).Nodup:=by
 unfold gT
 split
 .exact h
 .rename_i c
  exact MW.mpr ⟨h,by simp,λa ha b hb z=>c (by rw[MS.mp hb]at z;exact z ▸ ha)⟩
def AO{S:PS}:∀{ws:Ql Eg}{ks:Ql Int},ks.Nodup->(ws.foldl (gC S) ks).Nodup
 |[],ks,h=>h
 |w::ws,ks,h=>by
  rw[PN]
  refine AO ?_
  unfold gC
  split
  .exact h
  .exact AQ (AQ h)
structure Ok(M:Nat)(e:Int->Eg)(w:Int->Int)(nt:Nat)(S:PS):Prop where
 Vk:0<S.pa
 nM:S.n=M+S.tk.length
 T1:∀v,0<=v->v<(M:Int)->0<=S.po v/\S.po v<(S.n:Int)
 cur:∀v,0<=v->v<(M:Int)->∀u,u∈S.pt (S.po v)↔(0<=u/\u<(M:Int)/\S.po u=S.po v)
 one:∀p,0<=p->p<(S.n:Int)->∀u∈S.pt p,∀v∈S.pt p,S.po u=S.po v
 inr:∀p,0<=p->p<(S.n:Int)->∀u∈S.pt p,0<=u/\u<(M:Int)
 V3:∀p,0<=p->p<(S.n:Int)->(S.pt p).Pairwise (· < ·)
 ne:∀p,0<=p->p<(S.n:Int)->S.pt p≠[]
 XC:∀p q,0<=p->p<(S.n:Int)->0<=q->q<(S.n:Int)->S.pt p=S.pt q->p=q
 pos:∀a,0<=a->a<(nt:Int)->S.po (e a).1≠S.po (e a).2->0<=RV S e w a
 W5:∀a∈S.tk,0<=a/\a<(nt:Int)
def iX(M:Nat)(e:Int->Eg)(nt:Nat):Prop := ∀a,0<=a->a<(nt:Int)->(0<=(e a).1/\(e a).1<(M:Int))/\0<=(e a).2/\(e a).2<(M:Int)
def Ok.new{M:Nat}{e:Int->Eg}{w:Int->Int}{nt:Nat}(hw:∀a,0<=a->a<(nt:Int)->0<=w a):Ok M e w nt (PS.new M) where
 Vk:=show(0:Int)<1 by decide
 nM:=rfl
 T1:=λv h0 h1=>⟨h0,h1⟩
 cur:=λv h0 h1 u=>by
  show u∈[v]↔0<=u/\u<(M:Int)/\u=v
  rw[MS]
  exact⟨λz=>⟨z ▸ h0,z ▸ h1,z⟩,λz=>z.2.2⟩
 one:=λp _ _ u hu v hv=>by rw[MS.mp hu,MS.mp hv]
 inr:=λp h0 h1 u hu=>by rw[MS.mp hu];exact⟨h0,h1⟩
 V3:=λp _ _=>OQ ..
 ne:=λp _ _=>by simp[PS.new]
 XC:=λp q _ _ _ _ h=>by simpa[PS.new] using h
 pos:=λa h0 h1 _=>by
  show 0<=w a*1 - 0 - 0
  have:=hw a h0 h1
  lia
 W5:=λa h=>nomatch h
def Ok.nd{S:PS}(h:Ok M e w nt S) (h0:0<=p)(h1:p<(S.n:Int)):(S.pt p).Nodup:=(h.V3 p h0 h1).imp λz e=>by lia
def YI{S:PS}:u∈cB S e a↔u∈S.pt (S.po (e a).1)\/u∈S.pt (S.po (e a).2):=by
 unfold cB
 rw[(lQ _).mem_iff,ML]
def Ok.Sy{M:Nat}{e:Int->Eg}{w:Int->Int}{nt:Nat}{S:PS}(h:Ok M e w nt S)(hE:iX M e nt){a:Int}(a0:0<=a)(a1:a<(nt:Int))(hn:S.po (e a).1≠S.po (e a).2):Ok M e w nt (Sy S e a):=by
 obtain⟨⟨x0,x1⟩,y0,y1⟩:=hE a a0 a1
 have px:=h.T1 _ x0 x1
 have py:=h.T1 _ y0 y1
 have mj:∀u,u∈cB S e a↔(0<=u/\u<(M:Int)/\(S.po u=S.po (e a).1\/S.po u=S.po (e a).2)):=λu=>by
  rw[YI,h.cur _ x0 x1,h.cur _ y0 y1]
  constructor
  .rintro(⟨a,b,c⟩ | ⟨a,b,c⟩)
   .exact⟨a,b,.inl c⟩
   .exact⟨a,b,.inr c⟩
  .rintro⟨a,b,c | c⟩
   .exact .inl ⟨a,b,c⟩
   .exact .inr ⟨a,b,c⟩
 have TZ:∀v,(KX.Sy S e a).po v=if v∈cB S e a then(S.n:Int) else S.po v:=λv=>rfl
 have VI:∀p,(KX.Sy S e a).pt p=if p=(S.n:Int) then cB S e a else S.pt p:=λv=>rfl
 have same:∀u v,0<=u->u<(M:Int)->0<=v->v<(M:Int)->S.po u=S.po v->(KX.Sy S e a).po u=(KX.Sy S e a).po v:=λu v u0 u1 v0 v1 q=>by
  rw[TZ,TZ]
  have:u∈cB S e a↔v∈cB S e a:=by
   rw[mj,mj,q]
   exact⟨λz=>⟨v0,v1,z.2.2⟩,λz=>⟨u0,u1,z.2.2⟩⟩
  by_cases z:u∈cB S e a
  .rw[QO z,QO (this.mp z)]
  .rw[QU z,QU λk=>z (this.mpr k),q]
 have old:∀p,0<=p->p<(S.n:Int)->S.pt p≠cB S e a:=λp p0 p1 q=>by
  have q1:(e a).1∈S.pt p:=by rw[q,mj];exact⟨x0,x1,.inl rfl⟩
  have q2:(e a).2∈S.pt p:=by rw[q,mj];exact⟨y0,y1,.inr rfl⟩
  exact hn (h.one p p0 p1 _ q1 _ q2)
 refine⟨h.Vk,?_,?_,?_,?_,?_,?_,?_,?_,?_,?_⟩
 .show S.n+1=M+(S.tk++[a]).length
  rw[Nl,h.nM];rfl
 .intro v v0 v1
  rw[TZ]
  show _/\_<((S.n+1:Nat):Int)
  have:=h.T1 v v0 v1
  split<;>lia
 .intro v v0 v1 u
  rw[TZ v]
  have pv:=h.T1 v v0 v1
  by_cases z:v∈cB S e a
  .rw[QO z,VI,QO rfl,TZ u]
   constructor
   .intro k
    have:=(mj u).mp k
    exact⟨this.1,this.2.1,by rw[QO k]⟩
   .rintro⟨u0,u1,c⟩
    by_cases k:u∈cB S e a
    .exact k
    .rw[QU k]at c
     have:=h.T1 u u0 u1
     lia
  .rw[QU z,VI,QU (by lia),h.cur v v0 v1,TZ u]
   constructor
   .rintro⟨u0,u1,c⟩
    refine⟨u0,u1,?_⟩
    rw[QU,c]
    intro k
    exact z ((mj v).mpr ⟨v0,v1,c ▸ ((mj u).mp k).2.2⟩)
   .rintro⟨u0,u1,c⟩
    refine⟨u0,u1,?_⟩
    by_cases k:u∈cB S e a
    .rw[QO k]at c;lia
    .rw[QU k]at c;exact c
 .intro p p0 p1 u hu v hv
  rw[VI]at hu hv
  have p1:p<((S.n+1:Nat):Int):=p1
  by_cases z:p=(S.n:Int)
  .rw[QO z]at hu hv
   rw[TZ,TZ,QO hu,QO hv]
  .rw[QU z]at hu hv
   have p2:p<(S.n:Int):=by lia
   obtain⟨u0,u1⟩:=h.inr p p0 p2 u hu
   obtain⟨v0,v1⟩:=h.inr p p0 p2 v hv
   exact same u v u0 u1 v0 v1 (h.one p p0 p2 u hu v hv)
 .intro p p0 p1 u hu
  rw[VI]at hu
  have p1:p<((S.n+1:Nat):Int):=p1
  by_cases z:p=(S.n:Int)
  .rw[QO z,mj]at hu
   exact⟨hu.1,hu.2.1⟩
  .rw[QU z]at hu
   exact h.inr p p0 (by lia) u hu
 .intro p p0 p1
  rw[VI]
  have p1:p<((S.n+1:Nat):Int):=p1
  by_cases z:p=(S.n:Int)
  .rw[QO z]
   have s1:=uT (S.pt (S.po (e a).1)++S.pt (S.po (e a).2))
   have nd:(cS (S.pt (S.po (e a).1)++S.pt (S.po (e a).2))).Nodup:=by
    refine(lQ _).nodup_iff.mpr (MW.mpr ⟨h.nd px.1 px.2,h.nd py.1 py.2,λu hu v hv q=>hn ?_⟩)
    subst q
    rw[<-((h.cur _ x0 x1 u).mp hu).2.2,((h.cur _ y0 y1 u).mp hv).2.2]
   exact(s1.and nd).imp λ{a b} k=>by have:=k.1;have:=k.2;lia
  .rw[QU z]
   exact h.V3 p p0 (by lia)
 .intro p p0 p1
  rw[VI]
  have p1:p<((S.n+1:Nat):Int):=p1
  by_cases z:p=(S.n:Int)
  .rw[QO z]
   exact QN ((mj (e a).1).mpr ⟨x0,x1,.inl rfl⟩)
  .rw[QU z]
   exact h.ne p p0 (by lia)
 .intro p q p0 p1 q0 q1 k
  rw[VI,VI]at k
  have p1:p<((S.n+1:Nat):Int):=p1
  have q1:q<((S.n+1:Nat):Int):=q1
  by_cases z:p=(S.n:Int)
  .by_cases y:q=(S.n:Int)
   .rw[z,y]
   .rw[QO z,QU y]at k
    exact absurd k.symm (old q q0 (by lia))
  .by_cases y:q=(S.n:Int)
   .rw[QU z,QO y]at k
    exact absurd k (old p p0 (by lia))
   .rw[QU z,QU y]at k
    exact h.XC p q p0 (by lia) q0 (by lia) k
 .intro c c0 c1 k
  obtain⟨⟨u0,u1⟩,v0,v1⟩:=hE c c0 c1
  exact h.pos c c0 c1 λq=>k (same _ _ u0 u1 v0 v1 q)
 .intro c hc
  rcases ML.mp hc with z | z
  .exact h.W5 c z
  .rw[MS.mp z];exact⟨a0,a1⟩
def uC(b:Bool):0<=jD b/\jD b<=1:=by cases b<;>decide
def mV(S:PS)(e:Int->Eg)(g:Int->Bool)(a:Int):0<=RD S e g a/\RD S e g a<=2:=by
 unfold RD
 split
 .decide
 .have:=uC (g (S.po (e a).1));have:=uC (g (S.po (e a).2));lia
def Du{S:PS}(h:0<RD S e g a):S.po (e a).1≠S.po (e a).2:=λz=>by
 unfold RD at h
 rw[QO z]at h
 exact absurd h (by decide)
def Ok.R7{M:Nat}{e:Int->Eg}{w:Int->Int}{nt:Nat}{S:PS}(h:Ok M e w nt S):Ok M e w nt (R7 S):=by
 refine⟨?_,h.nM,h.T1,h.cur,h.one,h.inr,h.V3,h.ne,h.XC,?_,h.W5⟩
 .show 0<S.pa*2
  have:=h.Vk
  lia
 .intro a a0 a1 k
  have:=h.pos a a0 a1 k
  show 0<=w a*(S.pa*2) - 2*S.ar (e a).1 - 2*S.ar (e a).2
  unfold RV at this
  have q:w a*(S.pa*2)=2*(w a*S.pa):=by rw[<-Qe,Qz]
  lia
def tq(S:PS)(e:Int->Eg)(w:Int->Int)(a:Int):RV (R7 S) e w a=2*RV S e w a:=by
 unfold RV
 show w a*(S.pa*2) - 2*S.ar (e a).1 - 2*S.ar (e a).2=_
 have q:w a*(S.pa*2)=2*(w a*S.pa):=by rw[<-Qe,Qz]
 lia
def J8(S:PS)(e:Int->Eg)(w:Int->Int)(g:Int->Bool)(st a:Int):RV (TR S g st) e w a=RV S e w a - (if g (S.po (e a).1) then st else 0) - (if g (S.po (e a).2) then st else 0):=by
 unfold RV
 show w a*S.pa - (S.ar (e a).1+(if g (S.po (e a).1) then st else 0)) - (S.ar (e a).2+(if g (S.po (e a).2) then st else 0))=_
 lia
def Bt(S:PS)(e:Int->Eg)(w:Int->Int)(g:Int->Bool)(st a:Int)(hn:S.po (e a).1≠S.po (e a).2):RV (TR S g st) e w a=RV S e w a - RD S e g a*st:=by
 rw[J8]
 unfold RD
 rw[QU hn]
 cases g (S.po (e a).1)<;>cases g (S.po (e a).2)<;>simp[jD]<;>lia
def Ok.TR{M:Nat}{e:Int->Eg}{w:Int->Int}{nt:Nat}{S:PS}(h:Ok M e w nt S){g:Int->Bool}{st:Int}(hs:∀a,0<=a->a<(nt:Int)->0<RD S e g a->RD S e g a*st<=RV S e w a):Ok M e w nt (TR S g st):=by
 refine⟨h.Vk,h.nM,h.T1,h.cur,h.one,h.inr,h.V3,h.ne,h.XC,?_,h.W5⟩
 intro a a0 a1 k
 have k:S.po (e a).1≠S.po (e a).2:=k
 rw[Bt S e w g st a k]
 have p:=h.pos a a0 a1 k
 have b:=mV S e g a
 by_cases z:0<RD S e g a
 .have:=hs a a0 a1 z
  lia
 .have z:RD S e g a=0:=by lia
  rw[z,Int.zero_mul]
  lia
def Ck{S:PS}(h:dH S e w g nt=Qn):∀a,0<=a->a<(nt:Int)->0<RD S e g a->0<RV S e w a:=λa a0 a1 b=>by
 have:=QM.mp h a (ml a0 a1)
 unfold jq at this
 rw[RC b]at this
 simp at this
 lia
def ub{S:PS}(h:dH S e w g nt=Qs a):(0<=a/\a<(nt:Int))/\0<RD S e g a/\RV S e w a<=0:=by
 have m:=PZ h
 have p:=Rb h
 unfold jq at p
 rw[MX,SI,SI]at p
 exact⟨dm m,p⟩
def J1:∀{L:Ql Int}{x:Int},x∈L->oj L<=x:=λ{L x} h=>by
 cases L with
 |nil=>cases h
 |cons a L =>
  have key:∀(L:Ql Int) (b:Int),dG b L<=b/\∀y∈L,dG b L<=y:=by
   intro L
   induction L with
   |nil=>exact λb=>⟨Om _,λy hy=>nomatch hy⟩
   |cons c L ih =>
    intro b
    have:=ih (if c<b then c else b)
    refine⟨?_,λy hy=>?_⟩
    .show dG (if c<b then c else b) L<=b
     have:=this.1
     split at this<;>lia
    .show dG (if c<b then c else b) L<=y
     rcases MQ.mp hy with rfl | z
     .have:=this.1
      split at this<;>lia
     .exact this.2 y z
  have:=key L a
  rcases MQ.mp h with rfl | z
  .exact this.1
  .exact this.2 x z
def J0:∀{L:Ql Int},L≠[]->oj L∈L:=λ{L} h=>by
 cases L with
 |nil=>exact absurd rfl h
 |cons a L =>
  have key:∀(L:Ql Int) (b:Int),dG b L=b\/dG b L∈L:=by
   intro L
   induction L with
   |nil=>exact λb=>.inl rfl
   |cons c L ih =>
    intro b
    rcases ih (if c<b then c else b) with z | z
    .show dG (if c<b then c else b) L=b\/dG (if c<b then c else b) L∈c::L
     rw[z]
     split
     .exact .inr (MN ..)
     .exact .inl rfl
    .exact .inr (MM _ z)
  rcases key L a with z | z
  .show dG a L∈a::L
   rw[z];exact MN ..
  .exact MM _ z
def y4 (h:b=1\/b=2):b*(2*l).fdiv b=2*l:=by
 rcases h with rfl | rfl
 .rw[O0 _ (by decide)];lia
 .rw[O0 _ (by decide)];lia
def Yp{S:PS}:x∈gk S e w g nt↔∃a,(0<=a/\a<(nt:Int))/\0<RD S e g a/\x=(RV S e w a).fdiv (RD S e g a):=by
 unfold gk
 rw[Ny]
 constructor
 .rintro⟨a,ha,rfl⟩
  obtain⟨h1,h2⟩:=N1.mp ha
  exact⟨a,dm h1,of_decide_eq_true h2,rfl⟩
 .rintro⟨a,h1,h2,rfl⟩
  exact⟨a,N1.mpr ⟨ml h1.1 h1.2,RC h2⟩,rfl⟩
def cz(S:PS)(e:Int->Eg)(w:Int->Int)(g:Int->Bool)(nt:Nat):Int:=oj (gk (R7 S) e w g nt)
def Tw(S:PS)(e:Int->Eg)(w:Int->Int)(g:Int->Bool)(nt:Nat):PS:=TR (R7 S) g (cz S e w g nt)
def qO{S:PS}(a0:0<=a)(a1:a<(nt:Int))(b:0<RD S e g a):RD S e g a*cz S e w g nt<=2*RV S e w a:=by
 have m:(RV (R7 S) e w a).fdiv (RD (R7 S) e g a)∈gk (R7 S) e w g nt:=Yp.mpr ⟨a,⟨a0,a1⟩,b,rfl⟩
 have l:=J1 m
 rw[tq]at l
 have bb:=mV S e g a
 have t:=y4 (l:=RV S e w a) (b:=RD S e g a) (by lia)
 have l:cz S e w g nt<=(2*RV S e w a).fdiv (RD S e g a):=l
 have:=NZ l bb.1
 lia
def nE{S:PS}(Uo:∃a,(0<=a/\a<(nt:Int))/\0<RD S e g a):gk (R7 S) e w g nt≠[]/\∃a,(0<=a/\a<(nt:Int))/\0<RD S e g a/\RD S e g a*cz S e w g nt=2*RV S e w a:=by
 obtain⟨c,c0,c1⟩:=Uo
 have ne:gk (R7 S) e w g nt≠[]:=QN (Yp.mpr ⟨c,c0,c1,rfl⟩)
 obtain⟨a,a0,a1,a2⟩:=Yp.mp (J0 ne)
 refine⟨ne,a,a0,a1,?_⟩
 have bb:=mV S e g a
 have a1:0<RD S e g a:=a1
 rw[tq]at a2
 have t:=y4 (l:=RV S e w a) (b:=RD S e g a) (by lia)
 have a2:cz S e w g nt=(2*RV S e w a).fdiv (RD S e g a):=a2
 rw[a2];exact t
def Ok.Tw{M:Nat}{e:Int->Eg}{w:Int->Int}{nt:Nat}{S:PS}(h:Ok M e w nt S){g:Int->Bool}:Ok M e w nt (Tw S e w g nt):=by
 refine Ok.TR h.R7 λa a0 a1 b=>?_
 rw[tq]
 exact qO a0 a1 b
def Fe{S:PS}(Uo:∃a,(0<=a/\a<(nt:Int))/\0<RD S e g a)(hf:dH S e w g nt=Qn):0<cz S e w g nt:=by
 obtain⟨_,a,a0,a1,a2⟩:=nE (w:=w) Uo
 have l:=Ck hf a a0.1 a0.2 a1
 have bb:=mV S e g a
 rcases(show RD S e g a=1\/RD S e g a=2 by lia) with z | z
 .rw[z]at a2;lia
 .rw[z]at a2;lia
def Le{S:PS}(Uo:∃a,(0<=a/\a<(nt:Int))/\0<RD S e g a):dH (Tw S e w g nt) e w g nt≠Qn:=by
 obtain⟨_,a,a0,a1,a2⟩:=nE (w:=w) Uo
 intro hf
 have b:0<RD (Tw S e w g nt) e g a:=a1
 have:=Ck hf a a0.1 a0.2 b
 have q:RV (Tw S e w g nt) e w a=RV (KX.R7 S) e w a - RD (KX.R7 S) e g a*cz S e w g nt:=Bt (KX.R7 S) e w g _ a (Du a1)
 rw[q,tq]at this
 have a2:RD (KX.R7 S) e g a*cz S e w g nt=2*RV S e w a:=a2
 lia
def fJ(e:Int->Eg)(nt:Nat):Ql Eg:=(aj nt).map e
def ue{S:PS}(h:Ok M e w nt S)(hE:iX M e nt) (hw:∀w∈ws,Eqv (fJ e nt) w.1 w.2)(hn:RA S ws≠[]):∃a,(0<=a/\a<(nt:Int))/\0<RD S e (aJ (RA S ws)) a:=by
 obtain⟨w',X6,n⟩:∃w∈ws,S.po w.1≠S.po w.2:=by
  refine NY λk=>hn (Yj.mpr λw hw=>NY λz=>k ⟨w,hw,z⟩)
 refine NY λk=>n ?_
 have key:∀a∈fJ e nt,(S.po a.1=S.po w'.1↔S.po a.2=S.po w'.1):=λp hp=>by
  obtain⟨a,ha,rfl⟩:=Ny.mp hp
  have ra:=dm ha
  by_cases z:S.po (e a).1=S.po (e a).2
  .rw[z]
  .have b : ¬ 0<RD S e (aJ (RA S ws)) a:=λq=>k ⟨a,ra,q⟩
   unfold RD at b
   rw[QU z]at b
   have b1:=uC (aJ (RA S ws) (S.po (e a).1));have b2:=uC (aJ (RA S ws) (S.po (e a).2))
   have G:aJ (RA S ws) (S.po w'.1)=Qt:=RC (V0.mpr ⟨w',X6,n,.inl rfl⟩)
   constructor
   .intro q
    rw[q,G]at b
    have:jD Qt=1:=rfl
    lia
   .intro q
    rw[q,G]at b
    have:jD Qt=1:=rfl
    lia
 exact(((hw w' X6).pred (p:=λv=>S.po v=S.po w'.1) key).mp rfl).symm
def sv(M:Nat):Ql Eg:=(aj M).flatMap λu=>((aj M).filter λv=>decide (u<v)).map λv=>(u,v)
def YH :(u,v)∈sv M↔0<=u/\u<v/\v<(M:Int):=by
 unfold sv
 rw[List.mem_flatMap]
 constructor
 .rintro⟨x,hx,h⟩
  obtain⟨y,hy,q⟩:=Ny.mp h
  cases q
  obtain⟨y1,y2⟩:=N1.mp hy
  have:=dm hx;have:=dm y1;have:=of_decide_eq_true y2
  lia
 .rintro⟨a,b,c⟩
  exact⟨u,ml a (by lia),Ny.mpr ⟨v,N1.mpr ⟨ml (by lia) c,RC b⟩,rfl⟩⟩
def Hh:∀M:Nat,M<=9->(sv M).length<=36:=by decide +kernel
def mu(M:Nat)(S:PS):Nat:=((sv M).filter λq=>decide (S.po q.1≠S.po q.2)).length
def CF{α:Type}{p q:α->Bool}:∀{V:Ql α},(∀x∈V,q x=Qt->p x=Qt)->(∃x∈V,p x=Qt/\q x=Qf)->(V.filter q).length+1<=(V.filter p).length
 |[],_,h=>by obtain⟨x,hx,_⟩:=h;cases hx
 |y::V,h1,h2=>by
  have mono:∀V:Ql α,(∀x∈V,q x=Qt->p x=Qt)->(V.filter q).length<=(V.filter p).length:=by
   intro V
   induction V with
   |nil=>intro _;exact MZ _
   |cons z V ih =>
    intro h
    have:=ih λx hx=>h x (MM _ hx)
    rw[Oi,Oi]
    have hz:=h z (MN ..)
    cases e1:q z with
    |true=>rw[hz e1];simp only[if_true,M9];lia
    |false =>
     cases p z<;>simp<;>lia
  rw[Oi,Oi]
  have hy:=h1 y (MN ..)
  have m:=mono V λx hx=>h1 x (MM _ hx)
  obtain⟨x,hx,px,qx⟩:=h2
  rcases MQ.mp hx with rfl | z
  .rw[px,qx]
   simp only[if_true,Nq,if_false,M9]
   lia
  .have ih:=CF (λx hx=>h1 x (MM _ hx)) ⟨x,z,px,qx⟩
   cases e1:q y with
   |true=>rw[hy e1];simp only[if_true,M9];lia
   |false =>
    cases p y<;>simp<;>lia
def JA{S:PS}(h:Ok M e w nt S)(hE:iX M e nt) (a0:0<=a)(a1:a<(nt:Int))(hn:S.po (e a).1≠S.po (e a).2):mu M (KX.Sy S e a)+1<=mu M S:=by
 obtain⟨⟨x0,x1⟩,y0,y1⟩:=hE a a0 a1
 have TZ:∀v,(KX.Sy S e a).po v=if v∈cB S e a then(S.n:Int) else S.po v:=λv=>rfl
 have mj:∀u,u∈cB S e a↔(0<=u/\u<(M:Int)/\(S.po u=S.po (e a).1\/S.po u=S.po (e a).2)):=λu=>by
  rw[YI,h.cur _ x0 x1,h.cur _ y0 y1]
  constructor
  .rintro(⟨a,b,c⟩ | ⟨a,b,c⟩)
   .exact⟨a,b,.inl c⟩
   .exact⟨a,b,.inr c⟩
  .rintro⟨a,b,c | c⟩
   .exact .inl ⟨a,b,c⟩
   .exact .inr ⟨a,b,c⟩
 have k1:(e a).1∈cB S e a:=(mj _).mpr ⟨x0,x1,.inl rfl⟩
 have k2:(e a).2∈cB S e a:=(mj _).mpr ⟨y0,y1,.inr rfl⟩
 refine CF (λq hq k=>?_) ?_
 .rw[SI]at k ⊢
  intro z
  refine k ?_
  obtain⟨u,v⟩:=q
  obtain⟨u0,uv,v1⟩:=YH.mp hq
  simp only at z ⊢
  have:u∈cB S e a↔v∈cB S e a:=by
   rw[mj,mj,z]
   exact⟨λk=>⟨by lia,v1,k.2.2⟩,λk=>⟨u0,by lia,k.2.2⟩⟩
  rw[TZ,TZ]
  by_cases y:u∈cB S e a
  .rw[QO y,QO (this.mp y)]
  .rw[QU y,QU λk=>y (this.mpr k),z]
 .have ne:(e a).1≠(e a).2:=λz=>hn (by rw[z])
  rcases Int.lt_or_gt_of_ne ne with z | z
  .exact⟨((e a).1,(e a).2),YH.mpr ⟨x0,z,y1⟩,RC hn,Su λk=>k (by rw[TZ,TZ,QO k1,QO k2])⟩
  .exact⟨((e a).2,(e a).1),YH.mpr ⟨y0,z,x1⟩,RC λk=>hn k.symm,Su λk=>k (by rw[TZ,TZ,QO k1,QO k2])⟩
def Sx:Ql Str:=["ties", "weights", "parts", "taken", "points", "widths", "paid", "around", "piece_of"]
def fl(n:Nat)(f:Int->Int):D:=.lst (((aj n).map f).map D.int)
def fp(n:Nat)(f:Int->Ql Int):D:=.lst ((aj n).map λp=>cZ (f p))
def iL(l:Ql Int):D:=.lst (l.map D.int)
def oD(C:U1)(M:Nat)(ts:Ql (Int×Int))(wl:Ql Int)(S:PS):D:=.obj C Sx [.lst (ts.map pD),iL wl,.int S.pa,iL S.tk,fp S.n S.pt,fl S.n S.wd,fl S.n S.pd,fl M S.ar,fl M S.po]
def aR(wl:Ql Int)(a:Int):Int:=wl.getD a.toNat 0
def fg(n:Nat):(aj n).length=n:=by unfold aj;simp
def Lq{f:Int->Int}(v0:0<=v)(v1:v<(n:Int)):((aj n).map f).getD v.toNat 0=f v:=by
 rw[M5,Nj]
 unfold aj
 rw[Nj,OB (by lia)]
 show f (v.toNat:Int)=f v
 rw[NN v0]
def ib{C:U1}{x:Str}{d:D}(h:f t=Qs r)(hr:r.d=.obj C ns ds)(hx:aW x ns=Qs j)(hd:ds[j]?=Qs d):(d1 (aH C x) f) t=Qs (if r.ok||flat d then .cl d else .tm d):=by
 unfold d1
 rw[h]
 show aH C x r=_
 unfold aH
 rw[hr]
 simp only[if_true,hx,MP,hd,Oe]
def gQ(r:Ev)(d:D):((if r.ok||flat d then Ev.cl d else Ev.tm d):Ev).d=d:=by split<;>rfl
def iV{f:Int->Int}(ha:fa t=Qs r1)(hb:fb t=Qs r2)(h1:r1.d=fl n f)(h2:r2.d=.int v)(v0:0<=v)(v1:v<(n:Int)):(d2 az fa fb) t=Qs (.cl (.int (f v))):=by
 have:=tN ((aj n).map f) v ha hb v0 (by rw[MY,fg];exact v1) h1 h2
 rw[Lq v0 v1]at this
 exact this
def Ct{f:Int->Ql Int}(v0:0<=v)(v1:v<(n:Int)):RP ((aj n).map λp=>cZ (f p)) v=Qs (cZ (f v)):=by
 unfold L2.RP
 have e:Sz ((aj n).map λp=>cZ (f p)).length v=Qs v.toNat:=by
  rw[MY,fg]
  have:=wO n v.toNat (by lia)
  rw[NN v0]at this
  exact this
 rw[e]
 show((aj n).map λp=>cZ (f p))[v.toNat]?=_
 unfold aj
 rw[Nj,Nj,OB (by lia)]
 show Qs (cZ (f (v.toNat:Int)))=_
 rw[NN v0]
def yl{f:Int->Ql Int}(ha:fa t=Qs r1)(hb:fb t=Qs r2)(h1:r1.d=fp n f)(h2:r2.d=.int v)(v0:0<=v)(v1:v<(n:Int)):∃r,(d2 az fa fb) t=Qs r/\r.d=cZ (f v):=by
 rw[cQ ha hb]
 unfold az
 rw[h1,h2]
 show ∃r,(RP ((aj n).map λp=>cZ (f p)) v).map _=Qs r/\_
 rw[Ct v0 v1]
 exact⟨_,rfl,gQ _ _⟩
def Mr{l:Ql Int}(ha:fa t=Qs r1)(hb:fb t=Qs r2)(h1:r1.d=iL l)(h2:r2.d=.int v)(v0:0<=v)(v1:v<(l.length:Int)):(d2 az fa fb) t=Qs (.cl (.int (aR l v))):=tN l v ha hb v0 v1 h1 h2
section
variable {C:U1}{S:PS}
def sN(h:f t=Qs r)(hr:r.d=oD C M ts wl S):∃q,(d1 (aH C "ties") f) t=Qs q/\q.d=.lst (ts.map pD):=⟨_,ib (j:=0) h hr (by decide +kernel) rfl,gQ _ _⟩
def Jl(h:f t=Qs r)(hr:r.d=oD C M ts wl S):∃q,(d1 (aH C "weights") f) t=Qs q/\q.d=iL wl:=⟨_,ib (j:=1) h hr (by decide +kernel) rfl,gQ _ _⟩
def AH(h:f t=Qs r)(hr:r.d=oD C M ts wl S):(d1 (aH C "parts") f) t=Qs (.cl (.int S.pa)):=by
 have:=ib (x := "parts") (j:=2) h hr (by decide +kernel) rfl
 rw[this]
 rw[show flat (D.int S.pa)=Qt from rfl,NW]
 rfl
def Jm(h:f t=Qs r)(hr:r.d=oD C M ts wl S):∃q,(d1 (aH C "taken") f) t=Qs q/\q.d=iL S.tk:=⟨_,ib (j:=3) h hr (by decide +kernel) rfl,gQ _ _⟩
def AF(h:f t=Qs r)(hr:r.d=oD C M ts wl S):∃q,(d1 (aH C "points") f) t=Qs q/\q.d=fp S.n S.pt:=⟨_,ib (j:=4) h hr (by decide +kernel) rfl,gQ _ _⟩
def vW(h:f t=Qs r)(hr:r.d=oD C M ts wl S):∃q,(d1 (aH C "widths") f) t=Qs q/\q.d=fl S.n S.wd:=⟨_,ib (j:=5) h hr (by decide +kernel) rfl,gQ _ _⟩
def Jn(h:f t=Qs r)(hr:r.d=oD C M ts wl S):∃q,(d1 (aH C "paid") f) t=Qs q/\q.d=fl S.n S.pd:=⟨_,ib (j:=6) h hr (by decide +kernel) rfl,gQ _ _⟩
def AI(h:f t=Qs r)(hr:r.d=oD C M ts wl S):∃q,(d1 (aH C "around") f) t=Qs q/\q.d=fl M S.ar:=⟨_,ib (j:=7) h hr (by decide +kernel) rfl,gQ _ _⟩
def AG(h:f t=Qs r)(hr:r.d=oD C M ts wl S):∃q,(d1 (aH C "piece_of") f) t=Qs q/\q.d=fl M S.po:=⟨_,ib (j:=8) h hr (by decide +kernel) rfl,gQ _ _⟩
def oa{m:Str}{G:Ql D->Qo Ev}{ga:DA}{d:D}(h:f t=Qs r)(hr:r.d=oD C M ts wl S)(hm:aW m Sx=Qn)(hg:ga t=Qs rs)(hG:G (oD C M ts wl S::rs.map Ev.d)=Qs (.cl d))(hf:flat d=Qt):cj C m G f ga t=Qs (.cl d):=by
 unfold cj
 rw[h]
 simp only[MP]
 rw[hr]
 unfold oD
 simp only[hm,and_self,if_true]
 rw[hg]
 simp only[MP]
 refine mR ?_ hf
 rw[M4,hr]
 exact hG
end
def yZ{C:U1}{S:PS}(hw:TJ M ts){i j:Nat}{sl:Sl}(hi:t[0]?=Qs sl)(hsl:sl=.val (oD C M ts wl S)\/sl=.dp (oD C M ts wl S))(hj:t[1]?=Qs (.val (.int a)))(a0:0<=a)(a1:a<(ts.length:Int)) :
  (bK 1 [0] (fE (d2 az (d1 (aH C "ties") (ae 0)) (ae 1))) (cb 0) bN (d2 az (d1 (aH C "piece_of") (ae 1)) (ae 0))) t=Qs (.nw [.int (S.po (aw ts a).1),.int (S.po (aw ts a).2)]):=by
 obtain⟨b0,bb,bM⟩:=hw.lt _ (lN a0 a1)
 obtain⟨r0,e0,d0⟩:∃r,ae 0 t=Qs r/\r.d=oD C M ts wl S:=by
  unfold ae
  rw[hi]
  rcases hsl with z | z<;>subst z
  .exact⟨_,rfl,rfl⟩
  .exact⟨_,rfl,rfl⟩
 have e1:ae 1 t=Qs (.cl (.int a)):=by unfold ae;rw[hj]
 obtain⟨q,eq,dq⟩:=sN e0 d0
 have et:=qF eq e1 dq rfl a0 a1
 obtain⟨b,ec⟩:∃b,fI t [0]=Qs (b,[oD C M ts wl S]):=by
  rcases hsl with z | z
  .subst z;exact⟨Qt,by unfold fI;rw[hi];rfl⟩
  .subst z;exact⟨Qf,by unfold fI;rw[hi];rfl⟩
 have ix:∀(v:Int),0<=v->v<(M:Int)->(d2 az (d1 (aH C "piece_of") (ae 1)) (ae 0)) [.val (.int v),.val (oD C M ts wl S)]=Qs (.cl (.int (S.po v))):=λv v0 v1=>by
  obtain⟨q,e,dq⟩:=AG (f:=ae 1) (t:=[.val (.int v),.val (oD C M ts wl S)]) (r:=.cl (oD C M ts wl S)) (M:=M) (ts:=ts) (wl:=wl) (S:=S) rfl rfl
  exact iV e (rfl:ae 0 _=Qs (.cl (.int v))) dq rfl v0 v1
 unfold bK fE
 rw[et,ec]
 show((if[D.int (aw ts a).1,D.int (aw ts a).2].length<=50000 then(bW (cb 0) bN (d2 az (d1 (aH C "piece_of") (ae 1)) (ae 0)) [D.int (aw ts a).1,D.int (aw ts a).2] [.no,.val (oD C M ts wl S)]).bind _ else Qn))=_
 have k1:=ix (aw ts a).1 b0 (Qy bb bM)
 have k2:=ix (aw ts a).2 (NR (Pa b0 bb)) bM
 have cc:bW (cb 0) bN (d2 az (d1 (aH C "piece_of") (ae 1)) (ae 0)) [D.int (aw ts a).1,D.int (aw ts a).2] [.no,.val (oD C M ts wl S)]=Qs [.int (S.po (aw ts a).1),.int (S.po (aw ts a).2)]:=by
  show((d2 az (d1 (aH C "piece_of") (ae 1)) (ae 0)) [.val (.int (aw ts a).1),.val (oD C M ts wl S)]).bind (λr=>(((d2 az (d1 (aH C "piece_of") (ae 1)) (ae 0)) [.val (.int (aw ts a).2),.val (oD C M ts wl S)]).bind λr2=>Qs [r2.d]).map λxs=>r.d::xs)=_
  rw[k1,k2]
  rfl
 rw[cc]
 show(if(_||RB [D.int (S.po (aw ts a).1),D.int (S.po (aw ts a).2)])=Qt then _ else Qn)=_
 rw[show RB [D.int (S.po (aw ts a).1),D.int (S.po (aw ts a).2)]=Qt from rfl,NW]
 rfl
def KR (ha:fa t=Qs (.cl (.int v)))(hb:fb t=Qs (.cl (.Rx G))):aI (d2 (jZ Qf) fa fb) t=Qs (aJ G v):=by
 unfold aI
 rw[cQ ha hb]
 show Qs (G.contains v)=_
 unfold aJ
 rw[List.contains_eq_mem]
def Dt{C:U1}{S:PS}(hw:TJ M ts) (a0:0<=a)(a1:a<(ts.length:Int)):iY C [oD C M ts wl S,.int a,.Rx G]=Qs (.cl (.int (RD S (aw ts) (aJ G) a))):=by
 let O:Sl:=.val (oD C M ts wl S)
 let t0:Th:=[O,.val (.int a),.val (.Rx G),.no,.no]
 let x:=S.po (aw ts a).1
 let y:=S.po (aw ts a).2
 let t1:Th:=[O,.val (.int a),.val (.Rx G),.val (.int x),.val (.int y)]
 have E1:(dv (j6 2 lE) (bK 1 [0] (fE (d2 az (d1 (aH C "ties") av) aA)) bB bN (d2 az (d1 (aH C "piece_of") aA) av))) t0=Qs (.nx t1):=by
  unfold dv
  rw[yZ (i:=0) (j:=0) hw (t:=t0) rfl (.inl rfl) rfl a0 a1]
  rfl
 have c:=oO (fa:=ae 3) (fb:=ae 4) (t:=t1) (a:=x) (b:=y) rfl rfl
 show(xo C t0).bind dD=_
 unfold RD
 by_cases z:x=y
 .rw[QO z]
  exact RN ((aL E1).trans (uV ((jn c (RC z)).trans rfl)))
 .rw[QU z]
  have E2:(bY (aI (d2 d5 bE bA)) (cx bh) cM) t1=Qs (.nx t1):=gu c (Su z)
  have e3:(bK 1 [2] (fE (ai cY (ag bE jH))) bB (aI (d2 (jZ Qf) av aA)) av) t1=Qs (.nw (([x,y].filter (aJ G)).map D.int)):=by
   have ft:∀v:Int,aI (d2 (jZ Qf) av aA) [.val (.int v),.val (.Rx G)]=Qs (aJ G v):=λv=>KR rfl rfl
   have cc:=xU (e:=D.int) (f:=D.int) (fe:=ae 0) (p:=aJ G) (ext:=[.val (.Rx G)]) [x,y] .no (λv _=>ft v) (λv _ _=>⟨.cl (.int v),rfl,rfl⟩)
   show(if[D.int x,D.int y].length<=50000 then(bW bB (aI (d2 (jZ Qf) av aA)) av ([x,y].map D.int) [.no,.val (.Rx G)]).bind _ else Qn)=_
   rw[cc,QO (by show 2<=50000;decide)]
   simp only[MP,Ss,NW,if_true]
  have e4:=oo (f:=(bK 1 [2] (fE (ai cY (ag bE jH))) bB (aI (d2 (jZ Qf) av aA)) av)) (xs:=[x,y].filter (aJ G)) e3 rfl
  have el:(([x,y].filter (aJ G)).length:Int)=jD (aJ G x)+jD (aJ G y):=by
   rw[Oi,Oi]
   cases aJ G x<;>cases aJ G y<;>rfl
  rw[el]at e4
  exact RN ((aL E1).trans ((aL E2).trans (jd e4)))
structure Sm(M:Nat)(S:PS)(B:Nat):Prop where
 pa:S.pa<(B:Int)
 wd:∀p,0<=p->p<(S.n:Int)->0<=S.wd p/\S.wd p<(B:Int)
 pd:∀p,0<=p->p<(S.n:Int)->0<=S.pd p/\S.pd p<(B:Int)
 ar:∀v,0<=v->v<(M:Int)->0<=S.ar v/\S.ar v<(B:Int)
def qQ{i:Int}(hB:B<=DL.RN)(h0:0<=i)(h1:i<(B:Int)):sm i=Qt:=by
 unfold sm
 exact RC (by lia)
def Bx{C:U1}{S:PS}(hw:TJ M ts)(hl:wl.length=ts.length)(h0:∀x∈wl,0<=x/\x<10 ^ 30) (hB:B<=DL.RN)(hp:0<S.pa)(hS:Sm M S B) (a0:0<=a)(a1:a<(ts.length:Int)):gw C [oD C M ts wl S,.int a]=Qs (.cl (.int (RV S (aw ts) (aR wl) a))):=by
 obtain⟨b0,bb,bM⟩:=hw.lt _ (lN a0 a1)
 let O:Sl:=.val (oD C M ts wl S)
 let x:=(aw ts a).1
 let y:=(aw ts a).2
 let t0:Th:=[O,.val (.int a),.no,.no]
 let t1:Th:=[O,.val (.int a),.val (.int x),.val (.int y)]
 obtain⟨q,eq,dq⟩:=sN (f:=ae 0) (t:=t0) (r:=.cl (oD C M ts wl S)) (M:=M) (ts:=ts) (wl:=wl) (S:=S) rfl rfl
 have et:=qF eq (rfl:ae 1 t0=Qs (.cl (.int a))) dq rfl a0 a1
 have E1:(dv (cK 2 lF) (d2 az (d1 (aH C "ties") av) aA)) t0=Qs (.nx t1):=by
  unfold dv
  rw[et]
  rfl
 have o1:ae 0 t1=Qs (.cl (oD C M ts wl S)):=rfl
 obtain⟨qw,ew,dw⟩:=Jl o1 rfl
 have e1:=Mr ew (rfl:ae 1 t1=Qs (.cl (.int a))) dw rfl a0 (by rw[hl];exact a1)
 have e2:=AH o1 rfl
 obtain⟨qa,ea,da⟩:=AI o1 rfl
 have e3:=iV ea (rfl:ae 2 t1=Qs (.cl (.int x))) da rfl b0 (Qy bb bM)
 have e4:=iV ea (rfl:ae 3 t1=Qs (.cl (.int y))) da rfl (NR (Pa b0 bb)) bM
 have hm:aR wl a∈wl:=by
  unfold aR
  rw[M5,MR (by lia)]
  exact Oh _
 have s1:sm (aR wl a)=Qt:=jL (by have:=h0 _ hm;lia) (by have:=h0 _ hm;lia)
 have s2:sm S.pa=Qt:=qQ hB (NR hp) hS.pa
 have e5:=zg (zg (mf e1 e2 s1 s2) e3) e4
 show(xn C t0).bind dD=_
 exact RN ((aL E1).trans (jd e5))
def Lr{C:U1}{S:PS}(hw:TJ M ts)(hT:ts.length<=1000)(hl:wl.length=ts.length)(h0:∀x∈wl,0<=x/\x<10 ^ 30) (hB:B<=DL.RN)(hp:0<S.pa)(hS:Sm M S B) :lC C [oD C M ts wl S,.Rx G]=Qs (.cl (match dH S (aw ts) (aR wl) (aJ G) ts.length with | some a=>.int a | none=>.Ri)):=by
 let O:Sl:=.val (oD C M ts wl S)
 let t0:Th:=[O,.val (.Rx G),.no]
 let bd:DS:=(bY (ij (aI (d2 qG (cj C "growing_beside" (iY C) av (ag aQ m7)) bh)) (aI (d2 qE (cj C "left_between" (gw C) av eY) bh))) (fj 2) cM)
 have turn:∀a:Int,0<=a->a<(ts.length:Int)->bd [O,.val (.Rx G),.val (.int a)]=if jq S (aw ts) (aR wl) (aJ G) a then Qs (.rt (.cl (.int a))) else Qs (.nx [O,.val (.Rx G),.val (.int a)]):=λa a0 a1=>by
  let t:Th:=[O,.val (.Rx G),.val (.int a)]
  have e1:=oa (d:=.int (RD S (aw ts) (aJ G) a)) (rs:=[.cl (.int a),.cl (.Rx G)]) (ga:=ag aQ m7) (m := "growing_beside") (G:=iY C) (f:=ae 0) (t:=t) (r:=.cl (oD C M ts wl S)) (M:=M) (ts:=ts) (wl:=wl) (S:=S) rfl rfl (by decide +kernel) rfl (Dt hw a0 a1) rfl
  have e2:=oa (d:=.int (RV S (aw ts) (aR wl) a)) (rs:=[.cl (.int a)]) (ga:=ag aQ ao) (m := "left_between") (G:=gw C) (f:=ae 0) (t:=t) (r:=.cl (oD C M ts wl S)) (M:=M) (ts:=ts) (wl:=wl) (S:=S) rfl rfl (by decide +kernel) rfl (Bx hw hl h0 hB hp hS a0 a1) rfl
  have c1:=oF e1 (rfl:dC (.int 0) t=Qs (.cl (.int 0)))
  have c2:aI (d2 qE (cj C "left_between" (gw C) av eY) bh) t=Qs (decide (RV S (aw ts) (aR wl) a<=0)):=by
   unfold aI
   rw[cQ e2 (rfl:dC (.int 0) t=Qs (.cl (.int 0)))]
   rfl
  have c:=DB c1 c2
  show bY _ _ _ t=_
  rw[w6 c]
  rfl
 have loop:∀(L:Ql Int) (s:Sl),(∀a∈L,0<=a/\a<(ts.length:Int))->(match L.find? (jq S (aw ts) (aR wl) (aJ G)) with
   |some a=>bQ m6 bd (L.map D.int) [O,.val (.Rx G),s]=Qs (.rt (.cl (.int a)))
   |none => ∃s',bQ m6 bd (L.map D.int) [O,.val (.Rx G),s]=Qs (.nx [O,.val (.Rx G),s'])):=by
  intro L
  induction L with
  |nil=>exact λs _=>⟨s,rfl⟩
  |cons a L ih =>
   intro s h
   have ra:=h a (MN ..)
   have tn:=turn a ra.1 ra.2
   rw[Oq]
   cases z:jq S (aw ts) (aR wl) (aJ G) a with
   |true =>
    rw[z]at tn
    exact Cv (t:=[O,.val (.Rx G),s]) (t1:=[O,.val (.Rx G),.val (.int a)]) rfl tn
   |false =>
    rw[z]at tn
    have:=ih (.val (.int a)) λb hb=>h b (MM _ hb)
    have st:=j7 (k:=cb 2) (ds:=L.map D.int) (t:=[O,.val (.Rx G),s]) (t1:=[O,.val (.Rx G),.val (.int a)]) rfl tn
    simp only[]
    cases y:L.find? (jq S (aw ts) (aR wl) (aJ G)) with
    |some b=>rw[y]at this;exact st.trans this
    |none=>rw[y]at this;obtain⟨s',e⟩:=this;exact⟨s',st.trans e⟩
 have lp:=loop (aj ts.length) .no λa ha=>dm ha
 obtain⟨q,eq,dq⟩:=sN (f:=ae 0) (t:=t0) (r:=.cl (oD C M ts wl S)) (M:=M) (ts:=ts) (wl:=wl) (S:=S) rfl rfl
 have el:(ai bV (ag (d1 (aH C "ties") av) ao)) t0=Qs (.cl (.int (ts.length:Int))):=by
  rw[gX eq]
  unfold bV
  dsimp only
  rw[dq]
  simp
 have er:=Gh (k0:=cb 2) (b:=bd) (t:=t0) el rfl (by lia)
 show(aE (jy m6 (ai bV (ag (d1 (aH C "ties") av) ao)) bd) (cx gA) t0).bind dD=_
 unfold dH
 cases z:(aj ts.length).find? (jq S (aw ts) (aR wl) (aJ G)) with
 |some a=>rw[z]at lp;exact RN (uV (er.trans lp))
 |none=>rw[z]at lp;obtain⟨s',e⟩:=lp;exact RN ((aL (er.trans e)).trans rfl)
end KX
set_option maxHeartbeats 4000000
namespace KX
open PySem.Spec L2 DL
def zC (hf:f t=Qs (.cl (.int (n:Int))))(hn:n<=50000):hZ f t=Qs (Qt,(aj n).map D.int):=by
 unfold hZ
 rw[hf]
 simp only[MP,Ev.d]
 rw[QO (by unfold c7;exact RC (by lia)),N7]
 congr 2
 unfold cU aj
 simp
def LP{cap:Ql Nat}{g:Int->Int}{b:Bool}{c:Ql D}(hf:f t=Qs (.cl (.int (n:Int))))(hn:n<=50000)(hc:fI t cap=Qs (b,c))(he:∀x∈aj n,fe (.val (.int x)::c.map Sl.val)=Qs (.cl (.int (g x)))) :
  (bK 1 cap (hZ f) bB bN fe) t=Qs (.nw (((aj n).map g).map D.int)):=by
 unfold bK
 have e2:bW bB bN fe ((aj n).map D.int) (Sl.no::c.map Sl.val)=Qs (((aj n).map g).map D.int):=xS (λ_ _=>rfl) _ _ he
 rw[zC hf hn,hc]
 simp only[MP]
 rw[QO (by rw[MY,Jx];exact hn)]
 show(bW bB bN fe ((aj n).map D.int) (Sl.no::c.map Sl.val)).bind _=_
 rw[e2]
 simp only[MP,Ss,NW,if_true]
end KX
set_option maxHeartbeats 1000000
namespace KX
open PySem.Spec L2 DL
def sR(n:Nat):aj n=(ON 0 n).map λ(i:Nat)=>(i:Int):=by unfold aj;rw[List.range_eq_range']
def xT{b:Int->Int}{p:Int->Bool}{f:Int->Int}{ft:DT}{fe:DE}{c:Ql D}:∀(k j:Nat) (s s':Sl),(∀i:Nat,i<j+k->ft (.val (.int (i:Int))::.val (.int (b i))::c.map Sl.val)=Qs (p i)/\(p i=Qt->fe (.val (.int (i:Int))::.val (.int (b i))::c.map Sl.val)=Qs (.cl (.int (f i))))) ->
  bW (cK 2 gy) ft fe (cP j (((ON j k).map λ(i:Nat)=>(b (i:Int))).map D.int)) (s::s'::c.map Sl.val)=Qs (((((ON j k).map λ(i:Nat)=>(i:Int)).filter p).map f).map D.int)
 |0,j,s,s',_=>rfl
 |k+1,j,s,s',h=>by
  obtain⟨h1,h2⟩:=h j (by lia)
  have ih:=xT k (j+1) (.val (.int (j:Int))) (.val (.int (b j))) λi hi=>h i (by lia)
  rw[List.range'_succ,M4,M4,M4]
  unfold cP bW
  have k1:cK 2 gy (.tup [.int (j:Int),.int (b j)]) (s::s'::c.map Sl.val)=Qs (.val (.int (j:Int))::.val (.int (b j))::c.map Sl.val):=rfl
  rw[k1]
  simp only[MP]
  rw[h1]
  simp only[MP]
  rw[Oi]
  cases z:p (j:Int) with
  |true =>
   simp only[if_true]
   rw[h2 z,ih]
   rfl
  |false =>
   simp only[Nq,if_false]
   exact ih
def Fd{C:U1}{S:PS}(hw:TJ M ts)(hT:ts.length<=1000)(hl:wl.length=ts.length)(h0:∀x∈wl,0<=x/\x<10 ^ 30) (hB:B<=DL.RN)(hp:0<S.pa)(hS:Sm M S B) :mZ C [oD C M ts wl S,.Rx G]=Qs (.nw ((gk S (aw ts) (aR wl) (aJ G) ts.length).map D.int)):=by
 let O:Sl:=.val (oD C M ts wl S)
 let t0:Th:=[O,.val (.Rx G),.no]
 obtain⟨q,eq,dq⟩:=sN (f:=ae 0) (t:=t0) (r:=.cl (oD C M ts wl S)) (M:=M) (ts:=ts) (wl:=wl) (S:=S) rfl rfl
 have el:(ai bV (ag (d1 (aH C "ties") av) ao)) t0=Qs (.cl (.int (ts.length:Int))):=by
  rw[gX eq]
  unfold bV
  dsimp only
  rw[dq]
  simp
 let bs:Int->Int:=RD S (aw ts) (aJ G)
 have e1:=LP (cap:=[1,0]) (t:=t0) (b:=Qt) (c:=[.Rx G,oD C M ts wl S]) (fe:=cj C "growing_beside" (iY C) aQ lH) (g:=bs) el (by lia) rfl λx hx=>by
  have rx:=dm hx
  exact oa (d:=.int (bs x)) (rs:=[.cl (.int x),.cl (.Rx G)]) (ga:=ag av m7) (m := "growing_beside") (G:=iY C) (f:=ae 2) (t:=[.val (.int x),.val (.Rx G),O]) (r:=.cl (oD C M ts wl S)) (M:=M) (ts:=ts) (wl:=wl) (S:=S) rfl rfl (by decide +kernel) rfl (Dt hw rx.1 rx.2) rfl
 have E1:=ik (i:=2) e1 (by simp[t0])
 let t1:Th:=[O,.val (.Rx G),.own (((aj ts.length).map bs).map D.int)]
 have e2:(bK 2 [0] (jt aQ) (cK 2 gy) (aI (d2 qG aA bh)) (d2 qV (cj C "left_between" (gw C) aQ eZ) aA)) t1=Qs (.nw ((gk S (aw ts) (aR wl) (aJ G) ts.length).map D.int)):=by
  have cc:=xT (b:=bs) (p:=λa=>decide (0<bs a)) (f:=λa=>(RV S (aw ts) (aR wl) a).fdiv (bs a)) (ft:=(aI (d2 qG aA bh))) (fe:=(d2 qV (cj C "left_between" (gw C) aQ eZ) aA)) (c:=[oD C M ts wl S]) ts.length 0 .no .no λi hi=>by
   let t:Th:=[.val (.int (i:Int)),.val (.int (bs i)),O]
   refine⟨oF (t:=t) (a:=bs i) (b:=0) rfl rfl,λz=>?_⟩
   have el:=oa (d:=.int (RV S (aw ts) (aR wl) (i:Int))) (rs:=[.cl (.int (i:Int))]) (ga:=ag av ao) (m := "left_between") (G:=gw C) (f:=ae 2) (t:=t) (r:=.cl (oD C M ts wl S)) (M:=M) (ts:=ts) (wl:=wl) (S:=S) rfl rfl (by decide +kernel) rfl (Bx hw hl h0 hB hp hS (a:=(i:Int)) (by lia) (by lia)) rfl
   have bb:=mV S (aw ts) (aJ G) i
   have z:=of_decide_eq_true z
   have z:0<bs i:=z
   have bb:0<=bs i/\bs i<=2:=bb
   exact oS el (rfl:ae 1 t=Qs (.cl (.int (bs i)))) (by lia) (jL (by lia) (by lia))
  have em:((aj ts.length).map bs).map D.int=((ON 0 ts.length).map λ(i:Nat)=>(bs (i:Int))).map D.int:=by rw[sR,Nk,Nk,Nk];rfl
  have es:jt aQ t1=Qs (Qf,cP 0 (((aj ts.length).map bs).map D.int)):=rfl
  unfold bK
  rw[es,em]
  show(if(cP 0 (((ON 0 ts.length).map λ(i:Nat)=>(bs (i:Int))).map D.int)).length<=50000 then(bW (cK 2 gy) _ _ (cP 0 (((ON 0 ts.length).map λ(i:Nat)=>(bs (i:Int))).map D.int)) [.no,.no,O]).bind _ else Qn)=_
  rw[QO (by rw[kY];simp;lia)]
  have Zp:bW (cK 2 gy) (aI (d2 qG aA bh)) (d2 qV (cj C "left_between" (gw C) aQ eZ) aA) (cP 0 (((ON 0 ts.length).map λ(i:Nat)=>(bs (i:Int))).map D.int)) [.no,.no,O]=Qs ((gk S (aw ts) (aR wl) (aJ G) ts.length).map D.int):=by
   unfold gk
   rw[sR]
   exact cc
  rw[Zp]
  simp only[MP,Ss,NW,if_true]
 show(xl C t0).bind dD=_
 exact RN ((aL E1).trans (jd e2))
def xx{C:U1}{x:Str}{y:D}(h:t[0]?=Qs (.dp (.obj C ns ds)))(he:fe t=Qs r)(hy:jw r=Qs y)(hj:aW x ns=Qs j)(hn:ns.length<900):eN 0 C x fe t=Qs (.nx (t.set 0 (.dp (.obj C ns (ds.set j y))))):=by
 unfold eN
 rw[he]
 show kO t 0 C x r=_
 unfold kO
 rw[h,hy]
 show(if C=C/\ns.length<900 then Qs (Out.nx (t.set 0 (.dp (DL.Ul C ns ds x y)))) else Qn)=_
 rw[QO ⟨rfl,hn⟩]
 unfold DL.Ul
 rw[hj]
def jv{C:U1}{x:Str}{y:D}(h:t[0]?=Qs (.dp (.obj C ns ds)))(he:fe t=Qs r)(hy:jw r=Qs y)(hj:aW x ns=Qn)(hn:ns.length<900):eN 0 C x fe t=Qs (.nx (t.set 0 (.dp (.obj C (ns++[x]) (ds++[y]))))):=by
 unfold eN
 rw[he]
 show kO t 0 C x r=_
 unfold kO
 rw[h,hy]
 show(if C=C/\ns.length<900 then Qs (Out.nx (t.set 0 (.dp (DL.Ul C ns ds x y)))) else Qn)=_
 rw[QO ⟨rfl,hn⟩]
 unfold DL.Ul
 rw[hj]
def wz{C:U1}{x:Str}{es Sk:Ql D}{k:Ql D->Qo (Ql D)}(h:t[0]?=Qs (.dp (.obj C ns ds)))(hj:aW x ns=Qs j)(hd:ds[j]?=Qs (.lst es))(f1:RB es=Qt)(hk:k es=Qs Sk)(f2:RB Sk=Qt):gL t 0 C x k=Qs (.nx (t.set 0 (.dp (.obj C ns (ds.set j (.lst Sk)))))):=by
 unfold gL
 rw[h]
 simp only[if_true,hj,MP,hd,f1,hk,f2]
def K8{C:U1}{S:PS}(hM:M<=1000)(hn:S.n<=1000)(hB:B<=DL.RN)(hS:Sm M S B):qm C [oD C M ts wl S]=Qs (oD C M ts wl (R7 S)):=by
 have dbl:∀{t:Th}{f:DE}{r:Ev}{n:Nat}{g:Int->Int},f t=Qs r->r.d=fl n g->n<=1000->(∀p,0<=p->p<(n:Int)->0<=g p/\g p<(B:Int))->(bK 1 [] (cF f) bB bN (d2 qM gB av)) t=Qs (.nw (((aj n).map λp=>2*g p).map D.int)):=λ{t f r n g} hf hr hn hg=>by
  have:=xY (cap:=[]) (b:=Qt) (c:=[]) (fe:=(d2 qM gB av)) (g:=λx=>2*x) hf hr (by rw[MY,fg];lia) rfl λx hx=>by
   obtain⟨p,hp,rfl⟩:=Ny.mp hx
   have rp:=dm hp
   have:=hg p rp.1 rp.2
   exact mf (fa:=dC (.int 2)) (fb:=ae 0) (t:=[.val (.int (g p))]) (a:=2) (b:=g p) rfl rfl (jL (by decide) (by decide)) (qQ hB this.1 this.2)
  rw[Nk (f:=g)]at this
  exact this
 let t0:Th:=[.dp (oD C M ts wl S)]
 let S1:PS:={ S with pa:=S.pa*2 }
 let S2:PS:={ S1 with wd:=λp=>2*S.wd p }
 let S3:PS:={ S2 with pd:=λp=>2*S.pd p }
 have E1:o7 0 C "parts" gB t0=Qs (.nx [.dp (oD C M ts wl S1)]):=by
  unfold o7
  show ox t0 0 C "parts" (.cl (.int 2))=_
  unfold ox
  show(if C=C/\Sx.length<900/\(2:Int).natAbs<=1000 then _ else Qn)=_
  rw[QO ⟨rfl,by decide,by decide⟩]
  have:aW "parts" Sx=Qs 2:=by decide +kernel
  rw[this]
  show Qs (Out.nx (t0.set 0 (.dp (DL.Ul C Sx _ "parts" (.int (S.pa*2))))))=_
  unfold DL.Ul
  rw[this]
  rfl
 obtain⟨q2,a2,b2⟩:=vW (f:=ae 0) (t:=[.dp (oD C M ts wl S1)]) (r:=.tm (oD C M ts wl S1)) (C:=C) (M:=M) (ts:=ts) (wl:=wl) (S:=S1) rfl rfl
 have E2:=xx (t:=[.dp (oD C M ts wl S1)]) (C:=C) (x := "widths") (j:=5) (y:=fl S.n λp=>2*S.wd p) rfl (dbl a2 b2 hn hS.wd) (by show(if RB _ then Qs _ else Qn)=_;rw[Ss];rfl) (by decide +kernel) (by decide)
 obtain⟨q3,a3,b3⟩:=Jn (f:=ae 0) (t:=[.dp (oD C M ts wl S2)]) (r:=.tm (oD C M ts wl S2)) (C:=C) (M:=M) (ts:=ts) (wl:=wl) (S:=S2) rfl rfl
 have E3:=xx (t:=[.dp (oD C M ts wl S2)]) (C:=C) (x := "paid") (j:=6) (y:=fl S.n λp=>2*S.pd p) rfl (dbl a3 b3 hn hS.pd) (by show(if RB _ then Qs _ else Qn)=_;rw[Ss];rfl) (by decide +kernel) (by decide)
 obtain⟨q4,a4,b4⟩:=AI (f:=ae 0) (t:=[.dp (oD C M ts wl S3)]) (r:=.tm (oD C M ts wl S3)) (C:=C) (M:=M) (ts:=ts) (wl:=wl) (S:=S3) rfl rfl
 have E4:=xx (t:=[.dp (oD C M ts wl S3)]) (C:=C) (x := "around") (j:=7) (y:=fl M λp=>2*S.ar p) rfl (dbl a4 b4 hM hS.ar) (by show(if RB _ then Qs _ else Qn)=_;rw[Ss];rfl) (by decide +kernel) (by decide)
 show(tX C t0).bind kE=_
 have:=(aL E1).trans ((aL E2).trans ((aL E3).trans E4))
 rw[show tX C t0=_ from this]
 rfl
def xB{f:Int->Int}(p0:0<=p)(p1:p<(n:Int)):((aj n).map f).set p.toNat v=(aj n).map λq=>if q=p then v else f q:=by
 apply OL
 intro i
 rw[QT]
 unfold aj
 simp only[Nj,MY,Pl]
 by_cases h:i<n
 .rw[OB h]
  by_cases z:p.toNat=i
  .rw[QO z,QO (by lia)]
   simp only[Oe]
   rw[QO (by lia)]
  .rw[QU z]
   simp only[Oe]
   rw[QU (by lia)]
 .rw[Pp (by simp;lia)]
  split
  .rw[QU (by lia)];rfl
  .rfl
def xC{f:Int->Int}(p0:0<=p)(p1:p<(n:Int)):Sz ((aj n).map f).length p=Qs p.toNat/\((aj n).map f)[p.toNat]?=Qs (f p):=by
 constructor
 .rw[MY,fg]
  have:=wO n p.toNat (by lia)
  rw[NN p0]at this
  exact this
 .unfold aj
  rw[Nj,Nj,OB (by lia)]
  show Qs (f (p.toNat:Int))=_
  rw[NN p0]
def wU(l:Ql Int):eD (l.map D.int)=Qs l:=by
 induction l with
 |nil=>rfl
 |cons x l ih=>simp only[M4,eD,ih];rfl
def Dz{C:U1}{x:Str}{f:Int->Int}{fk:DE}(h:t[0]?=Qs (.dp (.obj C ns ds)))(hj:aW x ns=Qs j)(hd:ds[j]?=Qs (fl n f))(hk:fk t=Qs (.cl (.int p)))(he:fe t=Qs (.cl (.int v)))(p0:0<=p)(p1:p<(n:Int)) :
  iQ (λi j=>i+j) 0 C x fk fe t=Qs (.nx (t.set 0 (.dp (.obj C ns (ds.set j (fl n λq=>f q+if q=p then v else 0)))))):=by
 unfold iQ
 rw[hk,he]
 refine wz h hj hd (Ss _) ?_ (Ss ((aj n).map λq=>f q+if q=p then v else 0))
 show(Sz (((aj n).map f).map D.int).length p).bind _=_
 obtain⟨a,b⟩:=xC (f:=f) p0 p1
 rw[MY,a]
 simp only[MP]
 rw[Nj,b]
 show Qs ((((aj n).map f).map D.int).set p.toNat (.int (f p+v)))=_
 rw[<-Q5,xB p0 p1]
 congr 2
 refine Nw λq _=>?_
 by_cases z:q=p
 .rw[QO z,QO z,z]
 .rw[QU z,QU z,Si]
def Dy{M:Nat}{m:Int}:∀(zs:Ql Int) (f:Int->Int),zs.Nodup->(∀z∈zs,0<=z/\z<(M:Int))->fZ m zs ((aj M).map f)=Qs ((aj M).map λv=>f v+if v∈zs then m else 0)
 |[],f,_,_=>by
  show Qs _=_
  congr 1
  refine Nw λq _=>?_
  simp
 |z::zs,f,nd,h=>by
  obtain⟨z0,z1⟩:=h z (MN ..)
  have Vl:=M3.mp nd
  obtain⟨a,b⟩:=xC (f:=f) z0 z1
  unfold fZ
  rw[a]
  simp only[MP]
  rw[b]
  simp only[MP]
  rw[xB z0 z1,Dy zs _ Vl.2 λy hy=>h y (MM _ hy)]
  congr 1
  refine Nw λq _=>?_
  by_cases y:q=z
  .subst y
   rw[QO rfl,QU Vl.1,QO (MN ..),Si]
  .rw[QU y]
   by_cases k:q∈zs
   .rw[QO k,QO (MM _ k)]
   .rw[QU k,QU λw=>(MQ.mp w).elim y k]
def Lb{C:U1}{rows es xs:Ql D}{s1 s4:Sl}{n:Int}{f1 f2:Str}{j1 j2:Nat}{zs ws us:Ql Int}(i1:aW f1 ns=Qs j1)(i2:aW f2 ns=Qs j2)(h1:ds[j1]?=Qs (.lst rows))(h2:ds[j2]?=Qs (.lst es))(ha:RP rows n=Qs (.lst xs))(hz:eD xs=Qs zs)(hw:eD es=Qs ws)(hj:j1≠j2)(hu:fZ m zs ws=Qs us) :
  ∃TY,(k8 0 3 4 2 C f1 f2) [.dp (.obj C ns ds),s1,.val (.int m),.val (.int n),s4]=Qs (.nx [.dp (.obj C ns (ds.set j2 (.lst (us.map D.int)))),s1,.val (.int m),.val (.int n),TY]):=by
 unfold k8
 simp only[tZ,oH,mB,List.getElem?_cons_zero,Ow,i1,i2,MP,h1,h2,ha,hz,hw,hu]
 rw[QO ⟨trivial,by decide,by decide,by decide,by simp⟩,QO hj]
 cases z:zs.getLast? with
 |none=>exact⟨s4,rfl⟩
 |some u=>exact⟨.val (.int u),rfl⟩
def La{C:U1}{S:PS}(hO:Ok M e w nt S) (nG:G.Nodup)(hG:∀p∈G,∃v,0<=v/\v<(M:Int)/\S.po v=p){st:Int}:qo C [oD C M ts wl S,.Rx G,.int st]=Qs (oD C M ts wl (TR S (aJ G) st)):=by
 let T (P:Ql Int) (s3 s4:Sl):Th:=[.dp (oD C M ts wl (TR S (aJ P) st)),.val (.Rx G),.val (.int st),s3,s4]
 let bd:DS:=(aE (iQ (λi j=>i+j) 0 C "widths" bE aQ) (aE (iQ (λi j=>i+j) 0 C "paid" bE aQ) (k8 0 3 4 2 C "points" "around")))
 have turn:∀(P:Ql Int) (p:Int) (s4:Sl),p∉P->(∃v,0<=v/\v<(M:Int)/\S.po v=p)->∃TY,bd (T P (.val (.int p)) s4)=Qs (.nx (T (P++[p]) (.val (.int p)) TY)):=by
  rintro P p s4 hp ⟨v,v0,v1,rfl⟩
  have pr:=hO.T1 v v0 v1
  let p:=S.po v
  let Sa:=TR S (aJ P) st
  let S1:PS:={ Sa with wd:=λq=>Sa.wd q+if q=p then st else 0 }
  let S2:PS:={ S1 with pd:=λq=>Sa.pd q+if q=p then st else 0 }
  have E1:=Dz (C:=C) (t:=T P (.val (.int p)) s4) (x := "widths") (j:=5) (n:=S.n) (f:=Sa.wd) (p:=p) (v:=st) (fk:=ae 3) (fe:=ae 2) rfl (by decide +kernel) rfl rfl rfl pr.1 pr.2
  have E2:=Dz (C:=C) (t:=[.dp (oD C M ts wl S1),.val (.Rx G),.val (.int st),.val (.int p),s4]) (x := "paid") (j:=6) (n:=S.n) (f:=Sa.pd) (p:=p) (v:=st) (fk:=ae 3) (fe:=ae 2) rfl (by decide +kernel) rfl rfl rfl pr.1 pr.2
  have au:=Dy (M:=M) (m:=st) (S.pt p) Sa.ar (hO.nd pr.1 pr.2) (hO.inr p pr.1 pr.2)
  have i1:aW "points" Sx=Qs 4:=by decide +kernel
  have i2:aW "around" Sx=Qs 7:=by decide +kernel
  have fin:oD C M ts wl (TR S (aJ (P++[p])) st)=.obj C Sx [.lst (ts.map pD),iL wl,.int S.pa,iL S.tk,fp S.n S.pt,fl S.n S2.wd,fl S.n S2.pd,.lst (((aj M).map λv=>Sa.ar v+if v∈S.pt p then st else 0).map D.int),fl M S.po]:=by
   have k:∀q,(if aJ (P++[p]) q then st else 0)=(if aJ P q then st else 0)+if q=p then st else 0:=λq=>by
    unfold aJ
    by_cases z:q=p
    .subst z
     rw[RC (by simp:S.po v∈P++[S.po v]),Su hp]
     simp
    .by_cases y:q∈P
     .rw[RC (by simp[y]:q∈P++[p]),RC y];simp[z]
     .rw[Su (by simp[y,z] : ¬ q∈P++[p]),Su y];simp[z]
   have e1:(TR S (aJ (P++[p])) st).wd=S2.wd:=by
    funext q
    show S.wd q+(if aJ (P++[p]) q then st else 0)=S.wd q+(if aJ P q then st else 0)+if q=p then st else 0
    rw[k,QQ]
   have e2:(TR S (aJ (P++[p])) st).pd=S2.pd:=by
    funext q
    show S.pd q+(if aJ (P++[p]) q then st else 0)=S.pd q+(if aJ P q then st else 0)+if q=p then st else 0
    rw[k,QQ]
   have e3:(aj M).map (TR S (aJ (P++[p])) st).ar=(aj M).map λv=>Sa.ar v+if v∈S.pt p then st else 0:=by
    refine Nw λu hu=>?_
    have ru:=dm hu
    show S.ar u+(if aJ (P++[p]) (S.po u) then st else 0)=S.ar u+(if aJ P (S.po u) then st else 0)+if u∈S.pt p then st else 0
    rw[k,QQ]
    have:(S.po u=p)↔u∈S.pt p:=by
     rw[hO.cur v v0 v1]
     exact⟨λz=>⟨ru.1,ru.2,z⟩,λz=>z.2.2⟩
    by_cases z:S.po u=p
    .rw[QO z,QO (this.mp z)]
    .rw[QU z,QU λk=>z (this.mpr k)]
   unfold oD fl
   rw[e1,e2,e3]
   rfl
  have E3:∃TY,(k8 0 3 4 2 C "points" "around") [.dp (oD C M ts wl S2),.val (.Rx G),.val (.int st),.val (.int p),s4]=Qs (.nx (T (P++[p]) (.val (.int p)) TY)):=by
   obtain⟨TY,q⟩:=Lb (C:=C) (ns:=Sx) (s1:=.val (.Rx G)) (s4:=s4) (m:=st) (n:=p) (f1 := "points") (f2 := "around") (ds:=[.lst (ts.map pD),iL wl,.int S.pa,iL S.tk,fp S.n S.pt,fl S.n S2.wd,fl S.n S2.pd,fl M Sa.ar,fl M S.po]) (j1:=4) (j2:=7) i1 i2 rfl rfl (Ct pr.1 pr.2) (wU _) (wU _) (by decide) au
   refine⟨TY,q.trans ?_⟩
   simp only[T,fin]
   rfl
  obtain⟨TY,E3⟩:=E3
  exact⟨TY,(aL E1).trans ((aL E2).trans E3)⟩
 have loop:∀(L P:Ql Int) (s3 s4:Sl),(P++L).Nodup->(∀p∈L,∃v,0<=v/\v<(M:Int)/\S.po v=p)->∃Yr TY,bQ iy bd (L.map D.int) (T P s3 s4)=Qs (.nx (T (P++L) Yr TY)):=by
  intro L
  induction L with
  |nil=>exact λP s3 s4 _ _=>⟨s3,s4,by rw[Nt];rfl⟩
  |cons p L ih =>
   intro P s3 s4 nd h
   have hp:p∉P:=λz=>(MW.mp nd).2.2 p z p (MN ..) rfl
   obtain⟨TY,e⟩:=turn P p s4 hp (h p (MN ..))
   obtain⟨a,b,e2⟩:=ih (P++[p]) (.val (.int p)) TY (by simpa using nd) λq hq=>h q (MM _ hq)
   have ea:P++p::L=(P++[p])++L:=by simp
   exact⟨a,b,by rw[ea];exact(j7 (t1:=T P (.val (.int p)) s4) rfl e).trans e2⟩
 obtain⟨Yr,TY,e⟩:=loop G [] .no .no (by simpa using nG) hG
 have e0:oD C M ts wl (TR S (aJ []) st)=oD C M ts wl S:=by
  have:TR S (aJ []) st=S:=by
   unfold TR aJ
   simp
  rw[this]
 show(oZ iy aA bd [.dp (oD C M ts wl S),.val (.Rx G),.val (.int st),.no,.no]).bind kE=_
 have es:oZ iy aA bd [.dp (oD C M ts wl S),.val (.Rx G),.val (.int st),.no,.no]=Qs (.nx (T G Yr TY)):=by
  have q:T [] .no .no=[.dp (oD C M ts wl S),.val (.Rx G),.val (.int st),.no,.no]:=by simp only[T,e0]
  rw[Pc,q]at e
  exact e
 rw[es]
 rfl
end KX
set_option maxHeartbeats 4000000
namespace KX
open PySem.Spec L2 DL
def dV(P:Ql Int)(V:Int->Int):D:=.RX (P.map Sum.inl) (P.map λp=>.int (V p))
def Fo(v:Int->Int)(p q:Int):Prop:=v q<v p\/(v q=v p/\p<=q)
end KX
set_option maxHeartbeats 1000000
namespace KX
open PySem.Spec L2 DL
def Cy(a b:Nat)(h:0<b):(a:Int).fmod (b:Int)=((a % b:Nat):Int):=by
 rw[Int.fmod_eq_emod_of_nonneg _ (by lia)];rfl
def pe:DT:=(aI (d2 dU aA bh))
def C8:∀(n a b:Nat),b<n->eF pe mQ n [.val (.int (a:Int)),.val (.int (b:Int))]=Qs (.nx [.val (.int (NU a b:Int)),.val (.int 0)])
 |0,a,b,h=>by lia
 |n+1,a,b,h=>by
  have ec:pe [.val (.int (a:Int)),.val (.int (b:Int))]=Qs (!decide ((b:Int)=0)):=by
   simp[pe,aI,d2,ae,dC,dU,aS,cg,Ev.d,aP,AA]
  unfold eF
  rw[ec]
  by_cases hb:b=0
  .subst hb
   simp
  .have Vw : ¬ ((b:Int)=0):=by lia
   rw[Su Vw]
   have eb:mQ [.val (.int (a:Int)),.val (.int (b:Int))]=Qs (.nx [.val (.int (b:Int)),.val (.int ((a % b:Nat):Int))]):=by
    unfold mQ iP
    have:(ag (ae 1) (ag (d2 qR (ae 0) (ae 1)) ao)) [.val (.int (a:Int)),.val (.int (b:Int))]=Qs [.cl (.int (b:Int)),.cl (.int ((a:Int).fmod (b:Int)))]:=by
     simp[ag,ao,d2,ae,kI,jA,Ev.d,hb]
    rw[this,Cy a b (by lia)]
    rfl
   simp only[MP,Bool.not_false,if_true,eb]
   rw[C8 n b (a % b) (by have:=Nat.mod_lt a (show 0<b by lia);lia),QA b, <-S4,QA b]
def LR(a b:Nat):qi [.int (a:Int),.int (b:Int)]=Qs (.cl (.int (NU a b:Int))):=by
 have e:=C8 (((b:Int).natAbs)+1) a b (by lia)
 show((aE (iO (kW 1) pe mQ) (cx (ai j4 (ag (ae 0) ao)))) [.val (.int (a:Int)),.val (.int (b:Int))]).bind dD=_
 have e':(iO (kW 1) pe mQ) [.val (.int (a:Int)),.val (.int (b:Int))]=Qs (.nx [.val (.int (NU a b:Int)),.val (.int 0)]):=e
 rw[aL e']
 have h : ¬ ((NU a b:Int)<0):=by lia
 simp[cx,ai,ag,ao,ae,j4,Ev.d,dD,h]
def CG(a b:Nat):(a:Int).fdiv (b:Int)=((a / b:Nat):Int):=by
 rw[O0 _ (by lia)];rfl
def zo{a:Nat}(h:a<DL.RN):sm (a:Int)=Qt:=by
 unfold sm
 rw[SI]
 exact h
def Lg(s m:Nat)(h0:0<m)(h:m<DL.RN):ip [.int (s:Int),.int (m:Int)]=Qs (.cl (.tup [.int ((s / NU s m:Nat):Int),.int ((m / NU s m:Nat):Int)])):=by
 have g0:0<NU s m:=OK _ h0
 have g1:NU s m<=m:=Qg _ h0
 have gs:sm (NU s m:Int)=Qt:=zo (ND g1 h)
 let t0:Th:=[.val (.int (s:Int)),.val (.int (m:Int)),.no]
 let t1:Th:=[.val (.int (s:Int)),.val (.int (m:Int)),.val (.int (NU s m:Int))]
 have a1:(ai (aO qi) lH) t0=Qs (.cl (.int (NU s m:Int))):=(eG (rfl:ae 0 t0=Qs (.cl (.int (s:Int)))) (rfl:ae 1 t0=Qs (.cl (.int (m:Int))))).trans (mR (LR s m) rfl)
 have E1:=iW (i:=2) a1 (by simp[t0])
 have E2:(bY (aI (d2 qL aA bh)) (aM 2 (d1 jk aQ)) cM) t1=Qs (.nx t1):=gu (oh (fa:=ae 1) (fb:=dC (.int 0)) (t:=t1) (a:=(m:Int)) (b:=0) rfl rfl) (Su (by lia))
 have d1:=oS (fa:=ae 0) (fb:=ae 2) (t:=t1) (a:=(s:Int)) (b:=(NU s m:Int)) rfl rfl (by lia) gs
 have Vc:=oS (fa:=ae 1) (fb:=ae 2) (t:=t1) (a:=(m:Int)) (b:=(NU s m:Int)) rfl rfl (by lia) gs
 rw[CG]at d1 Vc
 have a3:=(eG (k:=cY) d1 Vc).trans rfl
 show(xk t0).bind dD=_
 exact RN ((aL E1).trans ((aL E2).trans (jd a3)))
def sP(n:Nat):aj (n+1)=aj n++[(n:Int)]:=Jw n
def CB(n:Nat)(f:Int->Int)(v:Int):((aj n).map f++[v])=(aj (n+1)).map λp=>if p=(n:Int) then v else f p:=by
 rw[sP,Od]
 congr 1
 .refine Nw λp hp=>?_
  have:=dm hp
  rw[QU (by lia)]
 .simp
def Lk(n:Nat)(f:Int->Ql Int)(v:Ql Int):((aj n).map λp=>cZ (f p))++[cZ v]=(aj (n+1)).map λp=>cZ (if p=(n:Int) then v else f p):=by
 rw[sP,Od]
 congr 1
 .refine Nw λp hp=>?_
  have:=dm hp
  rw[QU (by lia)]
 .simp
def yo{C:U1}{x:Str}{l:Ql Int}(h:t[0]?=Qs (.dp (.obj C ns ds)))(hj:aW x ns=Qs j)(hd:ds[j]?=Qs (iL l))(he:fe t=Qs (.cl (.int v)))(hl:l.length<100000):lh 0 C x fe t=Qs (.nx (t.set 0 (.dp (.obj C ns (ds.set j (iL (l++[v]))))))):=by
 unfold lh
 rw[he]
 refine wz h hj hd (Ss _) ?_ (Ss (l++[v]))
 unfold tK
 show(if(flat (D.int v)&&decide ((l.map D.int).length<100000))=Qt then Qs (l.map D.int++[D.int v]) else Qn)=_
 rw[MY,RC hl,QO (by rfl),Od]
 rfl
def Kc{g:Int->Ql Int}(h:f t=Qs r)(hr:r.d=fp n g):(ai bV (ag f ao)) t=Qs (.cl (.int (n:Int))):=by
 rw[gX h]
 unfold bV
 dsimp only
 rw[hr]
 show Qs (Ev.cl (.int (((aj n).map λp=>cZ (g p)).length:Int)))=_
 rw[MY,fg]
def z8{S:PS}(h:Ok M e w nt S) (p0:0<=p)(p1:p<(S.n:Int)):(S.pt p).length<=M:=by
 have:=uQ (h.nd p0 p1) (C:=aj M) λu hu=>by have:=h.inr p p0 p1 u hu;exact ml this.1 this.2
 rwa [fg]at this
def Lw(l:Ql Int):UW (l.map D.int) (l.map D.int)=Qt:=by
 have:=Lx (.lst (l.map D.int))
 exact this
def GW{C:U1}{S:PS}(hw:TJ M ts)(hM:M<=30)(hn:S.n<=1000)(hO:Ok M (aw ts) w ts.length S)(hk:S.tk.length<=1000) (a0:0<=a)(a1:a<(ts.length:Int)):ql C [oD C M ts wl S,.int a]=Qs (oD C M ts wl (Sy S (aw ts) a)):=by
 obtain⟨b0,bb,bM⟩:=hw.lt _ (lN a0 a1)
 let x:=S.po (aw ts a).1
 let y:=S.po (aw ts a).2
 have px:=hO.T1 (aw ts a).1 b0 (Qy bb bM)
 have py:=hO.T1 (aw ts a).2 (NR (Pa b0 bb)) bM
 let J:=cB S (aw ts) a
 let A:Sl:=.val (.int a)
 let X:Sl:=.val (.int x)
 let Y:Sl:=.val (.int y)
 let t0:Th:=[.dp (oD C M ts wl S),A,.no,.no,.no,.no]
 let t1:Th:=[.dp (oD C M ts wl S),A,X,Y,.no,.no]
 have E1:(dv (j6 2 lF) (bK 1 [0] (fE (d2 az (d1 (aH C "ties") av) aA)) bB bN (d2 az (d1 (aH C "piece_of") aA) av))) t0=Qs (.nx t1):=by
  unfold dv
  rw[yZ (i:=0) (j:=0) hw (t:=t0) rfl (.inr rfl) rfl a0 a1]
  rfl
 obtain⟨q,eq,dq⟩:=AF (f:=ae 0) (t:=t1) (r:=.tm (oD C M ts wl S)) (M:=M) (ts:=ts) (wl:=wl) (S:=S) rfl rfl
 obtain⟨r1,k1,d1'⟩:=yl eq (rfl:ae 2 t1=Qs (.cl (.int x))) dq rfl px.1 px.2
 obtain⟨r2,k2,Vc⟩:=yl eq (rfl:ae 3 t1=Qs (.cl (.int y))) dq rfl py.1 py.2
 have lx:(S.pt x).length<=M:=z8 hO px.1 px.2
 have ly:(S.pt y).length<=M:=z8 hO py.1 py.2
 have ec:(d2 c9 (d2 az (d1 (aH C "points") av) aQ) (d2 az (d1 (aH C "points") av) bE)) t1=Qs (.nw ((S.pt x++S.pt y).map D.int)):=by
  rw[cQ k1 k2]
  have:(kI gW λi j=>D.int (i+j)) r1 r2=Qn:=by(try unfold c9);(try unfold qS);(try unfold qM);(try unfold qV);(try unfold qR);(try unfold qL);(try unfold qE);(try unfold qG);(try unfold qP);unfold kI;rw[d1',Vc];rfl
  (try unfold c9);(try unfold qM);unfold kK
  rw[this]
  show kQ r1 r2=_
  unfold kQ
  rw[d1',Vc]
  show(if(r1.ok||RB ((S.pt x).map D.int))&&(r2.ok||RB ((S.pt y).map D.int))&&decide (((S.pt x).map D.int).length+((S.pt y).map D.int).length<=100000) then Qs (Ev.nw ((S.pt x).map D.int++(S.pt y).map D.int)) else Qn)=_
  rw[Ss,Ss,NW,NW,RC (by rw[MY,MY];lia),QO (by rfl),Od]
 have e2:=nF (xs:=S.pt x++S.pt y) ec rfl (by rw[Nl];lia)
 have E2:=ik (i:=4) e2 (by simp[t1])
 let oP (P:Ql Int):D:=.obj C Sx [.lst (ts.map pD),iL wl,.int S.pa,iL S.tk,fp S.n S.pt,fl S.n S.wd,fl S.n S.pd,fl M S.ar,fl M λv=>if v∈P then(S.n:Int) else S.po v]
 let T (P:Ql Int) (s5:Sl):Th:=[.dp (oP P),A,X,Y,.own (J.map D.int),s5]
 have rJ:∀z∈J,0<=z/\z<(M:Int):=λz hz=>by
  rcases YI.mp hz with k | k
  .exact hO.inr x px.1 px.2 z k
  .exact hO.inr y py.1 py.2 z k
 let bd:DS:=(mJ 0 C "piece_of" bJ (ai bV (ag (d1 (aH C "points") av) ao)))
 have turn:∀(P:Ql Int) (z:Int),0<=z->z<(M:Int)->bd (T P (.val (.int z)))=Qs (.nx (T (P++[z]) (.val (.int z)))):=λP z z0 z1=>by
  have i8:aW "piece_of" Sx=Qs 8:=by decide +kernel
  have i4:aW "points" Sx=Qs 4:=by decide +kernel
  have ep:=ib (f:=ae 0) (t:=T P (.val (.int z))) (r:=.tm (oP P)) (C:=C) (ns:=Sx) (x := "points") (j:=4) (d:=fp S.n S.pt) rfl rfl i4 rfl
  have el:=Kc ep (gQ _ _)
  show mJ 0 C "piece_of" bJ (ai bV (ag (d1 (aH C "points") av) ao)) (T P (.val (.int z)))=_
  unfold mJ
  rw[el]
  show gL (T P (.val (.int z))) 0 C "piece_of" (ou (.cl (.int (S.n:Int))) (.cl (.int z)))=_
  have hs:ou (.cl (.int (S.n:Int))) (.cl (.int z)) (((aj M).map λv=>if v∈P then(S.n:Int) else S.po v).map D.int)=Qs (((aj M).map λv=>if v∈P++[z] then(S.n:Int) else S.po v).map D.int):=by
   show(if flat (D.int (S.n:Int)) then(Sz (((aj M).map λv=>if v∈P then(S.n:Int) else S.po v).map D.int).length z).map (λl=>(((aj M).map λv=>if v∈P then(S.n:Int) else S.po v).map D.int).set l (.int (S.n:Int))) else Qn)=_
   rw[QO (by rfl),MY,(xC z0 z1).1]
   show Qs ((((aj M).map λv=>if v∈P then(S.n:Int) else S.po v).map D.int).set z.toNat (.int (S.n:Int)))=_
   rw[<-Q5,xB z0 z1]
   congr 2
   refine Nw λq _=>?_
   by_cases k:q=z
   .rw[QO k,QO (by simp[k])]
   .rw[QU k]
    by_cases k2:q∈P
    .rw[QO k2,QO (by simp[k2])]
    .rw[QU k2,QU (by simp[k,k2])]
  exact wz (t:=T P (.val (.int z))) (ns:=Sx) (j:=8) rfl i8 rfl (Ss _) hs (Ss _)
 have loop:∀(L P:Ql Int) (s5:Sl),(∀z∈L,0<=z/\z<(M:Int))->∃Yq,ju 4 (J.map D.int) 5 bd (L.map D.int) (T P s5)=Qs (T (P++L) Yq):=by
  intro L
  induction L with
  |nil=>exact λP s5 _=>⟨s5,by rw[Nt];rfl⟩
  |cons z L ih =>
   intro P s5 h
   have rz:=h z (MN ..)
   obtain⟨Yq,e⟩:=ih (P++[z]) (.val (.int z)) λu hu=>h u (MM _ hu)
   refine⟨Yq,?_⟩
   have ea:P++z::L=(P++[z])++L:=by simp
   rw[ea,M4]
   unfold ju
   rw[show cb 5 (.int z) (T P s5)=Qs (T P (.val (.int z))) from rfl]
   simp only[MP]
   rw[turn P z rz.1 rz.2]
   show(if UW (J.map D.int) (J.map D.int) then ju 4 (J.map D.int) 5 bd (L.map D.int) (T (P++[z]) (.val (.int z))) else Qn)=_
   rw[Lw,QO rfl]
   exact e
 obtain⟨s5,lp⟩:=loop J [] .no rJ
 rw[Pc]at lp
 have o0:oP []=oD C M ts wl S:=by
  show D.obj C Sx _=D.obj C Sx _
  simp only[Og,if_false]
 have E3:oY 4 5 bd [.dp (oD C M ts wl S),A,X,Y,.own (J.map D.int),.no]=Qs (.nx (T J s5)):=by
  unfold oY
  show(if(J.map D.int).all aP then(ju 4 (J.map D.int) 5 bd (J.map D.int) [.dp (oD C M ts wl S),A,X,Y,.own (J.map D.int),.no]).map Out.nx else Qn)=_
  rw[zx,QO rfl]
  have q:T [] .no=[.dp (oD C M ts wl S),A,X,Y,.own (J.map D.int),.no]:=by simp only[T,o0]
  rw[<-q,lp]
  rfl
 have i4:aW "points" Sx=Qs 4:=by decide +kernel
 have i5:aW "widths" Sx=Qs 5:=by decide +kernel
 have i6:aW "paid" Sx=Qs 6:=by decide +kernel
 have i3:aW "taken" Sx=Qs 3:=by decide +kernel
 let Xd:Int->Int:=λv=>if v∈J then(S.n:Int) else S.po v
 let Ux:Int->Ql Int:=λp=>if p=(S.n:Int) then J else S.pt p
 let Yl:Int->Int:=λp=>if p=(S.n:Int) then 0 else S.wd p
 let pd2:Int->Int:=λp=>if p=(S.n:Int) then S.pd x+S.pd y else S.pd p
 let t4:Th:=[.dp (.obj C Sx [.lst (ts.map pD),iL wl,.int S.pa,iL S.tk,fp (S.n+1) Ux,fl S.n S.wd,fl S.n S.pd,fl M S.ar,fl M Xd]),A,X,Y,.no,s5]
 have E4:o6 0 4 C "points" (T J s5)=Qs (.nx t4):=by
  unfold o6
  show(if C=C/\4≠0/\RB (J.map D.int)=Qt then(aW "points" Sx).bind _ else Qn)=_
  rw[QO ⟨rfl,by decide,Ss _⟩,i4]
  show(if((aj S.n).map λp=>cZ (S.pt p)).length<100000 then Qs (Out.nx _) else Qn)=_
  rw[QO (by rw[MY,fg];lia)]
  have:=Lk S.n S.pt J
  show Qs (Out.nx [.dp (.obj C Sx [.lst (ts.map pD),iL wl,.int S.pa,iL S.tk,.lst (((aj S.n).map λp=>cZ (S.pt p))++[cZ J]),fl S.n S.wd,fl S.n S.pd,fl M S.ar,fl M Xd]),A,X,Y,.no,s5])=_
  rw[this]
  rfl
 have E5:=yo (t:=t4) (C:=C) (x := "widths") (j:=5) (l:=(aj S.n).map S.wd) (v:=0) (fe:=dC (.int 0)) rfl i5 rfl rfl (by rw[MY,fg];lia)
 rw[CB]at E5
 let t5:Th:=[.dp (.obj C Sx [.lst (ts.map pD),iL wl,.int S.pa,iL S.tk,fp (S.n+1) Ux,fl (S.n+1) Yl,fl S.n S.pd,fl M S.ar,fl M Xd]),A,X,Y,.no,s5]
 have ep:=ib (f:=ae 0) (t:=t5) (C:=C) (ns:=Sx) (x := "paid") (j:=6) (d:=fl S.n S.pd) (r:=.tm (.obj C Sx [.lst (ts.map pD),iL wl,.int S.pa,iL S.tk,fp (S.n+1) Ux,fl (S.n+1) Yl,fl S.n S.pd,fl M S.ar,fl M Xd])) rfl rfl i6 rfl
 have p1:=iV ep (rfl:ae 2 t5=Qs (.cl (.int x))) (gQ _ _) rfl px.1 px.2
 have p2:=iV ep (rfl:ae 3 t5=Qs (.cl (.int y))) (gQ _ _) rfl py.1 py.2
 have E6:=yo (t:=t5) (C:=C) (x := "paid") (j:=6) (l:=(aj S.n).map S.pd) (v:=S.pd x+S.pd y) rfl i6 rfl (jE p1 p2) (by rw[MY,fg];lia)
 rw[CB]at E6
 let t6:Th:=[.dp (.obj C Sx [.lst (ts.map pD),iL wl,.int S.pa,iL S.tk,fp (S.n+1) Ux,fl (S.n+1) Yl,fl (S.n+1) pd2,fl M S.ar,fl M Xd]),A,X,Y,.no,s5]
 have E7:=yo (t:=t6) (C:=C) (x := "taken") (j:=3) (l:=S.tk) (v:=a) (fe:=ae 1) rfl i3 rfl rfl (by lia)
 show(tW C t0).bind kE=_
 have:=(aL E1).trans ((aL E2).trans ((aL E3).trans ((aL E4).trans ((aL E5).trans ((aL E6).trans E7)))))
 rw[show tW C t0=_ from this]
 rfl
def Gj(M:Nat)(v:Int):M8 M v=(aj M).map λ_=>v:=by
 rw[List.map_const',fg]
def KO{C:U1}(hM:M<=900):m4 C [.obj C [] [],wD M ts,iL wl]=Qs (oD C M ts wl (PS.new M)):=by
 let W:Sl:=.val (wD M ts)
 let V:Sl:=.val (iL wl)
 let A:Sl:=.val (.int (M:Int))
 let T:Sl:=.val (.lst (ts.map pD))
 let O (ns:Ql Str) (ds:Ql D):Th:=[.dp (.obj C ns ds),W,V,A,T]
 have E0:(dv (cK 2 lE) aA) [.dp (.obj C [] []),W,V,.no,.no]=Qs (.nx (O [] [])):=rfl
 have e1:∀ns ds,(ai dt jH) (O ns ds)=Qs (.nw (ts.map pD)):=λns ds=>tj (r:=.cl (.lst (ts.map pD))) rfl rfl
 have e2:∀ns ds,(ai dt eY) (O ns ds)=Qs (.nw (wl.map D.int)):=λns ds=>mq (r:=.cl (iL wl)) rfl rfl
 have z0:∀ns ds,(d2 qM (ai cE (ag bh ao)) bE) (O ns ds)=Qs (.nw (((aj M).map λ_=>(0:Int)).map D.int)):=λns ds=>by
  rw[<-Gj]
  exact Gi (x:=0) (m:=M) rfl rfl hM
 have ep:∀ns ds,(iR 1 [] (hZ bE) bB bN (ai cE eZ)) (O ns ds)=Qs (.dn (fp M λp=>[p])):=λns ds=>by
  unfold iR
  rw[zC (f:=ae 3) (t:=O ns ds) (n:=M) rfl (by lia)]
  show(if((aj M).map D.int).length<=50000 then(fq bB bN (ai cE eZ) ((aj M).map D.int) [.no]).map _ else Qn)=_
  rw[QO (by rw[MY,fg];lia),xX (e:=D.int) (f:=λp=>cZ [p]) (ext:=[]) (aj M) .no λx _=>⟨.nw [.int x],rfl,rfl⟩]
  rfl
 have eo:∀ns ds,(ig gz) (O ns ds)=Qs (.nw (((aj M).map id).map D.int)):=λns ds=>by
  rw[Pu]
  exact sZ (f:=ae 3) (t:=O ns ds) (n:=M) rfl (by lia)
 have fi:∀l:Ql Int,jw (.nw (l.map D.int))=Qs (iL l):=λl=>by
  show(if RB _ then Qs _ else Qn)=_
  rw[Ss];rfl
 have fi2:jw (.nw (ts.map pD))=Qs (.lst (ts.map pD)):=by
  show(if RB _ then Qs _ else Qn)=_
  rw[mE];rfl
 have E1:=jv (t:=O [] []) (C:=C) (x := "ties") rfl (e1 _ _) fi2 (by decide +kernel) (by decide)
 have E2:=jv (t:=O ["ties"] [.lst (ts.map pD)]) (C:=C) (x := "weights") rfl (e2 _ _) (fi _) (by decide +kernel) (by decide)
 have E3:=jv (t:=O ["ties", "weights"] [.lst (ts.map pD),iL wl]) (C:=C) (x := "parts") (fe:=dC (.int 1)) (y:=.int 1) rfl rfl rfl (by decide +kernel) (by decide)
 have E4:=jv (t:=O ["ties", "weights", "parts"] [.lst (ts.map pD),iL wl,.int 1]) (C:=C) (x := "taken") (fe:=ai cE ao) (y:=iL []) rfl rfl rfl (by decide +kernel) (by decide)
 have E5:=jv (t:=O ["ties", "weights", "parts", "taken"] [.lst (ts.map pD),iL wl,.int 1,iL []]) (C:=C) (x := "points") rfl (ep _ _) rfl (by decide +kernel) (by decide)
 have E6:=jv (t:=O ["ties", "weights", "parts", "taken", "points"] [.lst (ts.map pD),iL wl,.int 1,iL [],fp M λp=>[p]]) (C:=C) (x := "widths") rfl (z0 _ _) (fi _) (by decide +kernel) (by decide)
 have E7:=jv (t:=O ["ties", "weights", "parts", "taken", "points", "widths"] [.lst (ts.map pD),iL wl,.int 1,iL [],fp M λp=>[p],fl M λ_=>0]) (C:=C) (x := "paid") rfl (z0 _ _) (fi _) (by decide +kernel) (by decide)
 have E8:=jv (t:=O ["ties", "weights", "parts", "taken", "points", "widths", "paid"] [.lst (ts.map pD),iL wl,.int 1,iL [],fp M λp=>[p],fl M λ_=>0,fl M λ_=>0]) (C:=C) (x := "around") rfl (z0 _ _) (fi _) (by decide +kernel) (by decide)
 have E9:=jv (t:=O ["ties", "weights", "parts", "taken", "points", "widths", "paid", "around"] [.lst (ts.map pD),iL wl,.int 1,iL [],fp M λp=>[p],fl M λ_=>0,fl M λ_=>0,fl M λ_=>0]) (C:=C) (x := "piece_of") rfl (eo _ _) (fi _) (by decide +kernel) (by decide)
 show(tY C [.dp (.obj C [] []),W,V,.no,.no]).bind kE=_
 have:=(aL E0).trans ((aL E1).trans ((aL E2).trans ((aL E3).trans ((aL E4).trans ((aL E5).trans ((aL E6).trans ((aL E7).trans ((aL E8).trans E9))))))))
 rw[show tY C [.dp (.obj C [] []),W,V,.no,.no]=_ from this]
 rfl
def cq(a b:Int):Int×Int:=(((a.toNat / NU a.toNat b.toNat:Nat):Int),((b.toNat / NU a.toNat b.toNat:Nat):Int))
def bO(m:Ql Int×(Int×Int)):D:=.tup [cZ m.1,pD m.2]
def wide(S:PS):Ql Int:=(aj S.n).filter λp=>decide (0<S.wd p)
def jV(S:PS):Ql (Ql Int×(Int×Int)):=fL ((wide S).map λp=>(S.pt p,cq (S.wd p) S.pa))
def Li (a0:0<=a)(b0:0<b)(h:b<(DL.RN:Int)):ip [.int a,.int b]=Qs (.cl (pD (cq a b))):=by
 have:=Lg a.toNat b.toNat (by lia) (by lia)
 rw[NN a0,NN (NR b0)]at this
 exact this
def AW:∀(l:Ql Int) (f:Int->Ql Int) (g:Int->Int×Int),ji (l.map λp=>bO (f p,g p))=Qs (l.map λp=>(f p,bO (f p,g p)))
 |[],_,_=>rfl
 |p::l,f,g=>by
  have ih:=AW l f g
  rw[M4]
  unfold ji
  rw[ih]
  show(eD ((f p).map D.int)).bind _=_
  rw[wU]
  rfl
def yV:∀(l:Ql Int) (f:Int->Ql Int) (g:Int->D),l.Nodup->(∀p∈l,∀q∈l,f p=f q->p=q)->lM (l.map λp=>(f p,g p))=Qt
 |[],_,_,_,_=>rfl
 |p::l,f,g,nd,h=>by
  have Vl:=M3.mp nd
  rw[M4]
  unfold lM
  rw[MX]
  refine⟨NJ.mpr λy hy=>?_,yV l f g Vl.2 λa ha b hb=>h a (MM _ ha) b (MM _ hb)⟩
  obtain⟨q,hq,rfl⟩:=Ny.mp hy
  refine RC λz=>Vl.1 ?_
  have:=h q (MM _ hq) p (MN ..) z
  exact this ▸ hq
def Fl(l:Ql Int)(f:Int->Ql Int)(g:Int->Int×Int):(fL (l.map λp=>(f p,bO (f p,g p)))).map (·.2)=(fL (l.map λp=>(f p,g p))).map bO:=by
 let L:Ql (Ql Int×(Ql Int×(Int×Int))):=l.map λp=>(f p,(f p,g p))
 have h1:=nI (λm:Ql Int×(Int×Int)=>bO m) L
 have h2:=nI (λm:Ql Int×(Int×Int)=>m.2) L
 have e1:(L.map λw=>(w.1,bO w.2))=l.map λp=>(f p,bO (f p,g p)):=by show(l.map _).map _=_;rw[Nk];rfl
 have e2:(L.map λw=>(w.1,w.2.2))=l.map λp=>(f p,g p):=by show(l.map _).map _=_;rw[Nk];rfl
 rw[e1]at h1
 rw[e2]at h2
 rw[h1,h2,Nk,Nk]
 refine Nw λw hw=>?_
 have:=(nH L).mem_iff.mp hw
 obtain⟨p,_,rfl⟩:=Ny.mp this
 rfl
def JI{C:U1}{S:PS}(hO:Ok M e w nt S)(hn:S.n<64) (hB:B<=DL.RN)(hS:Sm M S B):gV C [oD C M ts wl S]=Qs (.dn (.lst ((jV S).map bO))):=by
 let O:Sl:=.val (oD C M ts wl S)
 let t0:Th:=[O,.no]
 obtain⟨q,eq,dq⟩:=vW (f:=ae 0) (t:=t0) (r:=.cl (oD C M ts wl S)) (M:=M) (ts:=ts) (wl:=wl) (S:=S) rfl rfl
 have e1:(bK 2 [] (jt (d1 (aH C "widths") av)) (cK 2 gy) (aI (d2 qG aA bh)) av) t0=Qs (.nw ((wide S).map D.int)):=by
  have cc:=xT (b:=S.wd) (p:=λa=>decide (0<S.wd a)) (f:=id) (ft:=(aI (d2 qG aA bh))) (fe:=ae 0) (c:=[]) S.n 0 .no .no λi hi=>⟨oF (t:=[.val (.int (i:Int)),.val (.int (S.wd i))]) (a:=S.wd i) (b:=0) rfl rfl,λ_=>rfl⟩
  have em:jt (d1 (aH C "widths") av) t0=Qs (q.ok,cP 0 (((ON 0 S.n).map λ(i:Nat)=>(S.wd (i:Int))).map D.int)):=by
   unfold jt
   rw[eq]
   simp only[MP]
   rw[dq]
   show Qs (q.ok,cP 0 (((aj S.n).map S.wd).map D.int))=_
   rw[sR,Nk,Nk,Nk]
   rfl
  unfold bK
  rw[em]
  show(if(cP 0 (((ON 0 S.n).map λ(i:Nat)=>(S.wd (i:Int))).map D.int)).length<=50000 then(bW _ _ _ (cP 0 (((ON 0 S.n).map λ(i:Nat)=>(S.wd (i:Int))).map D.int)) [.no,.no]).bind _ else Qn)=_
  rw[QO (by rw[kY];simp;lia)]
  have Zp:bW (cK 2 gy) (aI (d2 qG aA bh)) av (cP 0 (((ON 0 S.n).map λ(i:Nat)=>(S.wd (i:Int))).map D.int)) [.no,.no]=Qs ((wide S).map D.int):=by
   unfold wide
   rw[sR]
   have:=cc
   rw[Pu]at this
   exact this
  rw[Zp]
  simp only[MP,Ss,NW,if_true]
 have E1:=ik (i:=1) e1 (by simp[t0])
 let t1:Th:=[O,.own ((wide S).map D.int)]
 have wr:∀p∈wide S,0<=p/\p<(S.n:Int):=λp hp=>dm (N1.mp hp).1
 have e2:(iR 1 [0] (cF aA) bB bN (k6 (dQ (dF (ai dt (ag (d2 az (d1 (aH C "points") aA) av) ao))) (dQ (dF (ai (aO ip) (ag (d2 az (d1 (aH C "widths") aA) av) (ag (d1 (aH C "parts") aA) ao)))) jU)))) t1=Qs (.dn (.lst ((wide S).map λp=>bO (S.pt p,cq (S.wd p) S.pa)))):=by
  have key:∀p∈wide S,∃r,(k6 (dQ (dF (ai dt (ag (d2 az (d1 (aH C "points") aA) av) ao))) (dQ (dF (ai (aO ip) (ag (d2 az (d1 (aH C "widths") aA) av) (ag (d1 (aH C "parts") aA) ao)))) jU))) (.val (.int p)::[O])=Qs r/\toDn r=Qs (bO (S.pt p,cq (S.wd p) S.pa)):=λp hp=>by
   obtain⟨p0,p1⟩:=wr p hp
   let t:Th:=[.val (.int p),O]
   have o1:ae 1 t=Qs (.cl (oD C M ts wl S)):=rfl
   obtain⟨q1,a1,b1⟩:=AF o1 rfl
   obtain⟨r1,a2,b2⟩:=yl a1 (rfl:ae 0 t=Qs (.cl (.int p))) b1 rfl p0 p1
   have l1:=mq (xs:=S.pt p) a2 b2
   obtain⟨q3,a3,b3⟩:=vW o1 rfl
   have a4:=iV a3 (rfl:ae 0 t=Qs (.cl (.int p))) b3 rfl p0 p1
   have a5:=AH o1 rfl
   have fr:=(eG (k:=aO ip) a4 a5).trans (mR (Li (hS.wd p p0 p1).1 hO.Vk (by have:=hS.pa;lia)) rfl)
   refine⟨.dn (bO (S.pt p,cq (S.wd p) S.pa)),?_,rfl⟩
   unfold k6
   have n1:(dF (ai dt (ag (d2 az (d1 (aH C "points") aA) av) ao))) t=Qs (cZ (S.pt p),[]):=by
    unfold dF
    rw[l1]
    show(if RB ((S.pt p).map D.int) then Qs (D.lst ((S.pt p).map D.int)) else Qn).map _=_
    rw[Ss]
    rfl
   have n2:(dF (ai (aO ip) (ag (d2 az (d1 (aH C "widths") aA) av) (ag (d1 (aH C "parts") aA) ao)))) t=Qs (pD (cq (S.wd p) S.pa),[]):=by
    unfold dF
    rw[fr]
    rfl
   have n3:(dQ (dF (ai dt (ag (d2 az (d1 (aH C "points") aA) av) ao))) (dQ (dF (ai (aO ip) (ag (d2 az (d1 (aH C "widths") aA) av) (ag (d1 (aH C "parts") aA) ao)))) jU)) t=Qs ([cZ (S.pt p),pD (cq (S.wd p) S.pa)],[]):=by
    unfold dQ
    rw[n1]
    simp only[MP]
    rw[n2]
    rfl
   show((dQ _ _) t).bind _=_
   rw[n3]
   rfl
  have cc:=xX (e:=D.int) (f:=λp=>bO (S.pt p,cq (S.wd p) S.pa)) (ext:=[O]) (wide S) .no key
  unfold iR
  show(if((wide S).map D.int).length<=50000 then(fq bB bN _ ((wide S).map D.int) [.no,O]).map _ else Qn)=_
  have U5:(wide S).length<=S.n:=by
   have:=OF (λp=>decide (0<S.wd p)) (aj S.n)
   rwa [fg]at this
  rw[QO (by rw[MY];lia),cc]
  rfl
 have e3:(ai tF (ag (iR 1 [0] (cF aA) bB bN (k6 (dQ (dF (ai dt (ag (d2 az (d1 (aH C "points") aA) av) ao))) (dQ (dF (ai (aO ip) (ag (d2 az (d1 (aH C "widths") aA) av) (ag (d1 (aH C "parts") aA) ao)))) jU)))) ao)) t1=Qs (.dn (.lst ((jV S).map bO))):=by
  rw[gX e2]
  show(ji ((wide S).map λp=>bO (S.pt p,cq (S.wd p) S.pa))).bind _=_
  rw[AW]
  simp only[MP]
  have un:=yV (wide S) S.pt (λp=>bO (S.pt p,cq (S.wd p) S.pa)) ((Jv S.n).sublist List.filter_sublist) λp hp q hq z=>hO.XC p q (wr p hp).1 (wr p hp).2 (wr q hq).1 (wr q hq).2 z
  rw[un]
  have U5:(wide S).length<=S.n:=by
   have:=OF (λp=>decide (0<S.wd p)) (aj S.n)
   rwa [fg]at this
  rw[RC (by rw[MY];lia),QO (by rfl)]
  unfold jV
  show Qs (Ev.dn (.lst ((fL ((wide S).map λp=>(S.pt p,bO (S.pt p,cq (S.wd p) S.pa)))).map (·.2))))=_
  rw[Fl]
 show(xm C t0).bind dD=_
 exact RN ((aL E1).trans (jd e3))
def fF(f:Int->Int):Nat->Ql Eg->Qo Nat
 |_,[]=>Qn
 |i,w::ws=>if f w.1=f w.2 then fF f (i+1) ws else Qs i
def xy{f:Int->Int}:∀{ws:Ql Eg}{i:Nat},fF f i ws=Qn↔∀w∈ws,f w.1=f w.2
 |[],i=>by simp[fF]
 |w::ws,i=>by
  unfold fF
  split
  .rename_i h
   rw[xy]
   simp[h]
  .rename_i h
   simp[h]
def gc(M:Nat)(ws:Ql Eg):Prop := ∀w∈ws,(0<=w.1/\w.1<(M:Int))/\0<=w.2/\w.2<(M:Int)
def sL:Qo Nat->D
 |some i=>.int (i:Int)
 |none=>.Ri
def Ln(o:Qo Nat):flat (sL o)=Qt:=by cases o<;>rfl
def Aw (hM:M<=1000) (hw:TJ M ts) (hW:gc M ws) (hL:∀l∈L,0<=l/\l<(ts.length:Int)):iq [wD M ts,.lst (ws.map pD),iL L]=Qs (.cl (sL (fF (ll (cu ts L)) 0 ws))):=by
 let f:=ll (cu ts L)
 let W:Sl:=.val (wD M ts)
 let V:Sl:=.val (.lst (ws.map pD))
 let N:Sl:=.val (iL L)
 let t0:Th:=[W,V,N,.no,.no,.no,.no]
 have e1:(ai (aO lu) (ag av eY)) t0=Qs (.nw (((aj M).map f).map D.int)):=by
  rw[eG (rfl:ae 0 t0=Qs (.cl (wD M ts))) (rfl:ae 2 t0=Qs (.cl (iL L)))]
  exact pB (G:=lu) (rs:=[.cl (wD M ts),.cl (iL L)]) (Kd hM hw hL)
 have E1:=ik (i:=3) e1 (by simp[t0])
 let F:Sl:=.own (((aj M).map f).map D.int)
 let bd:DS:=(bY (aI (d2 dU (d2 az bE bJ) (d2 az bE cH))) (fj 4) cM)
 let kk:D->Th->Qo Th:=(cK 2 (dg gf (dg (cK 2 (dg jI (dg i7 gN))) gN)))
 have loop:∀(vs:Ql Eg) (i:Nat) (s4 s5 s6:Sl),gc M vs->(match fF f i vs with
   |some j=>bQ kk bd (cP i (vs.map pD)) [W,V,N,F,s4,s5,s6]=Qs (.rt (.cl (.int (j:Int))))
   |none => ∃u4 u5 u6,bQ kk bd (cP i (vs.map pD)) [W,V,N,F,s4,s5,s6]=Qs (.nx [W,V,N,F,u4,u5,u6])):=by
  intro vs
  induction vs with
  |nil=>exact λi s4 s5 s6 _=>⟨s4,s5,s6,rfl⟩
  |cons w vs ih =>
   intro i s4 s5 s6 h
   obtain⟨⟨a0,a1⟩,b0,b1⟩:=h w (MN ..)
   let t:Th:=[W,V,N,F,.val (.int (i:Int)),.val (.int w.1),.val (.int w.2)]
   have q1:=iV (fa:=ae 3) (fb:=ae 5) (t:=t) (r1:=.tm (fl M f)) (r2:=.cl (.int w.1)) (n:=M) (f:=f) rfl rfl rfl rfl a0 a1
   have q2:=iV (fa:=ae 3) (fb:=ae 6) (t:=t) (r1:=.tm (fl M f)) (r2:=.cl (.int w.2)) (n:=M) (f:=f) rfl rfl rfl rfl b0 b1
   have c:=wc q1 q2
   unfold fF
   by_cases z:f w.1=f w.2
   .rw[QO z]
    have tn:bd t=Qs (.nx t):=gu (g:=fj 4) c (by rw[RC z];rfl)
    have:=ih (i+1) (.val (.int (i:Int))) (.val (.int w.1)) (.val (.int w.2)) λx hx=>h x (MM _ hx)
    have st:=j7 (k:=kk) (ds:=cP (i+1) (vs.map pD)) (d:=.tup [.int (i:Int),pD w]) (t:=[W,V,N,F,s4,s5,s6]) (t1:=t) rfl tn
    cases y:fF f (i+1) vs with
    |some j=>rw[y]at this;exact st.trans this
    |none=>rw[y]at this;obtain⟨u4,u5,u6,e⟩:=this;exact⟨u4,u5,u6,st.trans e⟩
   .rw[QU z]
    have tn:bd t=Qs (.rt (.cl (.int (i:Int)))):=(jn c (by rw[Su z];rfl)).trans rfl
    exact Cv (k:=kk) (ds:=cP (i+1) (vs.map pD)) (d:=.tup [.int (i:Int),pD w]) (t:=[W,V,N,F,s4,s5,s6]) (t1:=t) rfl tn
 have lp:=loop ws 0 .no .no .no hW
 have eg:iq [wD M ts,.lst (ws.map pD),iL L]=(aE (aM 3 (ai (aO lu) (ag av eY))) (aE (o8 kk aA bd) (cx gA)) t0).bind dD:=rfl
 rw[eg]
 have ee:o8 kk aA bd [W,V,N,F,.no,.no,.no]=bQ kk bd (cP 0 (ws.map pD)) [W,V,N,F,.no,.no,.no]:=rfl
 have ef:ll (cu ts L)=f:=rfl
 rw[ef]
 cases z:fF f 0 ws with
 |some j=>rw[z]at lp;exact RN ((aL E1).trans (uV (ee.trans lp)))
 |none=>rw[z]at lp;obtain⟨u4,u5,u6,e⟩:=lp;exact RN ((aL E1).trans ((aL (ee.trans e)).trans rfl))
def dT(G:Ql Int):D:=.RX (G.map kN) (G.map iz)
def y6:∀G:Ql Int,i9 (G.map kN) (G.map iz)=Qs G
 |[]=>rfl
 |k::G=>by
  show(i9 (G.map kN) (G.map iz)).map (k::·)=_
  rw[y6 G];rfl
def Fv:∀G:Ql Int,(G.map iz).all aP=Qt:=λG=>NJ.mpr λd hd=>by obtain⟨_,_,rfl⟩:=Ny.mp hd;rfl
def CP{fk:DE}(h:t[i]?=Qs (.dp (dT G)))(hk:fk t=Qs (.cl (.int x)))(hl:G.length<100000):o9 i fk m8 t=Qs (.nx (t.set i (.dp (dT (fM G x))))):=by
 have e0:o9 i fk m8 t=oy t i (.cl (.bl Qt)) (.cl (.int x)):=by
  unfold o9
  rw[hk]
  rfl
 rw[e0]
 unfold oy
 rw[h]
 have ek:wF (Ev.cl (D.int x)).d=Qs (kN x):=rfl
 rw[ek]
 unfold dT
 dsimp only
 rw[QO (by
  have a:aP (Ev.cl (D.bl Qt)).d=Qt:=rfl
  rw[Fv,a,MY,RC hl];rfl)]
 have b:(Ev.cl (D.bl Qt)).d=.bl Qt:=rfl
 rw[b,GO]
def vx(G:Ql Int)(x:Int):(fM G x).length<=G.length+1:=by unfold fM;split<;>simp
def yQ{C:U1}{S:PS}(hW:gc M ws)(hl:ws.length<=1000){r:Ev}:jF C [oD C M ts wl S,.lst (ws.map pD)]=Qs (.dn (dT (RA S ws))):=by
 let O:Sl:=.val (oD C M ts wl S)
 let V:Sl:=.val (.lst (ws.map pD))
 let T (G:Ql Int) (s3 s4 s5 s6:Sl):Th:=[O,V,.dp (dT G),s3,s4,s5,s6]
 let kk:D->Th->Qo Th:=(cK 2 lE)
 let bd:DS:=(aE (iP 5 6 (ag (d2 az (d1 (aH C "piece_of") av) bE) (ag (d2 az (d1 (aH C "piece_of") av) bA) ao))) (bY (aI (d2 dU bJ cH)) (mN (fR 2 bJ) (fR 2 cH) m8) cM))
 have turn:∀(G:Ql Int) (w:Eg) (s5 s6:Sl),G.length<90000->(0<=w.1/\w.1<(M:Int))->(0<=w.2/\w.2<(M:Int))->∃u5 u6,bd (T G (.val (.int w.1)) (.val (.int w.2)) s5 s6)=Qs (.nx (T (gC S G w) (.val (.int w.1)) (.val (.int w.2)) u5 u6)):=λG w s5 s6 hG ha hb=>by
  let t:=T G (.val (.int w.1)) (.val (.int w.2)) s5 s6
  obtain⟨q,eq,dq⟩:=AG (f:=ae 0) (t:=t) (r:=.cl (oD C M ts wl S)) (M:=M) (ts:=ts) (wl:=wl) (S:=S) rfl rfl
  have k1:=iV eq (rfl:ae 3 t=Qs (.cl (.int w.1))) dq rfl ha.1 ha.2
  have k2:=iV eq (rfl:ae 4 t=Qs (.cl (.int w.2))) dq rfl hb.1 hb.2
  let t2:=T G (.val (.int w.1)) (.val (.int w.2)) (.val (.int (S.po w.1))) (.val (.int (S.po w.2)))
  have E1:(iP 5 6 (ag (d2 az (d1 (aH C "piece_of") av) bE) (ag (d2 az (d1 (aH C "piece_of") av) bA) ao))) t=Qs (.nx t2):=by
   unfold iP
   rw[ui k1 (ui k2 rfl)]
   rfl
  have c:=wc (fa:=ae 5) (fb:=ae 6) (t:=t2) (a:=S.po w.1) (b:=S.po w.2) rfl rfl
  refine⟨.val (.int (S.po w.1)),.val (.int (S.po w.2)),?_⟩
  unfold gC
  by_cases z:S.po w.1=S.po w.2
  .rw[QO z]
   exact(aL E1).trans (gu c (by rw[RC z];rfl))
  .rw[QU z]
   have p1:=CP (t:=t2) (i:=2) (fk:=ae 5) (G:=G) (x:=S.po w.1) rfl rfl (by lia)
   let t3:=T (fM G (S.po w.1)) (.val (.int w.1)) (.val (.int w.2)) (.val (.int (S.po w.1))) (.val (.int (S.po w.2)))
   have ln:=vx G (S.po w.1)
   have p2:=CP (t:=t3) (i:=2) (fk:=ae 6) (G:=fM G (S.po w.1)) (x:=S.po w.2) rfl rfl (by lia)
   have E2:mN (fR 2 bJ) (fR 2 cH) m8 t2=Qs (.nx (T (gT (gT G (S.po w.1)) (S.po w.2)) (.val (.int w.1)) (.val (.int w.2)) (.val (.int (S.po w.1))) (.val (.int (S.po w.2))))):=by
    unfold mN
    show(if aP (D.bl Qt) then(fR 2 bJ (.bl Qt) t2).bind _ else Qn)=_
    rw[QO (by rfl)]
    have h1:fR 2 bJ (.bl Qt) t2=Qs t3:=by unfold fR;rw[p1];rfl
    have h2:fR 2 cH (.bl Qt) t3=Qs (T (fM (fM G (S.po w.1)) (S.po w.2)) (.val (.int w.1)) (.val (.int w.2)) (.val (.int (S.po w.1))) (.val (.int (S.po w.2)))):=by unfold fR;rw[p2];rfl
    rw[h1]
    show Option.map Out.nx (fR 2 cH (D.bl Qt) t3)=_
    rw[h2]
    rfl
   exact(aL E1).trans ((jn c (by rw[Su z];rfl)).trans E2)
 have loop:∀(vs:Ql Eg) (G:Ql Int) (s3 s4 s5 s6:Sl),G.length+2*vs.length<80000->gc M vs->∃u3 u4 u5 u6,bQ kk bd (vs.map pD) (T G s3 s4 s5 s6)=Qs (.nx (T (vs.foldl (gC S) G) u3 u4 u5 u6)):=by
  intro vs
  induction vs with
  |nil=>exact λG s3 s4 s5 s6 _ _=>⟨s3,s4,s5,s6,rfl⟩
  |cons w vs ih =>
   intro G s3 s4 s5 s6 hG h
   have Uw:=h w (MN ..)
   simp only[M9]at hG
   obtain⟨u5,u6,e⟩:=turn G w s5 s6 (by lia) Uw.1 Uw.2
   have gl:(gC S G w).length<=G.length+2:=by
    unfold gC
    split
    .lia
    .have a:(gT G (S.po w.1)).length<=G.length+1:=vx G _
     have b:(gT (gT G (S.po w.1)) (S.po w.2)).length<=(gT G (S.po w.1)).length+1:=vx _ _
     lia
   obtain⟨a,b,c,d,e2⟩:=ih (gC S G w) (.val (.int w.1)) (.val (.int w.2)) u5 u6 (by lia) λx hx=>h x (MM _ hx)
   exact⟨a,b,c,d,(j7 (k:=kk) (d:=pD w) (t1:=T G (.val (.int w.1)) (.val (.int w.2)) s5 s6) rfl e).trans e2⟩
 obtain⟨a,b,c,d,e⟩:=loop ws [] .no .no .no .no (by simp;lia) hW
 have E0:aM 2 ug [O,V,.no,.no,.no,.no,.no]=Qs (.nx (T [] .no .no .no .no)):=rfl
 have E1:fX kk aA bd (T [] .no .no .no .no)=Qs (.nx (T (RA S ws) a b c d)):=(Cu (r:=.cl (.lst (ws.map pD))) rfl rfl rfl).trans e
 show(aE (aM 2 ug) (aE (fX kk aA bd) (fj 2)) [O,V,.no,.no,.no,.no,.no]).bind dD=_
 exact RN ((aL E0).trans ((aL E1).trans rfl))
def gJ(e:Int->Eg)(ws:Ql Eg)(L:Ql Int):Bool:=(ws.all λw=>decide (ll (L.map e) w.1=ll (L.map e) w.2))
def eJ(e:Int->Eg)(ws:Ql Eg)(K:Ql Int)(a:Int):Ql Int:=if gJ e ws (K.filter λx=>!decide (x=a)) then K.filter λx=>!decide (x=a) else K
def md(e:Int->Eg)(ws:Ql Eg)(tk:Ql Int):Ql Int:=cS (tk.reverse.foldl (eJ e ws) tk)
def AN{e:Int->Eg}{ws:Ql Eg}:∀{as K:Ql Int}{x:Int},x∈as.foldl (eJ e ws) K->x∈K
 |[],K,x,h=>h
 |a::as,K,x,h=>by
  have:=AN (as:=as) h
  unfold eJ at this
  split at this
  .exact(N1.mp this).1
  .exact this
def v3{e:Int->Eg}{ws:Ql Eg}:∀{as K:Ql Int},(as.foldl (eJ e ws) K).length<=K.length
 |[],K=>MZ _
 |a::as,K=>by
  refine NG (v3 (as:=as)) ?_
  unfold eJ
  split
  .exact OF ..
  .exact MZ _
def zac :gJ e ws L=Qt↔fF (ll (L.map e)) 0 ws=Qn:=by
 rw[xy]
 unfold gJ
 rw[NJ]
 exact⟨λh w hw=>of_decide_eq_true (h w hw),λh w hw=>RC (h w hw)⟩
def Jt (hM:M<=1000) (hw:TJ M ts) (hW:gc M ws){tk:Ql Int}(ht:∀l∈tk,0<=l/\l<(ts.length:Int))(hk:tk.length<64){r:Ev}:il [wD M ts,.lst (ws.map pD),iL tk]=Qs (.nw ((md (aw ts) ws tk).map D.int)):=by
 let W:Sl:=.val (wD M ts)
 let V:Sl:=.val (.lst (ws.map pD))
 let N:Sl:=.val (iL tk)
 let bd:DS:=(aE (aM 5 (bK 1 [4] (cF bE) bB (aI (d2 dU av aA)) av))
  (bY (aI (d2 jY (ai (aO iq) (ag av (ag aA fw))) gA)) (kc 5 (aM 3 bJ)) cM))
 have turn:∀(K:Ql Int) (a:Int) (k3 s5:Sl),(k3=.own (K.map D.int)\/k3=.val (iL K))->K.length<=1000->(∀l∈K,0<=l/\l<(ts.length:Int))->∃Uz u5,(Uz=.own ((eJ (aw ts) ws K a).map D.int)\/Uz=.val (iL (eJ (aw ts) ws K a)))/\bd [W,V,N,k3,.val (.int a),s5]=Qs (.nx [W,V,N,Uz,.val (.int a),u5]):=λK a k3 s5 h3 hK hr=>by
  let t:Th:=[W,V,N,k3,.val (.int a),s5]
  let K2:=K.filter λx=>!decide (x=a)
  obtain⟨r3,e3,d3⟩:∃r,ae 3 t=Qs r/\r.d=iL K:=by
   rcases h3 with z | z<;>subst z
   .exact⟨_,rfl,rfl⟩
   .exact⟨_,rfl,rfl⟩
  have c1:=LI (e:=D.int) (g:=D.int) (p:=λx=>!decide (x=a)) (ft:=aI (d2 dU av aA)) (fe:=ae 0) (cap:=[4]) (t:=t) (b:=Qt) (c:=[.int a]) (xs:=K) e3 d3 rfl (by lia) (λx _=>wc (fa:=ae 0) (fb:=ae 1) (t:=[.val (.int x),.val (.int a)]) rfl rfl) (λx _ _=>⟨.cl (.int x),rfl,rfl⟩) (.inl (Ss _))
  have E1:=ik (i:=5) c1 (by simp[t])
  let t1:Th:=[W,V,N,k3,.val (.int a),.own (K2.map D.int)]
  have rK2:∀l∈K2,0<=l/\l<(ts.length:Int):=λl hl=>hr l (N1.mp hl).1
  have pc:(ai (aO iq) (ag av (ag aA fw))) t1=Qs (.cl (sL (fF (ll (cu ts K2)) 0 ws))):=by
   rw[kn (rfl:ae 0 t1=Qs (.cl (wD M ts))) (rfl:ae 1 t1=Qs (.cl (.lst (ws.map pD)))) (rfl:ae 5 t1=Qs (.tm (iL K2)))]
   exact mR (Aw hM hw hW rK2) (Ln _)
  have cc:aI (d2 jY (ai (aO iq) (ag av (ag aA fw))) gA) t1=Qs (gJ (aw ts) ws K2):=by
   unfold aI
   rw[cQ pc (rfl:dC .Ri t1=Qs (.cl .Ri))]
   show Qs (oB (sL (fF (ll (cu ts K2)) 0 ws)))=_
   cases z:fF (ll (cu ts K2)) 0 ws with
   |none=>rw[zac.mpr z];rfl
   |some j =>
    have:gJ (aw ts) ws K2=Qf:=Bool.eq_false_iff.mpr λk=>by have k2:fF (ll (cu ts K2)) 0 ws=Qn:=zac.mp k;rw[z]at k2;cases k2
    rw[this];rfl
  unfold eJ
  cases z:gJ (aw ts) ws K2 with
  |true =>
   rw[z]at cc
   have z':gJ (aw ts) ws (K.filter λx=>!decide (x=a))=Qt:=z
   rw[QO rfl]
   refine⟨.val (iL K2),.val (iL K2),.inr rfl,(aL E1).trans ((jn cc rfl).trans ?_)⟩
   rcases h3 with y | y<;>subst y<;>rfl
  |false =>
   rw[z]at cc
   have z' : ¬ gJ (aw ts) ws (K.filter λx=>!decide (x=a))=Qt:=by show ¬ gJ (aw ts) ws K2=Qt;rw[z];decide
   rw[QU (by decide)]
   exact⟨k3,.own (K2.map D.int),h3,(aL E1).trans (gu cc rfl)⟩
 have loop:∀(as K:Ql Int) (k3 s4 s5:Sl),(k3=.own (K.map D.int)\/k3=.val (iL K))->K.length<=1000->(∀l∈K,0<=l/\l<(ts.length:Int))->∃Uz u4 u5,(Uz=.own ((as.foldl (eJ (aw ts) ws) K).map D.int)\/Uz=.val (iL (as.foldl (eJ (aw ts) ws) K)))/\bQ gf bd (as.map D.int) [W,V,N,k3,s4,s5]=Qs (.nx [W,V,N,Uz,u4,u5]):=by
  intro as
  induction as with
  |nil=>exact λK k3 s4 s5 h3 _ _=>⟨k3,s4,s5,h3,rfl⟩
  |cons a as ih =>
   intro K k3 s4 s5 h3 hK hr
   obtain⟨Uz,u5,h3',e⟩:=turn K a k3 s5 h3 hK hr
   have sub:∀x∈eJ (aw ts) ws K a,x∈K:=λx hx=>AN (as:=[a]) hx
   have ln:(eJ (aw ts) ws K a).length<=K.length:=v3 (as:=[a]) (K:=K)
   obtain⟨zcQ,u4,u5',zeh,e2⟩:=ih (eJ (aw ts) ws K a) Uz (.val (.int a)) u5 h3' (by lia) λl hl=>hr l (sub l hl)
   exact⟨zcQ,u4,u5',zeh,(j7 (k:=cb 4) (d:=.int a) (t1:=[W,V,N,k3,.val (.int a),s5]) rfl e).trans e2⟩
 have E0:=ik (i:=3) (mq (f:=ae 2) (t:=[W,V,N,.no,.no,.no]) (r:=.cl (iL tk)) (xs:=tk) rfl rfl) (by simp)
 obtain⟨Uz,u4,u5,h3,e⟩:=loop tk.reverse tk (.own (tk.map D.int)) .no .no (.inl rfl) (by lia) ht
 have er:(d1 hU aQ) [W,V,N,.own (tk.map D.int),.no,.no]=Qs (.nw (tk.reverse.map D.int)):=by
  show(if(Ev.cl (iL tk)).ok||RB (tk.map D.int) then Qs (Ev.nw (tk.map D.int).reverse) else Qn)=_
  rw[Ss,NW,QO (by rfl),Q6]
 have E1:fX gf (d1 hU aQ) bd [W,V,N,.own (tk.map D.int),.no,.no]=Qs (.nx [W,V,N,Uz,u4,u5]):=(Cu er rfl rfl).trans e
 have ln:=v3 (e:=aw ts) (ws:=ws) (as:=tk.reverse) (K:=tk)
 have e2:(ai g9 gz) [W,V,N,Uz,u4,u5]=Qs (.nw ((md (aw ts) ws tk).map D.int)):=by
  rcases h3 with z | z<;>subst z
  .exact nF (r:=.tm (iL (tk.reverse.foldl (eJ (aw ts) ws) tk))) rfl rfl (by lia)
  .exact nF (r:=.cl (iL (tk.reverse.foldl (eJ (aw ts) ws) tk))) rfl rfl (by lia)
 show(aE _ (aE (fX gf (d1 hU aQ) bd) (cx (ai g9 gz))) [W,V,N,.no,.no,.no]).bind dD=_
 exact RN ((aL E0).trans ((aL E1).trans (jd e2)))
def oJ(o:Qo Int):Nat:=match o with
 |none=>1
 |some _=>0
def ms(M:Nat)(e:Int->Eg)(w:Int->Int)(nt:Nat)(ws:Ql Eg)(S:PS):Nat:=2*mu M S+oJ (dH S e w (aJ (RA S ws)) nt)
structure Run(M:Nat)(e:Int->Eg)(w:Int->Int)(nt:Nat)(ws:List Eg)(S:PS):Prop where
 ok:Ok M e w nt S
 Ti:S.tk.length+mu M S<=mu M (PS.new M)
def D8(S:PS)(e:Int->Eg)(w:Int->Int)(g:Int->Bool)(nt:Nat)(ws:Ql Eg):RA (Tw S e w g nt) ws=RA S ws:=rfl
def Run.step{S:PS}(h:Run M e w nt ws S)(hE:iX M e nt)(hw:∀w∈ws,Eqv (fJ e nt) w.1 w.2)(hn:RA S ws≠[]):Run M e w nt ws (cI e w nt ws S)/\ms M e w nt ws (cI e w nt ws S)<ms M e w nt ws S:=by
 have hb:=ue h.ok hE hw hn
 cases hf:dH S e w (aJ (RA S ws)) nt with
 |none =>
  have es:cI e w nt ws S=Tw S e w (aJ (RA S ws)) nt:=by unfold cI;rw[hf];rfl
  rw[es]
  refine⟨⟨h.ok.Tw,h.Ti⟩,?_⟩
  unfold ms
  rw[D8,hf]
  have e1:mu M (Tw S e w (aJ (RA S ws)) nt)=mu M S:=rfl
  rw[e1]
  cases z:dH (Tw S e w (aJ (RA S ws)) nt) e w (aJ (RA S ws)) nt with
  |none=>exact absurd z (Le hb)
  |some a=>show 2*mu M S+0<2*mu M S+1;lia
 |some a =>
  have es:cI e w nt ws S=Sy S e a:=by unfold cI;rw[hf]
  rw[es]
  obtain⟨⟨a0,a1⟩,b,_⟩:=ub hf
  have ne:=Du b
  have m:=JA h.ok hE a0 a1 ne
  refine⟨⟨h.ok.Sy hE a0 a1 ne,?_⟩,?_⟩
  .show(S.tk++[a]).length+mu M (Sy S e a)<=_
   rw[Nl,N5]
   have:=h.Ti
   lia
  .unfold ms
   rw[hf]
   have:oJ (dH (Sy S e a) e w (aJ (RA (Sy S e a) ws)) nt)<=1:=by
    unfold oJ;split<;>lia
   show _<2*mu M S+0
   lia
def vk{M:Nat}{e:Int->Eg}{w:Int->Int}{nt:Nat}{ws:Ql Eg}(hE:iX M e nt)(hw:∀w∈ws,Eqv (fJ e nt) w.1 w.2):∀(n:Nat) (S:PS),Run M e w nt ws S->ms M e w nt ws S<n->RA (gm e w nt ws n S) ws=[]/\Run M e w nt ws (gm e w nt ws n S)
 |0,S,_,h=>by lia
 |n+1,S,r,h=>by
  unfold gm
  by_cases z:RA S ws=[]
  .rw[QO z];exact⟨z,r⟩
  .rw[QU z]
   obtain⟨r2,m2⟩:=r.step hE hw z
   exact vk hE hw n _ r2 (by lia)
def wg (hM:M<=9):ms M e w nt ws (PS.new M)<=73/\mu M (PS.new M)<=36:=by
 have h1:mu M (PS.new M)<=36:=NG (OF _ _) (Hh M hM)
 have:oJ (dH (PS.new M) e w (aJ (RA (PS.new M) ws)) nt)<=1:=by unfold oJ;split<;>lia
 unfold ms
 lia
def Run.new{M:Nat}{e:Int->Eg}{w:Int->Int}{nt:Nat}{ws:Ql Eg}(hw:∀a,0<=a->a<(nt:Int)->0<=w a):Run M e w nt ws (PS.new M):=⟨Ok.new hw,by show 0+_<=_;lia⟩
structure Bd(M:Nat)(W k:Nat)(S:PS):Prop where
 pa:0<S.pa/\S.pa<=(2 ^ k:Nat)
 wd:∀p,0<=p->p<(S.n:Int)->0<=S.wd p/\S.wd p<=(8 ^ k*W:Nat)
 pd:∀p,0<=p->p<(S.n:Int)->0<=S.pd p/\S.pd p<=(8 ^ k*W:Nat)
 ar:∀v,0<=v->v<(M:Int)->0<=S.ar v/\S.ar v<=(8 ^ k*W:Nat)
def Bd.new{M W:Nat}:Bd M W 0 (PS.new M) where
 pa:=⟨by show(0:Int)<1;decide,by show(1:Int)<=(1:Nat);decide⟩
 wd:=λp _ _=>⟨Om _,by show(0:Int)<=_;lia⟩
 pd:=λp _ _=>⟨Om _,by show(0:Int)<=_;lia⟩
 ar:=λp _ _=>⟨Om _,by show(0:Int)<=_;lia⟩
def sy(k W:Nat):8 ^ (k+1)*W=8*(8 ^ k*W):=by rw[Sj,Qu (8 ^ k) 8,Nat.mul_assoc]
def Bd.R7{M W k:Nat}{S:PS}(h:Bd M W k S):(0<(R7 S).pa/\(R7 S).pa<=(2 ^ (k+1):Nat))/\(∀p,0<=p->p<(S.n:Int)->0<=(R7 S).wd p/\(R7 S).wd p<=2*(8 ^ k*W:Nat))/\(∀p,0<=p->p<(S.n:Int)->0<=(R7 S).pd p/\(R7 S).pd p<=2*(8 ^ k*W:Nat))/\(∀v,0<=v->v<(M:Int)->0<=(R7 S).ar v/\(R7 S).ar v<=2*(8 ^ k*W:Nat)):=by
 refine⟨⟨?_,?_⟩,λp p0 p1=>?_,λp p0 p1=>?_,λp p0 p1=>?_⟩
 .show 0<S.pa*2
  have:=h.pa
  lia
 .show S.pa*2<=((2 ^ (k+1):Nat):Int)
  have:=h.pa
  have e:2 ^ (k+1)=2*2 ^ k:=by rw[Sj,Qu]
  rw[e]
  lia
 .show 0<=2*S.wd p/\2*S.wd p<=_
  have:=h.wd p p0 p1
  lia
 .show 0<=2*S.pd p/\2*S.pd p<=_
  have:=h.pd p p0 p1
  lia
 .show 0<=2*S.ar p/\2*S.ar p<=_
  have:=h.ar p p0 p1
  lia
def Ff{k:Nat}{S:PS}(hb:Bd M W k S)(hE:iX M e nt)(hw:∀a,0<=a->a<(nt:Int)->0<=w a/\w a<=(W:Int)) (Uo:∃a,(0<=a/\a<(nt:Int))/\0<RD S e g a)(hf:dH S e w g nt=Qn):0<cz S e w g nt/\cz S e w g nt<=2*(8 ^ k*W:Nat):=by
 have p:=Fe Uo hf
 obtain⟨a,ra,b⟩:=Uo
 have le:=qO (S:=S) (e:=e) (w:=w) (g:=g) ra.1 ra.2 b
 have bb:=mV S e g a
 obtain⟨⟨x0,x1⟩,y0,y1⟩:=hE a ra.1 ra.2
 have ax:=hb.ar _ x0 x1
 have ay:=hb.ar _ y0 y1
 have hwa:=hw a ra.1 ra.2
 have m1:w a*S.pa<=(W:Int)*(2 ^ k:Nat):=Q1 (OM hwa.2 (NR hb.pa.1)) (NZ hb.pa.2 (by lia))
 have m2:(W:Int)*(2 ^ k:Nat)<=(8 ^ k*W:Nat):=by
  have:2 ^ k<=8 ^ k:=QH (by decide) k
  have:=QB W this
  rw[Qz]
  have e:((2 ^ k:Nat):Int)*(W:Int)=((2 ^ k*W:Nat):Int):=by push_cast;rfl
  rw[e]
  lia
 have l:RV S e w a<=(8 ^ k*W:Nat):=by
  unfold RV
  lia
 refine⟨p,?_⟩
 have:cz S e w g nt<=RD S e g a*cz S e w g nt:=by
  have:=OM (show 1<=RD S e g a by lia) (NR p)
  lia
 lia
def Bd.step{k:Nat}{S:PS}(hb:Bd M W k S)(hr:Run M e w nt ws S)(hE:iX M e nt)(hw:∀a,0<=a->a<(nt:Int)->0<=w a/\w a<=(W:Int))(hq:∀w∈ws,Eqv (fJ e nt) w.1 w.2)(hn:RA S ws≠[]):Bd M W (k+1) (cI e w nt ws S):=by
 have hx:=ue hr.ok hE hq hn
 have mono:(8 ^ k*W:Nat)<=8 ^ (k+1)*W:=by rw[sy];lia
 cases hf:dH S e w (aJ (RA S ws)) nt with
 |none =>
  have es:cI e w nt ws S=Tw S e w (aJ (RA S ws)) nt:=by unfold cI;rw[hf];rfl
  rw[es]
  have st:=Ff hb hE hw hx hf
  obtain⟨hp,Xp,Xt,Xv⟩:=hb.R7
  have one:∀(x:Int) (b:Bool),0<=x/\x<=2*(8 ^ k*W:Nat)->0<=x+(if b then cz S e w (aJ (RA S ws)) nt else 0)/\x+(if b then cz S e w (aJ (RA S ws)) nt else 0)<=(8 ^ (k+1)*W:Nat):=λx b h=>by
   rw[sy]
   generalize 8 ^ k*W=N at h st ⊢
   obtain⟨h1,h2⟩:=h
   obtain⟨s1,s2⟩:=st
   generalize cz S e w (aJ (RA S ws)) nt=y at s1 s2 ⊢
   cases b
   .rw[QU (by decide)];lia
   .rw[QO rfl];lia
  exact⟨hp,λp p0 p1=>one _ _ (Xp p p0 p1),λp p0 p1=>one _ _ (Xt p p0 p1),λv v0 v1=>one _ _ (Xv v v0 v1)⟩
 |some a =>
  have es:cI e w nt ws S=Sy S e a:=by unfold cI;rw[hf]
  rw[es]
  obtain⟨⟨a0,a1⟩,b,_⟩:=ub hf
  obtain⟨⟨x0,x1⟩,y0,y1⟩:=hE a a0 a1
  have px:=hr.ok.T1 _ x0 x1
  have py:=hr.ok.T1 _ y0 y1
  refine⟨⟨hb.pa.1,?_⟩,λp p0 p1=>?_,λp p0 p1=>?_,λv v0 v1=>?_⟩
  .have:2 ^ k<=2 ^ (k+1):=Oa (by decide) (by lia)
   have:=hb.pa.2
   show S.pa<=_
   lia
  .have p1:p<((S.n+1:Nat):Int):=p1
   show 0<=(if p=(S.n:Int) then 0 else S.wd p)/\(if p=(S.n:Int) then 0 else S.wd p)<=_
   by_cases z:p=(S.n:Int)
   .rw[QO z];lia
   .rw[QU z]
    have:=hb.wd p p0 (by lia)
    lia
  .have p1:p<((S.n+1:Nat):Int):=p1
   show 0<=(if p=(S.n:Int) then S.pd (S.po (e a).1)+S.pd (S.po (e a).2) else S.pd p)/\(if p=(S.n:Int) then S.pd (S.po (e a).1)+S.pd (S.po (e a).2) else S.pd p)<=_
   by_cases z:p=(S.n:Int)
   .rw[QO z]
    have h1:=hb.pd _ px.1 px.2
    have h2:=hb.pd _ py.1 py.2
    rw[sy]
    lia
   .rw[QU z]
    have:=hb.pd p p0 (by lia)
    lia
  .have:=hb.ar v v0 v1
   show 0<=S.ar v/\S.ar v<=_
   lia
def Mg:8 ^ 210*10 ^ 30<DL.RN:=by decide +kernel
def Dq{k:Nat}(hk:k<=210)(hW:W<=10 ^ 30):8 ^ k*W<DL.RN/\2 ^ k<DL.RN:=by
 have h1:8 ^ k<=8 ^ 210:=Oa (by decide) hk
 have h2:2 ^ k<=8 ^ k:=QH (by decide) k
 have h3:8 ^ k*W<=8 ^ 210*10 ^ 30:=QF h1 hW
 have h4:8 ^ 210<=8 ^ 210*10 ^ 30:=Nat.le_mul_of_pos_right _ (by decide)
 have:=Mg
 exact⟨ND h3 this,ND (NG h2 (NG h1 h4)) this⟩
def Bd.up{S:PS}(h:Bd M W i S)(VO:i<=j):Bd M W j S:=by
 have p1:2 ^ i<=2 ^ j:=Oa (by decide) VO
 have p2:8 ^ i*W<=8 ^ j*W:=QB _ (Oa (by decide) VO)
 obtain⟨a,b,c,d⟩:=h
 generalize 8 ^ i*W=x at p2 b c d
 generalize he:8 ^ j*W=y at p2
 refine⟨⟨a.1,by have:=a.2;lia⟩,λp p0 p1=>?_,λp p0 p1=>?_,λp p0 p1=>?_⟩
 .have:=b p p0 p1;rw[he];lia
 .have:=c p p0 p1;rw[he];lia
 .have:=d p p0 p1;rw[he];lia
def Bd.sm{k:Nat}{S:PS}(h:Bd M W k S)(hk:k<=200)(hW:W<=10 ^ 30):Sm M S DL.RN/\Sm M (KX.R7 S) DL.RN:=by
 have b1:=Dq (k:=k) (W:=W) (by lia) hW
 have b2:=Dq (k:=k+1) (W:=W) (by lia) hW
 rw[sy]at b2
 obtain⟨hp,Xp,Xt,Xv⟩:=h.R7
 have q:=h.pa
 generalize 8 ^ k*W=N at b1 b2 Xp Xt Xv
 refine⟨⟨by lia,λp p0 p1=>?_,λp p0 p1=>?_,λp p0 p1=>?_⟩,⟨by lia,λp p0 p1=>?_,λp p0 p1=>?_,λp p0 p1=>?_⟩⟩
 .have:=Xp p p0 p1
  have e:(KX.R7 S).wd p=2*S.wd p:=rfl
  rw[e]at this
  lia
 .have:=Xt p p0 p1
  have e:(KX.R7 S).pd p=2*S.pd p:=rfl
  rw[e]at this
  lia
 .have:=Xv p p0 p1
  have e:(KX.R7 S).ar p=2*S.ar p:=rfl
  rw[e]at this
  lia
 .have:=Xp p p0 p1
  lia
 .have:=Xt p p0 p1
  lia
 .have:=Xv p p0 p1
  lia
def JB{C:U1}{S:PS}{m:Str}{G:Ql D->Qo Ev}{ga:DA}(h:f t=Qs r)(hr:r.d=oD C M ts wl S)(hm:aW m Sx=Qn)(hg:ga t=Qs rs)(hG:G (oD C M ts wl S::rs.map Ev.d)=Qs (.nw (xs.map D.int))):cj C m G f ga t=Qs (.nw (xs.map D.int)):=by
 unfold cj
 rw[h]
 simp only[MP]
 rw[hr]
 unfold oD
 simp only[hm,and_self,if_true]
 rw[hg]
 simp only[MP]
 refine pB ?_
 rw[M4,hr]
 exact hG
def JC{C:U1}{S:PS}{m:Str}{G:Ql D->Qo Ev}{ga:DA}{d:D}(h:f t=Qs r)(hr:r.d=oD C M ts wl S)(hm:aW m Sx=Qn)(hg:ga t=Qs rs)(hG:G (oD C M ts wl S::rs.map Ev.d)=Qs (.dn d)):cj C m G f ga t=Qs (.dn d):=by
 unfold cj
 rw[h]
 simp only[MP]
 rw[hr]
 unfold oD
 simp only[hm,and_self,if_true]
 rw[hg]
 simp only[MP]
 unfold aO
 rw[M4,hr]
 rw[show G (oD C M ts wl S::rs.map Ev.d)=_ from hG]
 show Qs (gD ((r::rs).all Ev.ok) (.dn d))=_
 unfold gD
 split<;>rfl
def we{C:U1}{S S':PS}{m:Str}{G:Ql D->Qo D}{ga:DA}(h:t[i]?=Qs (.dp (oD C M ts wl S)))(hm:aW m Sx=Qn)(hg:ga t=Qs rs)(hf:RB (rs.map Ev.d)=Qt)(hG:G (oD C M ts wl S::rs.map Ev.d)=Qs (oD C M ts wl S')):ie i C m G ga t=Qs (.nx (t.set i (.dp (oD C M ts wl S')))):=by
 unfold ie
 rw[hg]
 show kM t i C m G rs=_
 unfold kM
 rw[h]
 unfold oD
 simp only[hm,hf,and_self,if_true]
 have:G (.obj C Sx [.lst (ts.map pD),iL wl,.int S.pa,iL S.tk,fp S.n S.pt,fl S.n S.wd,fl S.n S.pd,fl M S.ar,fl M S.po]::rs.map Ev.d)=_:=hG
 rw[this]
 rfl
def oG(G:Ql Int)(s:Sl):Prop:=s=.dp (dT G)\/s=.val (.Rx G)
def Ex{s:Sl}(h:t[5]?=Qs s)(hs:oG G s):kZ (ae 5) t=Qs (!G.isEmpty):=by
 unfold kZ ae
 rw[h]
 rcases hs with z | z<;>subst z
 .show Qs (!(G.map kN).isEmpty)=_
  cases G<;>rfl
 .rfl
def Co{g:DS}{s:Sl}(h:t[5]?=Qs s)(hs:oG G s):k9 5 g t=g (t.set 5 (.val (.Rx G))):=by
 unfold k9
 rw[h]
 rcases hs with z | z<;>subst z
 .show oX 5 g t=_
  unfold oX
  rw[h]
  show(i9 (G.map kN) (G.map iz)).bind _=_
  rw[y6]
  rfl
 .show g t=_
  congr 1
  apply OL
  intro i
  rw[QT]
  by_cases e:5=i
  .subst e
   have:5<t.length:=(Nm.mp h).1
   rw[QO rfl,QO this,h]
  .rw[QU e]
def lr (hw:TJ M ts):iX M (aw ts) ts.length:=λa a0 a1=>by
 have:=hw.lt _ (lN a0 a1)
 lia
def DZ (hl:wl.length=n) (a0:0<=a)(a1:a<(n:Int)):aR wl a∈wl:=by
 unfold aR
 rw[M5,MR (by lia)]
 exact Oh _
structure Tz(M:Nat)(ts:List (Int×Int))(wl:List Int)(ws:List Eg):Prop where
 Uu:TJ M ts
 Ti:M<=9/\ts.length<=1000/\ws.length<=1000
 Yk:wl.length=ts.length
 ZA:∀x∈wl,0<=x/\x<=(10 ^ 20:Nat)
 UM:gc M ws
 all:∀w∈ws,Eqv (fJ (aw ts) ts.length) w.1 w.2
def Tz.wt (J:Tz M ts wl ws):∀a,0<=a->a<(ts.length:Int)->0<=aR wl a/\aR wl a<=((10 ^ 20:Nat):Int):=λa a0 a1=>J.ZA _ (DZ J.Yk a0 a1)
def Et{C:U1}(J:Tz M ts wl ws){k:Nat}(hk:k<=200){S:PS}(hr:Run M (aw ts) (aR wl) ts.length ws S)(hb:Bd M (10 ^ 20) k S)(hn:RA S ws≠[])(s0 s1 s3 s6:Sl){gs:Sl}(hg:oG (RA S ws) gs) :
  ∃Vy u6,oG (RA (cI (aw ts) (aR wl) ts.length ws S) ws) Vy/\uB C [s0,s1,.val (.lst (ws.map pD)),s3,.dp (oD C M ts wl S),gs,s6]=Qs (.nx [s0,s1,.val (.lst (ws.map pD)),s3,.dp (oD C M ts wl (cI (aw ts) (aR wl) ts.length ws S)),Vy,u6]):=by
 have hE:=lr J.Uu
 have mu0:=(wg (M:=M) (e:=aw ts) (w:=aR wl) (nt:=ts.length) (ws:=ws) J.Ti.1).2
 have tkl:S.tk.length<=36:=by have:=hr.Ti;lia
 have Sn:S.n<=45:=by have:=hr.ok.nM;have:=J.Ti.1;lia
 obtain⟨Z1,sm2⟩:=hb.sm hk (by decide)
 have ZC:∀x∈wl,0<=x/\x<10 ^ 30:=λx hx=>by
  have:=J.ZA x hx
  have e:((10 ^ 20:Nat):Int)=100000000000000000000:=by decide
  rw[e]at this
  lia
 let V:Sl:=.val (.lst (ws.map pD))
 let G:=RA S ws
 let t0:Th:=[s0,s1,V,s3,.dp (oD C M ts wl S),gs,s6]
 let t1:Th:=[s0,s1,V,s3,.dp (oD C M ts wl S),.val (.Rx G),s6]
 have ff:=oa (d:=(match dH S (aw ts) (aR wl) (aJ G) ts.length with | some a=>D.int a | none=>D.Ri)) (rs:=[.cl (.Rx G)]) (ga:=ag bJ ao) (m := "first_full") (G:=lC C) (f:=ae 4) (t:=t1) (r:=.tm (oD C M ts wl S)) (M:=M) (ts:=ts) (wl:=wl) (S:=S) rfl rfl (by decide +kernel) rfl (Lr J.Uu J.Ti.2.1 J.Yk ZC (MZ _) hr.ok.Vk Z1) (by split<;>rfl)
 have hx:=ue hr.ok hE J.all hn
 cases hf:dH S (aw ts) (aR wl) (aJ G) ts.length with
 |none =>
  rw[hf]at ff
  let t2:Th:=[s0,s1,V,s3,.dp (oD C M ts wl S),.val (.Rx G),.val .Ri]
  have E1:k9 5 (aM 6 (cj C "first_full" (lC C) bA fw)) t0=Qs (.nx t2):=by
   rw[Co (t:=t0) (G:=G) rfl hg]
   exact iW (i:=6) ff (by show 6<7;decide)
  have es:cI (aw ts) (aR wl) ts.length ws S=Tw S (aw ts) (aR wl) (aJ G) ts.length:=by
   unfold cI
   have:dH S (aw ts) (aR wl) (aJ (RA S ws)) ts.length=Qn:=hf
   rw[this]
   rfl
  rw[es]
  have E2:=we (t:=t2) (i:=4) (m := "halve_parts") (G:=qm C) (ga:=ao) (rs:=[]) (S:=S) (S':=R7 S) rfl (by decide +kernel) rfl rfl (K8 (by have:=J.Ti.1;lia) (by lia) (MZ _) Z1)
  let t3:Th:=[s0,s1,V,s3,.dp (oD C M ts wl (R7 S)),.val (.Rx G),.val .Ri]
  have okh:=hr.ok.R7
  have sl:=JB (xs:=gk (R7 S) (aw ts) (aR wl) (aJ G) ts.length) (rs:=[.cl (.Rx G)]) (ga:=ag bJ ao) (m := "steps_to_full") (G:=mZ C) (f:=ae 4) (t:=t3) (r:=.tm (oD C M ts wl (R7 S))) (M:=M) (ts:=ts) (wl:=wl) (S:=R7 S) rfl rfl (by decide +kernel) rfl (Fd J.Uu J.Ti.2.1 J.Yk ZC (MZ _) okh.Vk sm2)
  have sne:=(nE (w:=aR wl) hx).1
  have mn:=Lv (L:=gk (R7 S) (aw ts) (aR wl) (aJ G) ts.length) sl rfl (List.length_pos_iff.mpr sne)
  have zeK:∀p∈G,∃v,0<=v/\v<(M:Int)/\(R7 S).po v=p:=λp hp=>by
   obtain⟨w',X6,_,q⟩:=V0.mp hp
   obtain⟨⟨a0,a1⟩,b0,b1⟩:=J.UM w' X6
   rcases q with z | z
   .exact⟨w'.1,a0,a1,z.symm⟩
   .exact⟨w'.2,b0,b1,z.symm⟩
  have E3:=we (t:=t3) (i:=4) (m := "grow") (G:=qo C) (ga:=(ag bJ (ag (ai (kP dG) (ag (cj C "steps_to_full" (mZ C) bA fw) ao)) ao))) (rs:=[.cl (.Rx G),.cl (.int (cz S (aw ts) (aR wl) (aJ G) ts.length))]) (S:=R7 S) (S':=Tw S (aw ts) (aR wl) (aJ G) ts.length) rfl (by decide +kernel) (ui rfl (ui mn rfl)) rfl (La okh (AO NM) zeK)
  have c:aI (d2 jY cH gA) t2=Qs Qt:=rfl
  exact⟨.val (.Rx G),.val .Ri,.inr rfl,(aL E1).trans ((jn c rfl).trans ((aL E2).trans E3))⟩
 |some a =>
  rw[hf]at ff
  obtain⟨⟨a0,a1⟩,b,_⟩:=ub hf
  let t2:Th:=[s0,s1,V,s3,.dp (oD C M ts wl S),.val (.Rx G),.val (.int a)]
  have E1:k9 5 (aM 6 (cj C "first_full" (lC C) bA fw)) t0=Qs (.nx t2):=by
   rw[Co (t:=t0) (G:=G) rfl hg]
   exact iW (i:=6) ff (by show 6<7;decide)
  have es:cI (aw ts) (aR wl) ts.length ws S=Sy S (aw ts) a:=by
   unfold cI
   have:dH S (aw ts) (aR wl) (aJ (RA S ws)) ts.length=Qs a:=hf
   rw[this]
  rw[es]
  have E2:=we (t:=t2) (i:=4) (m := "take") (G:=ql C) (ga:=ag cH ao) (rs:=[.cl (.int a)]) (S:=S) (S':=Sy S (aw ts) a) rfl (by decide +kernel) rfl rfl (GW J.Uu (by have:=J.Ti.1;lia) (by lia) hr.ok (by lia) a0 a1)
  let t3:Th:=[s0,s1,V,s3,.dp (oD C M ts wl (Sy S (aw ts) a)),.val (.Rx G),.val (.int a)]
  have wt:(ai (aO (jF C)) (ag bA eY)) t3=Qs (.dn (dT (RA (Sy S (aw ts) a) ws))):=by
   rw[eG (rfl:ae 4 t3=Qs (.tm (oD C M ts wl (Sy S (aw ts) a)))) (rfl:ae 2 t3=Qs (.cl (.lst (ws.map pD))))]
   unfold aO
   rw[show jF C ([Ev.tm (oD C M ts wl (Sy S (aw ts) a)),.cl (.lst (ws.map pD))].map Ev.d)=_ from yQ (S:=Sy S (aw ts) a) J.UM J.Ti.2.2 (r:=.nw [])]
   rfl
  have E3:=pH (i:=5) wt (by simp[t3])
  have c:aI (d2 jY cH gA) t2=Qs Qf:=rfl
  exact⟨.dp (dT (RA (Sy S (aw ts) a) ws)),.val (.int a),.inl rfl,(aL E1).trans ((BQ c rfl).trans ((aL E2).trans E3))⟩
def Bl{C:U1}{M:Nat}{ts:Ql (Int×Int)}{wl:Ql Int}{ws:Ql Eg}(J:Tz M ts wl ws)(s0 s1 s3:Sl):∀(n k:Nat) (S:PS) (gs s6:Sl),k+n<=200->Run M (aw ts) (aR wl) ts.length ws S->Bd M (10 ^ 20) k S->ms M (aw ts) (aR wl) ts.length ws S<n->oG (RA S ws) gs ->
  ∃Vy u6,eF (kZ bJ) (uB C) n [s0,s1,.val (.lst (ws.map pD)),s3,.dp (oD C M ts wl S),gs,s6]=Qs (.nx [s0,s1,.val (.lst (ws.map pD)),s3,.dp (oD C M ts wl (gm (aw ts) (aR wl) ts.length ws n S)),Vy,u6])/\Bd M (10 ^ 20) 200 (gm (aw ts) (aR wl) ts.length ws n S)
 |0,k,S,gs,s6,_,_,_,h,_=>by lia
 |n+1,k,S,gs,s6,hk,hr,hb,hm,hg=>by
  have tr:=Ex (t:=[s0,s1,.val (.lst (ws.map pD)),s3,.dp (oD C M ts wl S),gs,s6]) (s:=gs) rfl hg
  unfold eF gm
  rw[tr]
  by_cases z:RA S ws=[]
  .rw[QO z,z]
   refine⟨gs,s6,rfl,?_⟩
   exact hb.up (by lia)
  .rw[QU z]
   have ne:(!(RA S ws).isEmpty)=Qt:=by
    cases q:RA S ws with
    |nil=>exact absurd q z
    |cons _ _=>rfl
   rw[ne]
   obtain⟨Vy,u6,hg',e⟩:=Et (C:=C) J (by lia:k<=200) hr hb z s0 s1 s3 s6 hg
   obtain⟨r2,m2⟩:=hr.step (lr J.Uu) J.all z
   have b2:=hb.step hr (lr J.Uu) J.wt J.all z
   obtain⟨RZ,v6,e2,b3⟩:=Bl J s0 s1 s3 n (k+1) _ Vy u6 (by lia) r2 b2 (by lia) hg'
   refine⟨RZ,v6,?_,b3⟩
   simp only[MP,if_true]
   rw[e]
   exact e2
def fG(M:Nat)(ts:Ql (Int×Int))(wl:Ql Int)(ws:Ql Eg):PS:=gm (aw ts) (aR wl) ts.length ws 200 (PS.new M)
def hX(M:Nat)(ts:Ql (Int×Int))(wl:Ql Int)(ws:Ql Eg):Ql Int:=md (aw ts) ws (fG M ts wl ws).tk
def fT(M:Nat)(ts:Ql (Int×Int))(wl:Ql Int)(ws:Ql Eg):Ql (Ql Int×(Int×Int)):=jV (fG M ts wl ws)
def wM(M:Nat)(ts:Ql (Int×Int))(wl:Ql Int)(ws:Ql Eg):D:=.tup [iL (hX M ts wl ws),.lst ((fT M ts wl ws).map bO)]
def xK(ts:Ql (Int×Int)):cu ts (aj ts.length)=fJ (aw ts) ts.length:=rfl
def Tz.zcJ (J:Tz M ts wl ws):fF (ll (cu ts (aj ts.length))) 0 ws=Qn:=by
 rw[xy]
 intro w hw
 have k:∀e∈cu ts (aj ts.length),0<=e.1/\0<=e.2:=λe he=>by
  obtain⟨a,ha,rfl⟩:=Ny.mp he
  have ra:=dm ha
  have:=lr J.Uu a ra.1 ra.2
  lia
 exact((J6 k).iff _ _).mpr (by rw[xK];exact J.all w hw)
def Kw{C:U1}(J:Tz M ts wl ws):gU C [wD M ts,iL wl,.lst (ws.map pD)]=Qs (.dn (wM M ts wl ws)):=by
 let W:Sl:=.val (wD M ts)
 let U:Sl:=.val (iL wl)
 let V:Sl:=.val (.lst (ws.map pD))
 let S:=fG M ts wl ws
 have hM:=J.Ti.1
 have rN:∀l∈aj ts.length,0<=l/\l<(ts.length:Int):=λl hl=>dm hl
 let t0:Th:=[W,U,V,.no,.no,.no,.no]
 have el:(ai bV (ag (d2 az av bT) ao)) t0=Qs (.cl (.int (ts.length:Int))):=by
  rw[gX (lJ (i:=0) (t:=t0) rfl)]
  unfold bV
  simp[Ev.d]
 have e1:(ai (aO iq) (ag av (ag aQ (ag (ig (ag (ai bV (ag (d2 az av bT) ao)) ao)) ao)))) t0=Qs (.cl .Ri):=by
  rw[kn (rfl:ae 0 t0=Qs (.cl (wD M ts))) (rfl:ae 2 t0=Qs (.cl (.lst (ws.map pD)))) (sZ el J.Ti.2.1)]
  refine mR (d:=.Ri) ?_ rfl
  have:=Aw (by lia) J.Uu J.UM rN
  rw[J.zcJ]at this
  exact this
 have E1:=iW (i:=3) e1 (by simp[t0])
 let t1:Th:=[W,U,V,.val .Ri,.no,.no,.no]
 have E2:(bY (aI (d2 tG bE gA)) xR cM) t1=Qs (.nx t1):=gu (rfl:_=Qs Qf) rfl
 have e3:(ai (ot C (m4 C)) lH) t1=Qs (.dn (oD C M ts wl (PS.new M))):=by
  rw[eG (rfl:ae 0 t1=Qs (.cl (wD M ts))) (rfl:ae 1 t1=Qs (.cl (iL wl)))]
  show(if Qt=Qt then(m4 C [.obj C [] [],wD M ts,iL wl]).map Ev.dn else Qn)=_
  rw[QO rfl,KO (by lia)]
  rfl
 have E3:=pH (i:=4) e3 (by simp[t1])
 let t2:Th:=[W,U,V,.val .Ri,.dp (oD C M ts wl (PS.new M)),.no,.no]
 have e4:(ai (aO (jF C)) (ag bA eY)) t2=Qs (.dn (dT (RA (PS.new M) ws))):=by
  rw[eG (rfl:ae 4 t2=Qs (.tm (oD C M ts wl (PS.new M)))) (rfl:ae 2 t2=Qs (.cl (.lst (ws.map pD))))]
  unfold aO
  rw[show jF C ([Ev.tm (oD C M ts wl (PS.new M)),.cl (.lst (ws.map pD))].map Ev.d)=_ from yQ (S:=PS.new M) J.UM J.Ti.2.2 (r:=.nw [])]
  rfl
 have E4:=pH (i:=5) e4 (by simp[t2])
 have zbB:∀a,0<=a->a<(ts.length:Int)->0<=aR wl a:=λa a0 a1=>(J.wt a a0 a1).1
 have r0:Run M (aw ts) (aR wl) ts.length ws (PS.new M):=Run.new zbB
 have m0:=(wg (M:=M) (e:=aw ts) (w:=aR wl) (nt:=ts.length) (ws:=ws) hM)
 obtain⟨Vy,u6,e5,bd⟩:=Bl (C:=C) J W U (.val .Ri) 200 0 (PS.new M) (.dp (dT (RA (PS.new M) ws))) .no (by lia) r0 Bd.new (by lia) (.inl rfl)
 have E5:(iO (λ_=>200) (kZ bJ) (uB C)) [W,U,V,.val .Ri,.dp (oD C M ts wl (PS.new M)),.dp (dT (RA (PS.new M) ws)),.no]=Qs (.nx [W,U,V,.val .Ri,.dp (oD C M ts wl S),Vy,u6]):=e5
 obtain⟨_,re⟩:=vk (lr J.Uu) J.all 200 (PS.new M) r0 (by lia)
 have tkl:S.tk.length<=36:=by have:S.tk.length+mu M S<=mu M (PS.new M):=re.Ti;lia
 have Sn:S.n<=45:=by have:S.n=M+S.tk.length:=re.ok.nM;lia
 let t5:Th:=[W,U,V,.val .Ri,.dp (oD C M ts wl S),Vy,u6]
 obtain⟨q,a1,b1⟩:=Jm (f:=ae 4) (t:=t5) (r:=.tm (oD C M ts wl S)) (M:=M) (ts:=ts) (wl:=wl) (S:=S) rfl rfl
 have e6:(ai (aO il) (ag av (ag aQ (ag (d1 (aH C "taken") bA) ao)))) t5=Qs (.nw ((hX M ts wl ws).map D.int)):=by
  rw[kn (rfl:ae 0 t5=Qs (.cl (wD M ts))) (rfl:ae 2 t5=Qs (.cl (.lst (ws.map pD)))) a1]
  refine pB ?_
  show il [wD M ts,.lst (ws.map pD),q.d]=_
  rw[b1]
  exact Jt (by lia) J.Uu J.UM re.ok.W5 (by lia) (r:=.nw [])
 have e7:=JC (d:=.lst ((jV S).map bO)) (rs:=[]) (ga:=ao) (m := "moats") (G:=gV C) (f:=ae 4) (t:=t5) (r:=.tm (oD C M ts wl S)) (M:=M) (ts:=ts) (wl:=wl) (S:=S) rfl rfl (by decide +kernel) rfl (JI re.ok (by lia) (MZ _) (bd.sm (MZ _) (by decide)).1)
 have E6:(oU (oe (fQ (eL (ai (aO il) (ag av (ag aQ (ag (d1 (aH C "taken") bA) ao))))) (fQ (eL (cj C "moats" (gV C) bA ao)) jW)))) t5=Qs (.rt (.dn (wM M ts wl ws))):=by
  have n1:(eL (ai (aO il) (ag av (ag aQ (ag (d1 (aH C "taken") bA) ao))))) t5=Qs (iL (hX M ts wl ws),t5):=by
   unfold eL
   rw[e6]
   show(if RB ((hX M ts wl ws).map D.int) then Qs (D.lst ((hX M ts wl ws).map D.int)) else Qn).map _=_
   rw[Ss]
   rfl
  have n2:(eL (cj C "moats" (gV C) bA ao)) t5=Qs (.lst ((fT M ts wl ws).map bO),t5):=by
   unfold eL
   rw[e7]
   rfl
  have n3:(fQ (eL (cj C "moats" (gV C) bA ao)) jW) t5=Qs ([.lst ((fT M ts wl ws).map bO)],t5):=by
   unfold fQ
   rw[n2]
   rfl
  have n4:(fQ (eL (ai (aO il) (ag av (ag aQ (ag (d1 (aH C "taken") bA) ao))))) (fQ (eL (cj C "moats" (gV C) bA ao)) jW)) t5=Qs ([iL (hX M ts wl ws),.lst ((fT M ts wl ws).map bO)],t5):=by
   rw[show(fQ (eL (ai (aO il) (ag av (ag aQ (ag (d1 (aH C "taken") bA) ao))))) (fQ (eL (cj C "moats" (gV C) bA ao)) jW)) t5=((eL (ai (aO il) (ag av (ag aQ (ag (d1 (aH C "taken") bA) ao))))) t5).bind λq=>((fQ (eL (cj C "moats" (gV C) bA ao)) jW) q.2).bind λw=>Qs (q.1::w.1,w.2) from rfl,n1]
   show((fQ (eL (cj C "moats" (gV C) bA ao)) jW) t5).bind _=_
   rw[n3]
   rfl
  unfold oU oe
  rw[n4]
  rfl
 show(xj C t0).bind dD=_
 exact RN ((aL E1).trans ((aL E2).trans ((aL E3).trans ((aL E4).trans ((aL E5).trans E6)))))
def bG(M d:Nat)(p:Int):Int:=if p<(M:Int) then p else p+(d:Int)
def lR{d:Nat}{q:Int}(h:bG M d p=bG M d q):p=q:=by
 unfold bG at h
 split at h<;>split at h<;>lia
def zp{d:Nat}{q:Int}(h0:(M:Int)<=q)(h1:q<(M:Int)+(d:Int)):bG M d p≠q:=by unfold bG;split<;>lia
def pN(ws Ry:Ql Eg):Prop := ∀w:Eg,w.1≠w.2->(w∈ws↔w∈Ry)
def MB(M:Nat)(ws:Ql Eg):Prop := ∀w∈ws,w.1≠w.2->(0<=w.1/\w.1<(M:Int))/\0<=w.2/\w.2<(M:Int)
structure Sg(M d:Nat)(m:Int)(S S':PS):Prop where
 n:S'.n=S.n+d
 pa:S'.pa=S.pa
 tk:S'.tk=S.tk
 pt:∀p,0<=p->p<(S.n:Int)->S'.pt (bG M d p)=S.pt p
 wd:∀p,0<=p->p<(S.n:Int)->S'.wd (bG M d p)=m*S.wd p
 pd:∀p,0<=p->p<(S.n:Int)->S'.pd (bG M d p)=m*S.pd p
 ar:∀v,0<=v->v<(M:Int)->S'.ar v=m*S.ar v
 po:∀v,0<=v->v<(M:Int)->S'.po v=bG M d (S.po v)
 no:∀p,(M:Int)<=p->p<(M:Int)+(d:Int)->S'.wd p=0
def Sg.new(M d:Nat)(m:Int):Sg M d m (PS.new M) (PS.new (M+d)) where
 n:=rfl
 pa:=rfl
 tk:=rfl
 pt:=λp p0 p1=>by
  have p1:p<(M:Int):=p1
  show[bG M d p]=[p]
  unfold bG
  rw[QO p1]
 wd:=λp _ _=>by show(0:Int)=m*0;rw[Pb]
 pd:=λp _ _=>by show(0:Int)=m*0;rw[Pb]
 ar:=λp _ _=>by show(0:Int)=m*0;rw[Pb]
 po:=λv v0 v1=>by
  show v=bG M d v
  unfold bG
  rw[QO v1]
 no:=λ_ _ _=>rfl
structure T8(M d:Nat)(m:Int)(e:Int->Eg)(w w':Int->Int)(nt:Nat)(ws Ry:List Eg):Prop where
 m0:0<m
 Xo:iX M e nt
 wt:∀a,0<=a->a<(nt:Int)->w' a=m*w a
 same:pN ws Ry
 Xn:MB M ws
def Sg.RA{M d:Nat}{m:Int}{e:Int->Eg}{w w':Int->Int}{nt:Nat}{ws Ry:Ql Eg}{S S':PS}(T:T8 M d m e w w' nt ws Ry)(h:Sg M d m S S'){p:Int}:bG M d p∈RA S' Ry↔p∈RA S ws:=by
 rw[V0,V0]
 constructor
 .rintro⟨x,hx,ne,r⟩
  have n1:x.1≠x.2:=λz=>ne (by rw[z])
  have Vn:=(T.same x n1).mpr hx
  obtain⟨⟨a0,a1⟩,b0,b1⟩:=T.Xn x Vn n1
  rw[h.po _ a0 a1,h.po _ b0 b1]at ne r
  exact⟨x,Vn,λz=>ne (by rw[z]),r.imp lR lR⟩
 .rintro⟨x,hx,ne,r⟩
  have n1:x.1≠x.2:=λz=>ne (by rw[z])
  obtain⟨⟨a0,a1⟩,b0,b1⟩:=T.Xn x hx n1
  refine⟨x,(T.same x n1).mp hx,?_,?_⟩
  .rw[h.po _ a0 a1,h.po _ b0 b1]
   exact λz=>ne (lR z)
  .rw[h.po _ a0 a1,h.po _ b0 b1]
   exact r.imp (λz=>by rw[z]) λz=>by rw[z]
def Sg.zbC{d:Nat}{S S':PS}(T:T8 M d m e w w' nt ws Ry)(h:Sg M d m S S') (p0:(M:Int)<=p)(p1:p<(M:Int)+(d:Int)):p∉KX.RA S' Ry:=λhp=>by
 obtain⟨x,hx,ne,r⟩:=V0.mp hp
 have n1:x.1≠x.2:=λz=>ne (by rw[z])
 obtain⟨⟨a0,a1⟩,b0,b1⟩:=T.Xn x ((T.same x n1).mpr hx) n1
 rw[h.po _ a0 a1,h.po _ b0 b1]at r
 rcases r with z | z
 .exact zp p0 p1 z.symm
 .exact zp p0 p1 z.symm
def Sg.zae{d:Nat}{S S':PS}(T:T8 M d m e w w' nt ws Ry)(h:Sg M d m S S'):KX.RA S' Ry=[]↔KX.RA S ws=[]:=by
 rw[Yj,Yj]
 constructor
 .intro k x hx
  by_cases z:x.1=x.2
  .rw[z]
  .obtain⟨⟨a0,a1⟩,b0,b1⟩:=T.Xn x hx z
   have:=k x ((T.same x z).mp hx)
   rw[h.po _ a0 a1,h.po _ b0 b1]at this
   exact lR this
 .intro k x hx
  by_cases z:x.1=x.2
  .rw[z]
  .have Vn:=(T.same x z).mpr hx
   obtain⟨⟨a0,a1⟩,b0,b1⟩:=T.Xn x Vn z
   rw[h.po _ a0 a1,h.po _ b0 b1,k x Vn]
def pU(M d:Nat)(g g':Int->Bool):Prop:=(∀p,g' (bG M d p)=g p)/\∀p,(M:Int)<=p->p<(M:Int)+(d:Int)->g' p=Qf
def Sg.grl{d:Nat}{S S':PS}(T:T8 M d m e w w' nt ws Ry)(h:Sg M d m S S'):pU M d (aJ (KX.RA S ws)) (aJ (KX.RA S' Ry)) :=
 ⟨λp=>by unfold aJ;exact decide_eq_decide.mpr (h.RA T),λp p0 p1=>by unfold aJ;exact Su (h.zbC T p0 p1)⟩
def Sg.RD{M d:Nat}{m:Int}{e:Int->Eg}{w w':Int->Int}{nt:Nat}{ws Ry:Ql Eg}{S S':PS}(T:T8 M d m e w w' nt ws Ry)(h:Sg M d m S S'){g g':Int->Bool}(hg:pU M d g g'){a:Int}(a0:0<=a)(a1:a<(nt:Int)):KX.RD S' e g' a=KX.RD S e g a:=by
 obtain⟨⟨x0,x1⟩,y0,y1⟩:=T.Xo a a0 a1
 unfold KX.RD
 rw[h.po _ x0 x1,h.po _ y0 y1,hg.1,hg.1]
 by_cases z:S.po (e a).1=S.po (e a).2
 .rw[QO z,QO (by rw[z])]
 .rw[QU z,QU λy=>z (lR y)]
def Sg.RV{M d:Nat}{m:Int}{e:Int->Eg}{w w':Int->Int}{nt:Nat}{ws Ry:Ql Eg}{S S':PS}(T:T8 M d m e w w' nt ws Ry)(h:Sg M d m S S'){a:Int}(a0:0<=a)(a1:a<(nt:Int)):KX.RV S' e w' a=m*KX.RV S e w a:=by
 obtain⟨⟨x0,x1⟩,y0,y1⟩:=T.Xo a a0 a1
 unfold KX.RV
 rw[h.ar _ x0 x1,h.ar _ y0 y1,T.wt a a0 a1,h.pa,S5,S5,Qe]
def CC{α:Type}{p q:α->Bool}:∀{l:Ql α},(∀x∈l,p x=q x)->l.find? p=l.find? q
 |[],_=>rfl
 |x::l,h=>by
  rw[Oq,Oq,h x (MN ..),CC λy hy=>h y (MM _ hy)]
def Sg.fst{d:Nat}{S S':PS}(T:T8 M d m e w w' nt ws Ry)(h:Sg M d m S S'){g':Int->Bool}(hg:pU M d g g'):dH S' e w' g' nt=dH S e w g nt:=by
 unfold dH
 refine CC λa ha=>?_
 obtain⟨a0,a1⟩:=dm ha
 unfold jq
 rw[h.RD T hg a0 a1,h.RV T a0 a1]
 congr 1
 refine decide_eq_decide.mpr ?_
 have m0:=T.m0
 constructor
 .intro z
  by_cases c:KX.RV S e w a<=0
  .exact c
  .have:=S6 m0 (show 0<KX.RV S e w a by lia)
   lia
 .intro z
  have:=NZ z (NR m0)
  rw[Pb]at this
  exact this
def AR{y:Int}(b0:0<b)(h:b*x<=b*y):x<=y:=Int.le_of_mul_le_mul_left h b0
def Sg.stq{d:Nat}{S S':PS}(T:T8 M d m e w w' nt ws Ry)(h:Sg M d m S S'){g':Int->Bool}(hg:pU M d g g')(Uo:∃a,(0<=a/\a<(nt:Int))/\0<KX.RD S e g a):cz S' e w' g' nt=m*cz S e w g nt:=by
 have zdp:∃a,(0<=a/\a<(nt:Int))/\0<KX.RD S' e g' a:=by
  obtain⟨a,r,b⟩:=Uo
  exact⟨a,r,by rw[h.RD T hg r.1 r.2];exact b⟩
 obtain⟨_,a,ra,ba,qa⟩:=nE (w:=w) Uo
 obtain⟨_,c,rc,bc,qc⟩:=nE (w:=w') zdp
 have l1:=qO (w:=w') ra.1 ra.2 (show 0<KX.RD S' e g' a by rw[h.RD T hg ra.1 ra.2];exact ba)
 rw[h.RD T hg rc.1 rc.2]at bc qc
 have l2:=qO (w:=w) rc.1 rc.2 bc
 rw[h.RD T hg ra.1 ra.2,h.RV T ra.1 ra.2]at l1
 rw[h.RV T rc.1 rc.2]at qc
 refine Int.le_antisymm (AR ba ?_) (AR bc ?_)
 .have e1:KX.RD S e g a*(m*cz S e w g nt)=m*(2*KX.RV S e w a):=by
   rw[<-qa,O3]
  have e2:m*(2*KX.RV S e w a)=2*(m*KX.RV S e w a):=O3 _ _ _
  rw[e1,e2]
  exact l1
 .have e1:KX.RD S e g c*(m*cz S e w g nt)=m*(KX.RD S e g c*cz S e w g nt):=O3 _ _ _
  have e2:m*(2*KX.RV S e w c)=2*(m*KX.RV S e w c):=O3 _ _ _
  rw[e1,qc, <-e2]
  exact NZ l2 (NR T.m0)
def Sg.Tw{M d:Nat}{m:Int}{e:Int->Eg}{w w':Int->Int}{nt:Nat}{ws Ry:Ql Eg}{S S':PS}(T:T8 M d m e w w' nt ws Ry)(h:Sg M d m S S'){g g':Int->Bool}(hg:pU M d g g')(Uo:∃a,(0<=a/\a<(nt:Int))/\0<KX.RD S e g a):Sg M d m (KX.Tw S e w g nt) (KX.Tw S' e w' g' nt):=by
 have st:=h.stq T hg Uo
 have one:∀(x:Int) (b:Bool),2*(m*x)+(if b then m*cz S e w g nt else 0)=m*(2*x+(if b then cz S e w g nt else 0)):=λx b=>by
  rw[S7,O3 m 2 x]
  cases b
  .simp
  .simp
 refine⟨h.n,?_,h.tk,h.pt,λp p0 p1=>?_,λp p0 p1=>?_,λv v0 v1=>?_,h.po,λp p0 p1=>?_⟩
 .show S'.pa*2=S.pa*2
  rw[h.pa]
 .show 2*S'.wd (bG M d p)+(if g' (bG M d p) then cz S' e w' g' nt else 0)=m*(2*S.wd p+(if g p then cz S e w g nt else 0))
  rw[hg.1,st,h.wd p p0 p1,one]
 .show 2*S'.pd (bG M d p)+(if g' (bG M d p) then cz S' e w' g' nt else 0)=m*(2*S.pd p+(if g p then cz S e w g nt else 0))
  rw[hg.1,st,h.pd p p0 p1,one]
 .show 2*S'.ar v+(if g' (S'.po v) then cz S' e w' g' nt else 0)=m*(2*S.ar v+(if g (S.po v) then cz S e w g nt else 0))
  rw[h.po v v0 v1,hg.1,st,h.ar v v0 v1,one]
 .show 2*S'.wd p+(if g' p then cz S' e w' g' nt else 0)=0
  rw[hg.2 p p0 p1,h.no p p0 p1]
  rfl
def Sg.Sy{M d:Nat}{m:Int}{e:Int->Eg}{w w':Int->Int}{nt:Nat}{ws Ry:Ql Eg}{S S':PS}(T:T8 M d m e w w' nt ws Ry)(h:Sg M d m S S')(hO:Ok M e w nt S){a:Int}(a0:0<=a)(a1:a<(nt:Int)):Sg M d m (KX.Sy S e a) (KX.Sy S' e a):=by
 obtain⟨⟨x0,x1⟩,y0,y1⟩:=T.Xo a a0 a1
 have px:=hO.T1 _ x0 x1
 have py:=hO.T1 _ y0 y1
 have nM:=hO.nM
 have ej:cB S' e a=cB S e a:=by
  unfold cB
  rw[h.po _ x0 x1,h.po _ y0 y1,h.pt _ px.1 px.2,h.pt _ py.1 py.2]
 have sn:bG M d (S.n:Int)=(S'.n:Int):=by
  unfold bG
  rw[QU (by lia),h.n]
  lia
 have cs:∀p,bG M d p=(S'.n:Int)↔p=(S.n:Int):=λp=>by
  rw[<-sn]
  exact⟨lR,λz=>by rw[z]⟩
 refine⟨?_,h.pa,?_,λp p0 p1=>?_,λp p0 p1=>?_,λp p0 p1=>?_,h.ar,λv v0 v1=>?_,λp p0 p1=>?_⟩
 .show S'.n+1=S.n+1+d
  rw[h.n]
  lia
 .show S'.tk++[a]=S.tk++[a]
  rw[h.tk]
 .have p1:p<((S.n+1:Nat):Int):=p1
  show(if bG M d p=(S'.n:Int) then cB S' e a else S'.pt (bG M d p))=(if p=(S.n:Int) then cB S e a else S.pt p)
  by_cases z:p=(S.n:Int)
  .rw[QO z,QO ((cs p).mpr z),ej]
  .rw[QU z,QU λy=>z ((cs p).mp y)]
   exact h.pt p p0 (by lia)
 .have p1:p<((S.n+1:Nat):Int):=p1
  show(if bG M d p=(S'.n:Int) then 0 else S'.wd (bG M d p))=m*(if p=(S.n:Int) then 0 else S.wd p)
  by_cases z:p=(S.n:Int)
  .rw[QO z,QO ((cs p).mpr z),Pb]
  .rw[QU z,QU λy=>z ((cs p).mp y)]
   exact h.wd p p0 (by lia)
 .have p1:p<((S.n+1:Nat):Int):=p1
  show(if bG M d p=(S'.n:Int) then S'.pd (S'.po (e a).1)+S'.pd (S'.po (e a).2) else S'.pd (bG M d p))=m*(if p=(S.n:Int) then S.pd (S.po (e a).1)+S.pd (S.po (e a).2) else S.pd p)
  by_cases z:p=(S.n:Int)
  .rw[QO z,QO ((cs p).mpr z),h.po _ x0 x1,h.po _ y0 y1,h.pd _ px.1 px.2,h.pd _ py.1 py.2,S7]
  .rw[QU z,QU λy=>z ((cs p).mp y)]
   exact h.pd p p0 (by lia)
 .show(if v∈cB S' e a then(S'.n:Int) else S'.po v)=bG M d (if v∈cB S e a then(S.n:Int) else S.po v)
  rw[ej]
  by_cases z:v∈cB S e a
  .rw[QO z,QO z,sn]
  .rw[QU z,QU z]
   exact h.po v v0 v1
 .show(if p=(S'.n:Int) then 0 else S'.wd p)=0
  split
  .rfl
  .exact h.no p p0 p1
def Sg.step{d:Nat}{S S':PS}(T:T8 M d m e w w' nt ws Ry)(h:Sg M d m S S')(hO:Ok M e w nt S)(hw:∀w∈ws,Eqv (fJ e nt) w.1 w.2)(hn:KX.RA S ws≠[]):Sg M d m (cI e w nt ws S) (cI e w' nt Ry S'):=by
 have hg:=h.grl T
 have ef:=h.fst T hg
 cases hf:dH S e w (aJ (KX.RA S ws)) nt with
 |none =>
  rw[hf]at ef
  have e1:cI e w nt ws S=KX.Tw S e w (aJ (KX.RA S ws)) nt:=by unfold cI;rw[hf];rfl
  have e2:cI e w' nt Ry S'=KX.Tw S' e w' (aJ (KX.RA S' Ry)) nt:=by unfold cI;rw[ef];rfl
  rw[e1,e2]
  exact h.Tw T hg (ue hO T.Xo hw hn)
 |some a =>
  rw[hf]at ef
  have e1:cI e w nt ws S=KX.Sy S e a:=by unfold cI;rw[hf]
  have e2:cI e w' nt Ry S'=KX.Sy S' e a:=by unfold cI;rw[ef]
  rw[e1,e2]
  obtain⟨⟨a0,a1⟩,_,_⟩:=ub hf
  exact h.Sy T hO a0 a1
def Sg.run{M d:Nat}{m:Int}{e:Int->Eg}{w w':Int->Int}{nt:Nat}{ws Ry:Ql Eg}(T:T8 M d m e w w' nt ws Ry)(hw:∀w∈ws,Eqv (fJ e nt) w.1 w.2):∀(k:Nat) {S S':PS},Sg M d m S S'->Run M e w nt ws S->Sg M d m (gm e w nt ws k S) (gm e w' nt Ry k S')
 |0,S,S',h,_=>h
 |k+1,S,S',h,r=>by
  unfold gm
  by_cases z:KX.RA S ws=[]
  .rw[QO z,QO ((h.zae T).mpr z)]
   exact h
  .rw[QU z,QU λy=>z ((h.zae T).mp y)]
   exact Sg.run T hw k (h.step T r.ok hw z) (r.step T.Xo hw z).1
def Lh(A B K:Nat)(hB:0<B):(A / NU A B*K) / NU (A / NU A B*K) (B / NU A B)=(K*A) / NU (K*A) B/\(B / NU A B) / NU (A / NU A B*K) (B / NU A B)=B / NU (K*A) B:=by
 have g0:0<NU A B:=OK _ hB
 obtain⟨a,ha⟩:=Nat.gcd_dvd_left A B
 obtain⟨b,hb⟩:=Nat.gcd_dvd_right A B
 generalize NU A B=g at *
 have e1:A / g=a:=by rw[ha];exact P8 _ g0
 have e2:B / g=b:=by rw[hb];exact P8 _ g0
 rw[e1,e2]
 have e3:K*A=g*(a*K):=by rw[ha,Nat.mul_left_comm,Qu K a]
 rw[e3]
 subst hb
 rw[Nat.gcd_mul_left,QC _ _ g0,QC _ _ g0]
 exact⟨rfl,rfl⟩
def Cs (a0:0<=a)(b0:0<b)(m0:0<m):cq ((cq a b).1*m) (cq a b).2=cq (m*a) b:=by
 obtain⟨A,rfl⟩:=N9 a0
 obtain⟨B,rfl⟩:=N9 (NR b0)
 obtain⟨K,rfl⟩:=N9 (NR m0)
 have k:=Lh A B K (by lia)
 have t1:(((A:Int).toNat / NU (A:Int).toNat (B:Int).toNat:Nat):Int)*(K:Int)=((A / NU A B*K:Nat):Int):=by rw[N7,N7];push_cast;rfl
 have t2:(K:Int)*(A:Int)=((K*A:Nat):Int):=by push_cast;rfl
 unfold cq
 rw[t1,t2]
 simp only[N7]
 rw[k.1,k.2]
def ja(m:Int)(x:Ql Int×(Int×Int)):Ql Int×(Int×Int):=(x.1,cq (x.2.1*m) x.2.2)
def sQ(a:Nat):∀b:Nat,aj (a+b)=aj a++(aj b).map λi=>i+(a:Int)
 |0=>by simp[aj]
 |b+1=>by
  rw[<-RM,sP,sQ a b,sP b,Od,Nv]
  congr 2
  show[((a+b:Nat):Int)]=[(b:Int)+(a:Int)]
  congr 1
  lia
def CD{d:Nat}{S S':PS}(h:Sg M d m S S')(m0:0<m) (hL:∀p∈L,0<=p/\p<(S.n:Int)):(L.map (bG M d)).filter (λp=>decide (0<S'.wd p))=(L.filter λp=>decide (0<S.wd p)).map (bG M d):=by
 rw[List.filter_map]
 congr 1
 refine List.filter_congr λp hp=>?_
 obtain⟨p0,p1⟩:=hL p hp
 show decide (0<S'.wd (bG M d p))=decide (0<S.wd p)
 rw[h.wd p p0 p1]
 refine decide_eq_decide.mpr ⟨λz=>?_,λz=>S6 m0 z⟩
 by_cases c:0<S.wd p
 .exact c
 .have:=NZ (show S.wd p<=0 by lia) (NR m0)
  rw[Pb]at this
  lia
def Ea{d:Nat}{S S':PS}(h:Sg M d m S S')(m0:0<m)(hn:M<=S.n):wide S'=(wide S).map (bG M d):=by
 obtain⟨k,hk⟩:=Nat.exists_eq_add_of_le hn
 unfold wide
 have e1:S'.n=M+d+k:=by rw[h.n];lia
 have n1:aj M=(aj M).map (bG M d):=by
  refine((Pu (aj M)).symm).trans (Nw λp hp=>?_)
  show p=bG M d p
  unfold bG
  rw[QO (dm hp).2]
 have n2:(aj k).map (λi=>i+((M+d:Nat):Int))=((aj k).map λi=>i+(M:Int)).map (bG M d):=by
  rw[Nk]
  refine Nw λi hi=>?_
  have:=dm hi
  show i+((M+d:Nat):Int)=bG M d (i+(M:Int))
  unfold bG
  rw[QU (by lia)]
  lia
 have n3:((aj d).map λi=>i+(M:Int)).filter (λp=>decide (0<S'.wd p))=[]:=by
  refine List.filter_eq_nil_iff.mpr λp hp=>?_
  obtain⟨i,hi,rfl⟩:=Ny.mp hp
  have:=dm hi
  rw[h.no _ (by lia) (by lia)]
  simp
 have eS:aj S'.n=((aj M).map (bG M d)++((aj d).map λi=>i+(M:Int)))++((aj k).map λi=>i+(M:Int)).map (bG M d):=by
  rw[e1,sQ (M+d) k,sQ M d,n2, <-n1]
 rw[eS,P0,P0,n3,Nt,hk,sQ M k,P0,Od]
 rw[CD h m0 (λp hp=>by have:=dm hp;lia),CD h m0 (λp hp=>by
  obtain⟨i,hi,rfl⟩:=Ny.mp hp
  have:=dm hi
  lia)]
def JJ{d:Nat}{S S':PS}(h:Sg M d m S S')(m0:0<m)(hn:M<=S.n)(hw:∀p,0<=p->p<(S.n:Int)->0<=S.wd p)(hp:0<S.pa):jV S'=(jV S).map (ja m):=by
 unfold jV
 rw[Ea h m0 hn,Nk]
 have e:(wide S).map ((λp=>(S'.pt p,cq (S'.wd p) S'.pa)) ∘ bG M d)=((wide S).map λp=>(S.pt p,cq (S.wd p) S.pa)).map λw=>(w.1,cq (w.2.1*m) w.2.2):=by
  rw[Nk]
  refine Nw λp hpw=>?_
  obtain⟨p0,p1⟩:=dm (N1.mp hpw).1
  show(S'.pt (bG M d p),cq (S'.wd (bG M d p)) S'.pa)=(S.pt p,cq ((cq (S.wd p) S.pa).1*m) (cq (S.wd p) S.pa).2)
  rw[h.pt p p0 p1,h.wd p p0 p1,h.pa,Cs (hw p p0 p1) hp m0]
 rw[e,nI (λf:Int×Int=>cq (f.1*m) f.2)]
 rfl
def Je (h:pN ws Ry):gJ e ws=gJ e Ry:=by
 funext L
 unfold gJ
 rw[NT,NJ,NJ]
 constructor
 .intro k w hw
  by_cases z:w.1=w.2
  .rw[z];exact RC rfl
  .exact k w ((h w z).mpr hw)
 .intro k w hw
  by_cases z:w.1=w.2
  .rw[z];exact RC rfl
  .exact k w ((h w z).mp hw)
def Ju (h:pN ws Ry)(tk:Ql Int):md e ws tk=md e Ry tk:=by
 have:eJ e ws=eJ e Ry:=by funext K a;unfold eJ;rw[Je h]
 unfold md
 rw[this]
def Bd.run{M W:Nat}{e:Int->Eg}{w:Int->Int}{nt:Nat}{ws:Ql Eg}(hE:iX M e nt)(hw:∀a,0<=a->a<(nt:Int)->0<=w a/\w a<=(W:Int))(hq:∀w∈ws,Eqv (fJ e nt) w.1 w.2):∀(n k:Nat) {S:PS},Bd M W k S->Run M e w nt ws S->Bd M W (k+n) (gm e w nt ws n S)
 |0,k,S,h,_=>h
 |n+1,k,S,h,r=>by
  unfold gm
  by_cases z:RA S ws=[]
  .rw[QO z];exact h.up (by lia)
  .rw[QU z]
   have:=Bd.run hE hw hq n (k+1) (h.step r hE hw hq z) (r.step hE hq z).1
   rw[show k+(n+1)=k+1+n by lia]
   exact this
structure zf5(M:Nat)(ts:List (Int×Int))(wl:List Int)(ws:List Eg):Prop where
 bd:Bd M (10 ^ 20) 200 (fG M ts wl ws)
 ok:Ok M (aw ts) (aR wl) ts.length (fG M ts wl ws)
 Ti:(fG M ts wl ws).tk.length<=36
def Tz.end (J:Tz M ts wl ws):zf5 M ts wl ws:=by
 have hE:=lr J.Uu
 have r0:Run M (aw ts) (aR wl) ts.length ws (PS.new M):=Run.new λa a0 a1=>(J.wt a a0 a1).1
 have m0:=(wg (M:=M) (e:=aw ts) (w:=aR wl) (nt:=ts.length) (ws:=ws) J.Ti.1)
 obtain⟨_,re⟩:=vk hE J.all 200 (PS.new M) r0 (by lia)
 have b:=Bd.run hE J.wt J.all 200 0 (Bd.new (M:=M) (W:=10 ^ 20)) r0
 rw[O4]at b
 exact⟨b,re.ok,by have:(fG M ts wl ws).tk.length+mu M (fG M ts wl ws)<=mu M (PS.new M):=re.Ti;lia⟩
def wL{d:Nat}{U5:Ql Int}(J:Tz M ts wl ws)(m0:0<m)(hw:∀a,0<=a->a<(ts.length:Int)->aR U5 a=m*aR wl a)(hs:pN ws Ry):hX (M+d) ts U5 Ry=hX M ts wl ws/\fT (M+d) ts U5 Ry=(fT M ts wl ws).map (ja m):=by
 have T:T8 M d m (aw ts) (aR wl) (aR U5) ts.length ws Ry:=⟨m0,lr J.Uu,hw,hs,λw hw _=>J.UM w hw⟩
 have r0:Run M (aw ts) (aR wl) ts.length ws (PS.new M):=Run.new λa a0 a1=>(J.wt a a0 a1).1
 have s:Sg M d m (fG M ts wl ws) (fG (M+d) ts U5 Ry):=Sg.run T J.all 200 (Sg.new M d m) r0
 have E:=J.end
 refine⟨?_,JJ s m0 (by have:=E.ok.nM;lia) (λp p0 p1=>(E.bd.wd p p0 p1).1) E.ok.Vk⟩
 unfold hX
 rw[s.tk]
 exact(Ju hs _).symm
def AZ (J:Tz M ts wl ws){x:Ql Int×(Int×Int)}(hx:x∈fT M ts wl ws):∃a b:Int,0<=a/\a<(DL.RN:Int)/\0<b/\b<(DL.RN:Int)/\x.2=cq a b:=by
 have E:=J.end
 obtain⟨s1,_⟩:=E.bd.sm (MZ _) (by decide)
 have:=(nH _).mem_iff.mp hx
 obtain⟨p,hp,rfl⟩:=Ny.mp this
 obtain⟨p0,p1⟩:=dm (N1.mp hp).1
 have h1:=s1.wd p p0 p1
 exact⟨_,_,h1.1,h1.2,E.ok.Vk,s1.pa,rfl⟩
def Ey (J:Tz M ts wl ws):(fT M ts wl ws).map (ja 1)=fT M ts wl ws:=by
 refine(Nw λx hx=>?_).trans (Pu _)
 obtain⟨a,b,a0,_,b0,_,e⟩:=AZ J hx
 show ja 1 x=x
 unfold ja
 rw[e,Cs a0 b0 (by decide),Rj, <-e]
def Lj (a0:0<=a)(a1:a<(DL.RN:Int))(b0:0<b)(b1:b<(DL.RN:Int)):(0<=(cq a b).1/\(cq a b).1<(DL.RN:Int))/\0<(cq a b).2/\(cq a b).2<(DL.RN:Int):=by
 have g0:0<NU a.toNat b.toNat:=OK _ (by lia)
 have g1:NU a.toNat b.toNat<=b.toNat:=Qg _ (by lia)
 have q1:=Rf a.toNat (NU a.toNat b.toNat)
 have q2:=Rf b.toNat (NU a.toNat b.toNat)
 have q3:=Nat.div_pos g1 g0
 unfold cq
 refine⟨⟨?_,?_⟩,?_,?_⟩
 .exact Int.natCast_nonneg _
 .show((a.toNat / NU a.toNat b.toNat:Nat):Int)<_;lia
 .show(0:Int)<((b.toNat / NU a.toNat b.toNat:Nat):Int);lia
 .show((b.toNat / NU a.toNat b.toNat:Nat):Int)<_;lia
def dJ(x:Int)(R:Ql Int)(e:Eg):Ql Int:=if e.2=x/\e.1∉(if e.1=x/\e.2∉R then R++[e.2] else R) then(if e.1=x/\e.2∉R then R++[e.2] else R)++[e.1] else(if e.1=x/\e.2∉R then R++[e.2] else R)
structure UD(M:Nat)(es:List Eg)(s:Int)(R:List Int):Prop where
 ak:AllK M R
 eq:∀x∈R,Eqv es s x
def UD.add{y:Int}{R:Ql Int}(h:UD M es s R)(hx:x∈R)(e:Eqv es x y)(n:y∉R)(y0:0<=y)(y1:y<(M:Int)):UD M es s (R++[y]):=by
 have:fM R y=R++[y]:=by unfold fM;rw[QU n]
 refine⟨this ▸ h.ak.put y0 y1,λz hz=>?_⟩
 rcases ML.mp hz with w | w
 .exact h.eq z w
 .rw[MS.mp w];exact(h.eq x hx).trans e
def zu{R:Ql Int}{e:Eg}(h:UD M es s R)(hx:x∈R)(he:e∈es)(r1:0<=e.1/\e.1<(M:Int))(r2:0<=e.2/\e.2<(M:Int)):UD M es s (dJ x R e)/\(∃T,dJ x R e=R++T)/\(e.1=x->e.2∈dJ x R e)/\(e.2=x->e.1∈dJ x R e):=by
 unfold dJ
 have k1:UD M es s (if e.1=x/\e.2∉R then R++[e.2] else R)/\(∃T,(if e.1=x/\e.2∉R then R++[e.2] else R)=R++T)/\(e.1=x->e.2∈(if e.1=x/\e.2∉R then R++[e.2] else R)):=by
  split
  .rename_i c
   exact⟨h.add hx (c.1 ▸ .VW he) c.2 r2.1 r2.2,⟨[e.2],rfl⟩,λ_=>by simp⟩
  .rename_i c
   exact⟨h,⟨[],by simp⟩,λz=>NY λy=>c ⟨z,y⟩⟩
 generalize (if e.1=x/\e.2∉R then R++[e.2] else R)=R1 at *
 obtain⟨h1,⟨T,eT⟩,m1⟩:=k1
 have V9:x∈R1:=by rw[eT];exact MJ _ hx
 split
 .rename_i c
  exact⟨h1.add V9 (c.1 ▸ (.symm (.VW he))) c.2 r1.1 r1.2,⟨T++[e.1],by rw[eT,Nv]⟩,λz=>MJ _ (m1 z),λ_=>by simp⟩
 .rename_i c
  exact⟨h1,⟨T,eT⟩,m1,λz=>NY λy=>c ⟨z,y⟩⟩
def uW{M:Nat}{es:Ql Eg}{s x:Int}(hr:∀e∈es,(0<=e.1/\e.1<(M:Int))/\0<=e.2/\e.2<(M:Int)):∀(fs:Ql Eg) {R:Ql Int},UD M es s R->x∈R->(∀e∈fs,e∈es)->UD M es s (fs.foldl (dJ x) R)/\(∃T,fs.foldl (dJ x) R=R++T)/\∀e∈fs,(e.1=x->e.2∈fs.foldl (dJ x) R)/\(e.2=x->e.1∈fs.foldl (dJ x) R)
 |[],R,h,_,_=>⟨h,⟨[],by simp⟩,λe he=>(by cases he)⟩
 |e::fs,R,h,hx,hf=>by
  have he:=hf e (MN ..)
  obtain⟨h1,⟨T,eT⟩,m1,m2⟩:=zu h hx he (hr e he).1 (hr e he).2
  have V9:x∈dJ x R e:=by rw[eT];exact MJ _ hx
  obtain⟨h2,⟨U,eU⟩,m3⟩:=uW hr fs h1 V9 λe' Wh=>hf e' (MM _ Wh)
  rw[PN]
  have up:∀{y},y∈dJ x R e->y∈fs.foldl (dJ x) (dJ x R e):=λhy=>by rw[eU];exact MJ _ hy
  refine⟨h2,⟨T++U,by rw[eU,eT,Nv]⟩,λe' Wh=>?_⟩
  rcases MQ.mp Wh with z | z
  .rw[z];exact⟨λy=>up (m1 y),λy=>up (m2 y)⟩
  .exact m3 e' z
def eE(es:Ql Eg):Nat->Nat->Ql Int->Ql Int
 |0,_,R=>R
 |n+1,a,R=>if a<R.length then eE es n (a+1) (es.foldl (dJ (R.getD a 0)) R) else R
def Sd(es:Ql Eg)(R:Ql Int)(x:Int):Prop := ∀e∈es,(e.1=x->e.2∈R)/\(e.2=x->e.1∈R)
def Dr{M:Nat}{es:Ql Eg}{s:Int}(hr:∀e∈es,(0<=e.1/\e.1<(M:Int))/\0<=e.2/\e.2<(M:Int)):∀(n a:Nat) (R:Ql Int),UD M es s R->s∈R->(∀x∈R.take a,Sd es R x)->M+1<=n+a->UD M es s (eE es n a R)/\s∈eE es n a R/\∀x∈eE es n a R,Sd es (eE es n a R) x
 |0,a,R,h,hs,hc,hn=>⟨h,hs,λx hx=>hc x (by rw[Ph (by have:=h.ak.len;lia)];exact hx)⟩
 |n+1,a,R,h,hs,hc,hn=>by
  unfold eE
  by_cases c:a<R.length
  .rw[QO c]
   have ea:R.getD a 0=R[a]:=by rw[M5,MR c];rfl
   have hx:R.getD a 0∈R:=by rw[ea];exact Oh _
   obtain⟨h1,⟨T,eT⟩,m⟩:=uW hr es h hx λe he=>he
   refine Dr hr n (a+1) _ h1 (by rw[eT];exact MJ _ hs) (λx hx=>?_) (by lia)
   rw[eT,List.take_append_of_le_length (by lia),List.take_succ_eq_append_getElem c]at hx
   rcases ML.mp hx with z | z
   .intro e he
    have:=hc x z e he
    rw[eT]
    exact⟨λy=>MJ _ (this.1 y),λy=>MJ _ (this.2 y)⟩
   .rw[MS.mp z, <-ea]
    exact m
  .rw[QU c]
   exact⟨h,hs,λx hx=>hc x (by rw[Ph (by lia)];exact hx)⟩
def Mn (hr:∀e∈es,(0<=e.1/\e.1<(M:Int))/\0<=e.2/\e.2<(M:Int))(s0:0<=s)(s1:s<(M:Int)) (hn:M+1<=n):(eE es n 0 [s]).Nodup/\(eE es n 0 [s]).length<=M/\∀v,v∈eE es n 0 [s]↔Eqv es s v:=by
 obtain⟨h,hs,hc⟩:=Dr hr n 0 [s] ⟨⟨by simp,λx hx=>by rw[MS.mp hx];exact⟨s0,s1⟩⟩,λx hx=>by rw[MS.mp hx];exact .refl s⟩ (by simp) (λx hx=>by simp at hx) (by lia)
 refine⟨h.ak.nd,h.ak.len,λv=>⟨h.eq v,λz=>?_⟩⟩
 exact(z.pred (p:=λv=>v∈eE es n 0 [s]) λe he=>⟨λy=>(hc _ y e he).1 rfl,λy=>(hc _ y e he).2 rfl⟩).mp hs
def BW{R:Ql Int}{a:Nat}{y z:Int}(hi:t[i]?=Qs (.val (.int y)))(hj:t[j]?=Qs (.val (.int z)))(h3:t[3]?=Qs (.own (R.map D.int)))(h4:t[4]?=Qs (.val (.int (a:Int))))(ha:a<R.length)(hx:R.getD a 0=x)(hl:R.length<1000) :
  bY (ij (aI (d2 d5 (ae i) (d2 az (ae 3) (ae 4)))) (aI (d2 kL (ae j) (ae 3)))) (fH 3 (ae j)) cM t=Qs (.nx (t.set 3 (.own ((if y=x/\z∉R then R++[z] else R).map D.int)))):=by
 have ei:ae i t=Qs (.cl (.int y)):=by unfold ae;rw[hi]
 have ej:ae j t=Qs (.cl (.int z)):=by unfold ae;rw[hj]
 have e3:ae 3 t=Qs (.tm (.lst (R.map D.int))):=by unfold ae;rw[h3]
 have e4:ae 4 t=Qs (.cl (.int (a:Int))):=by unfold ae;rw[h4]
 have ix:=wN (fa:=ae 3) (fb:=ae 4) R a e3 e4 ha rfl rfl
 rw[hx]at ix
 have c:=DB (oO ei ix) (Jr (fa:=ae j) (fb:=ae 3) z R ej e3 rfl rfl)
 by_cases h:y=x/\z∉R
 .rw[RC h.1,Su h.2]at c
  rw[QO h]
  exact(jn c rfl).trans (Mu t (i:=3) (xs:=R) ej h3 (by lia))
 .have:(decide (y=x)&&!decide (z∈R))=Qf:=by
   by_cases h1:y=x
   .have h2:z∈R:=NY λq=>h ⟨h1,q⟩
    rw[RC h2];simp
   .rw[Su h1];rfl
  rw[this]at c
  rw[QU h]
  refine(gu c rfl).trans ?_
  congr 2
  symm
  obtain⟨Vs,eq⟩:=Nm.mp h3
  rw[<-eq,List.set_getElem_self]
def Er(s1 s2 s6 s7:Sl){R:Ql Int}{a:Nat}(h0:0<=l)(h1:l<(ts.length:Int))(ha:a<R.length)(hx:R.getD a 0=x)(hl:R.length<900) :
  ∃u6 u7,ux [.val (wD M ts),s1,s2,.own (R.map D.int),.val (.int (a:Int)),.val (.int l),s6,s7]=Qs (.nx [.val (wD M ts),s1,s2,.own ((dJ x R (aw ts l)).map D.int),.val (.int (a:Int)),.val (.int l),u6,u7]):=by
 have et:=qF (fa:=d2 az av bT) (fb:=ae 5) (t:=[.val (wD M ts),s1,s2,.own (R.map D.int),.val (.int (a:Int)),.val (.int l),s6,s7]) (lJ rfl) rfl rfl rfl h0 h1
 generalize hE:aw ts l=e at *
 have E1:dv (cK 2 (dg i7 (dg (cb 7) gN))) (d2 az (d2 az av bT) bJ) [.val (wD M ts),s1,s2,.own (R.map D.int),.val (.int (a:Int)),.val (.int l),s6,s7]=Qs (.nx [.val (wD M ts),s1,s2,.own (R.map D.int),.val (.int (a:Int)),.val (.int l),.val (.int e.1),.val (.int e.2)]):=by
  unfold dv
  rw[et]
  rfl
 have E2:=BW (t:=[.val (wD M ts),s1,s2,.own (R.map D.int),.val (.int (a:Int)),.val (.int l),.val (.int e.1),.val (.int e.2)]) (i:=6) (j:=7) (y:=e.1) (z:=e.2) rfl rfl rfl rfl ha hx (by lia)
 obtain⟨R1,Xw⟩:∃R1,R1=(if e.1=x/\e.2∉R then R++[e.2] else R):=⟨_,rfl⟩
 rw[<-Xw]at E2
 have a1:a<R1.length:=by
  rw[Xw]
  split
  .rw[Nl];lia
  .exact ha
 have x1:R1.getD a 0=x:=by
  rw[Xw]
  split
  .rw[M5,NX ha, <-M5];exact hx
  .exact hx
 have l1:R1.length<1000:=by
  rw[Xw]
  split
  .rw[Nl,N5];lia
  .lia
 have E3:=BW (t:=[.val (wD M ts),s1,s2,.own (R1.map D.int),.val (.int (a:Int)),.val (.int l),.val (.int e.1),.val (.int e.2)]) (i:=7) (j:=6) (y:=e.2) (z:=e.1) rfl rfl rfl rfl a1 x1 l1
 refine⟨.val (.int e.1),.val (.int e.2),(aL E1).trans ((aL E2).trans (E3.trans ?_))⟩
 rw[Xw]
 rfl
def Bg(s1 s2:Sl){M:Nat}(hM:M<=800){ts:Ql (Int×Int)}{es:Ql Eg}{s x:Int}(hr:∀e∈es,(0<=e.1/\e.1<(M:Int))/\0<=e.2/\e.2<(M:Int)){a:Nat}:∀(L:Ql Int) (R:Ql Int) (s5 s6 s7:Sl),UD M es s R->a<R.length->R.getD a 0=x->(∀l∈L,0<=l/\l<(ts.length:Int))->(∀e∈cu ts L,e∈es) ->
  ∃u5 u6 u7,bQ jI ux (L.map D.int) [.val (wD M ts),s1,s2,.own (R.map D.int),.val (.int (a:Int)),s5,s6,s7]=Qs (.nx [.val (wD M ts),s1,s2,.own (((cu ts L).foldl (dJ x) R).map D.int),.val (.int (a:Int)),u5,u6,u7])
 |[],R,s5,s6,s7,_,_,_,_,_=>⟨s5,s6,s7,rfl⟩
 |l::L,R,s5,s6,s7,h,ha,hx,hL,hE=>by
  obtain⟨h0,h1⟩:=hL l (MN ..)
  have he:aw ts l∈es:=hE _ (MN ..)
  have YV:x∈R:=by
   rw[<-hx,M5,MR ha]
   exact Oh _
  obtain⟨h2,⟨T,eT⟩,_,_⟩:=zu h YV he (hr _ he).1 (hr _ he).2
  obtain⟨v6,v7,e⟩:=Er s1 s2 s6 s7 (M:=M) h0 h1 ha hx (by have:=h.ak.len;lia)
  have Vn:(dJ x R (aw ts l)).getD a 0=x:=by
   rw[eT,M5,NX ha, <-M5,hx]
  obtain⟨u5,u6,u7,ih⟩:=Bg s1 s2 hM hr (x:=x) (a:=a) L (dJ x R (aw ts l)) (.val (.int l)) v6 v7 h2 (by rw[eT,Nl];lia) Vn (λm hm=>hL m (MM _ hm)) λe' Wh=>hE e' (MM _ Wh)
  exact⟨u5,u6,u7,(j7 rfl e).trans ih⟩
def Bf(s2:Sl){M:Nat}(hM:M<=800){ts:Ql (Int×Int)}{L:Ql Int}{s:Int}(hr:∀e∈cu ts L,(0<=e.1/\e.1<(M:Int))/\0<=e.2/\e.2<(M:Int))(hL:∀l∈L,0<=l/\l<(ts.length:Int)):∀(n a:Nat) (R:Ql Int) (s5 s6 s7:Sl),UD M (cu ts L) s R->M+1<=n+a ->
  ∃u4 u5 u6 u7,eF (aI (d2 qL bA (ai bV gz))) pG n [.val (wD M ts),.val (.lst (L.map D.int)),s2,.own (R.map D.int),.val (.int (a:Int)),s5,s6,s7]=if a<=M then Qs (.nx [.val (wD M ts),.val (.lst (L.map D.int)),s2,.own ((eE (cu ts L) n a R).map D.int),u4,u5,u6,u7]) else eF (aI (d2 qL bA (ai bV gz))) pG n [.val (wD M ts),.val (.lst (L.map D.int)),s2,.own (R.map D.int),.val (.int (a:Int)),s5,s6,s7]
 |0,a,R,s5,s6,s7,h,hn=>⟨s2,s5,s6,s7,by rw[QU (by lia)]⟩
 |n+1,a,R,s5,s6,s7,h,hn=>by
  by_cases am:a<=M
  .simp only[QO am]
   have c:=oh (fa:=ae 4) (t:=[.val (wD M ts),.val (.lst (L.map D.int)),s2,.own (R.map D.int),.val (.int (a:Int)),s5,s6,s7]) (a:=(a:Int)) rfl (oo (xs:=R) (f:=ae 3) (r:=.tm (.lst (R.map D.int))) rfl rfl)
   by_cases hc:a<R.length
   .rw[RC (by lia)]at c
    obtain⟨v5,v6,v7,e⟩:=Bg (.val (.lst (L.map D.int))) s2 (s:=s) (x:=R.getD a 0) hM hr (a:=a) L R s5 s6 s7 h hc rfl hL (λe he=>he)
    have e2:=(jE (fa:=ae 4) (fb:=dC (.int 1)) (t:=[.val (wD M ts),.val (.lst (L.map D.int)),s2,.own (((cu ts L).foldl (dJ (R.getD a 0)) R).map D.int),.val (.int (a:Int)),v5,v6,v7]) (a:=(a:Int)) (b:=1) rfl rfl)
    rw[show(a:Int)+1=((a+1:Nat):Int) by lia]at e2
    have E:pG [.val (wD M ts),.val (.lst (L.map D.int)),s2,.own (R.map D.int),.val (.int (a:Int)),s5,s6,s7]=Qs (.nx [.val (wD M ts),.val (.lst (L.map D.int)),s2,.own (((cu ts L).foldl (dJ (R.getD a 0)) R).map D.int),.val (.int ((a+1:Nat):Int)),v5,v6,v7]):=(aL (g1:=fX jI aA ux) (t:=[.val (wD M ts),.val (.lst (L.map D.int)),s2,.own (R.map D.int),.val (.int (a:Int)),s5,s6,s7]) e).trans (iW (i:=4) e2 (by simp))
    have YV:R.getD a 0∈R:=by
     rw[M5,MR hc]
     exact Oh _
    obtain⟨h1,_,_⟩:=uW hr (cu ts L) h YV λe he=>he
    have rl:=h.ak.len
    obtain⟨u4,u5,u6,u7,ih⟩:=Bf s2 hM hr hL n (a+1) _ v5 v6 v7 h1 (by lia)
    rw[QO (by lia)]at ih
    refine⟨u4,u5,u6,u7,?_⟩
    unfold eF
    rw[c,MP,QO rfl,E,MP]
    have:eE (cu ts L) (n+1) a R=eE (cu ts L) n (a+1) ((cu ts L).foldl (dJ (R.getD a 0)) R):=by
     show(if a<R.length then _ else R)=_
     rw[QO hc]
    rw[this]
    exact ih
   .rw[Su (by lia)]at c
    refine⟨.val (.int (a:Int)),s5,s6,s7,?_⟩
    unfold eF
    rw[c,MP,QU (by decide)]
    have:eE (cu ts L) (n+1) a R=R:=by
     show(if a<R.length then _ else R)=_
     rw[QU hc]
    rw[this]
  .exact⟨s2,s5,s6,s7,by rw[QU am]⟩
def xJ (hw:TJ M ts) (hL:∀l∈L,0<=l/\l<(ts.length:Int)):∀e∈cu ts L,(0<=e.1/\e.1<(M:Int))/\0<=e.2/\e.2<(M:Int):=λe he=>by
 obtain⟨l,hl,rfl⟩:=Ny.mp he
 obtain⟨a0,ab,bM⟩:=hw.lt _ (lN (hL l hl).1 (hL l hl).2)
 exact⟨⟨a0,by lia⟩,by lia,bM⟩
def Gn (hM:M<=60) (hw:TJ M ts) (hL:∀l∈L,0<=l/\l<(ts.length:Int)) (s0:0<=s)(s1:s<(M:Int)):pX [wD M ts,.lst (L.map D.int),.int s]=Qs (.nw ((eE (cu ts L) 100 0 [s]).map D.int)):=by
 let W:Sl:=.val (wD M ts)
 let N:Sl:=.val (.lst (L.map D.int))
 have E1:aM 3 (ai cE eY) [W,N,.val (.int s),.no,.no,.no,.no,.no]=Qs (.nx [W,N,.val (.int s),.own [.int s],.no,.no,.no,.no]):=rfl
 have E2:aM 4 bh [W,N,.val (.int s),.own [.int s],.no,.no,.no,.no]=Qs (.nx [W,N,.val (.int s),.own [.int s],.val (.int 0),.no,.no,.no]):=rfl
 obtain⟨u4,u5,u6,u7,e⟩:=Bf (.val (.int s)) (M:=M) (by lia) (s:=s) (xJ hw hL) hL 100 0 [s] .no .no .no ⟨⟨by simp,λx hx=>by rw[MS.mp hx];exact⟨s0,s1⟩⟩,λx hx=>by rw[MS.mp hx];exact .refl s⟩ (by lia)
 rw[QO (OU _)]at e
 have E3:iO (λt=>100) (aI (d2 qL bA (ai bV gz))) pG [W,N,.val (.int s),.own [.int s],.val (.int 0),.no,.no,.no]=Qs (.nx [W,N,.val (.int s),.own ((eE (cu ts L) 100 0 [s]).map D.int),u4,u5,u6,u7]):=e
 have E4:fj 3 [W,N,.val (.int s),.own ((eE (cu ts L) 100 0 [s]).map D.int),u4,u5,u6,u7]=Qs (.rt (.nw ((eE (cu ts L) 100 0 [s]).map D.int))):=rfl
 show(xf [W,N,.val (.int s),.no,.no,.no,.no,.no]).bind dD=_
 refine RN ?_
 exact(aL E1).trans ((aL E2).trans ((aL E3).trans E4))
def Bc(s0 s1:Sl):∀(n a b:Nat),b<n->eF sY og n [s0,s1,.val (.int (a:Int)),.val (.int (b:Int))]=Qs (.nx [s0,s1,.val (.int (NU a b:Int)),.val (.int 0)])
 |0,a,b,h=>by lia
 |n+1,a,b,h=>by
  have ec:sY [s0,s1,.val (.int (a:Int)),.val (.int (b:Int))]=Qs (decide ((0:Int)<(b:Int))):=oF (fa:=ae 3) (fb:=dC (.int 0)) (a:=(b:Int)) (b:=0) rfl rfl
  unfold eF
  rw[ec]
  by_cases hb:b=0
  .subst hb
   simp
  .rw[RC (by lia)]
   have eb:og [s0,s1,.val (.int (a:Int)),.val (.int (b:Int))]=Qs (.nx [s0,s1,.val (.int (b:Int)),.val (.int ((a % b:Nat):Int))]):=by
    unfold og iP
    have:(ag (ae 3) (ag (d2 qR (ae 2) (ae 3)) ao)) [s0,s1,.val (.int (a:Int)),.val (.int (b:Int))]=Qs [.cl (.int (b:Int)),.cl (.int ((a:Int).fmod (b:Int)))]:=by
     simp[ag,ao,d2,ae,kI,jA,Ev.d,hb]
    rw[this,Cy a b (by lia)]
    rfl
   simp only[MP,if_true,eb]
   rw[Bc s0 s1 n b (a % b) (by have:=Nat.mod_lt a (show 0<b by lia);lia),QA b, <-S4,QA b]
def JY(s m:Nat)(h0:0<m)(h:m<DL.RN):mY [.int (s:Int),.int (m:Int)]=Qs (.cl (pD (cq (s:Int) (m:Int)))):=by
 have g0:0<NU s m:=OK _ h0
 have g1:NU s m<=m:=Qg _ h0
 have gs:sm (NU s m:Int)=Qt:=zo (ND g1 h)
 let A:Sl:=.val (.int (s:Int))
 let B:Sl:=.val (.int (m:Int))
 let t0:Th:=[A,B,.no,.no]
 have c1:(ai j4 (ag (ae 0) ao)) t0=Qs (.cl (.int (s:Int))):=by
  have h : ¬ ((s:Int)<0):=by lia
  simp[ai,ag,ao,ae,j4,Ev.d,t0,A,h]
 have E1:=iW (i:=2) c1 (by simp[t0])
 let t1:Th:=[A,B,.val (.int (s:Int)),.no]
 have E2:=iW (i:=3) (rfl:ae 1 t1=Qs (.cl (.int (m:Int)))) (by simp[t1])
 let t2:Th:=[A,B,.val (.int (s:Int)),.val (.int (m:Int))]
 have E3:(iO (kW 3) sY og) t2=Qs (.nx [A,B,.val (.int (NU s m:Int)),.val (.int 0)]):=Bc A B (((m:Int).natAbs)+1) s m (by lia)
 let t3:Th:=[A,B,.val (.int (NU s m:Int)),.val (.int 0)]
 have d1:=oS (fa:=ae 0) (fb:=ae 2) (t:=t3) (a:=(s:Int)) (b:=(NU s m:Int)) rfl rfl (by lia) gs
 have Vc:=oS (fa:=ae 1) (fb:=ae 2) (t:=t3) (a:=(m:Int)) (b:=(NU s m:Int)) rfl rfl (by lia) gs
 rw[CG]at d1 Vc
 have a3:=(eG (k:=cY) d1 Vc).trans rfl
 show(xh t0).bind dD=_
 refine RN ((aL E1).trans ((aL E2).trans ((aL E3).trans (jd a3))))
def JZ (a0:0<=a)(b0:0<b)(h:b<(DL.RN:Int)):mY [.int a,.int b]=Qs (.cl (pD (cq a b))):=by
 obtain⟨A,rfl⟩:=N9 a0
 obtain⟨B,rfl⟩:=N9 (NR b0)
 exact JY A B (by lia) (by lia)
def yF(ms:Ql (Ql Int×(Int×Int))):Prop := ∀x∈ms,(0<=x.2.1/\x.2.1<(DL.RN:Int))/\0<x.2.2/\x.2.2<(DL.RN:Int)
def C3{m:Int}(m0:0<m)(m1:m<(DL.RN:Int)):∀(ms:Ql (Ql Int×(Int×Int))) (s s':Sl),yF ms->bW (cK 2 gy) bN oM (ms.map bO) [s,s',.val (.int m)]=Qs ((ms.map (ja m)).map bO)
 |[],s,s',_=>rfl
 |x::ms,s,s',h=>by
  have ih:=C3 m0 m1 ms (.val (cZ x.1)) (.val (pD x.2)) λy hy=>h y (MM _ hy)
  obtain⟨⟨a0,a1⟩,b0,b1⟩:=h x (MN ..)
  let t:Th:=[.val (cZ x.1),.val (pD x.2),.val (.int m)]
  have l1:=mq (xs:=x.1) (f:=ae 0) (t:=t) (r:=.cl (cZ x.1)) rfl rfl
  have i0:(d2 az aA bh) t=Qs (.cl (.int x.2.1)):=rfl
  have i1:(d2 az aA bT) t=Qs (.cl (.int x.2.2)):=rfl
  have mu:=mf (fb:=ae 2) (t:=t) (b:=m) i0 rfl (qQ (MZ _) a0 a1) (qQ (MZ _) (NR m0) m1)
  have lo:=(eG (k:=aO mY) mu i1).trans (mR (JZ (QG a0 (NR m0)) b0 b1) rfl)
  have e:oM t=Qs (.cl (bO (ja m x))):=(eG (k:=cY) l1 lo).trans rfl
  show((oM t).bind λr=>(bW _ _ _ (ms.map bO) t).map λxs=>r.d::xs)=_
  rw[e,MP,ih]
  rfl
def y9{T:Ql Int}{ms:Ql (Ql Int×(Int×Int))}(hl:ms.length<=50000)(hm:yF ms) (m0:0<m)(m1:m<(DL.RN:Int)):lB [.tup [iL T,.lst (ms.map bO)],.int m]=Qs (.cl (.tup [iL T,.lst ((ms.map (ja m)).map bO)])):=by
 let t0:Th:=[.val (.tup [iL T,.lst (ms.map bO)]),.val (.int m)]
 have l1:=mq (xs:=T) (f:=d2 az av bh) (t:=t0) (r:=.cl (iL T)) rfl rfl
 have l2:(bK 2 [1] (cF (d2 az av bT)) (cK 2 gy) bN oM) t0=Qs (.nw ((ms.map (ja m)).map bO)):=by
  unfold bK
  have e1:cF (d2 az av bT) t0=Qs (Qt,ms.map bO):=rfl
  rw[e1]
  show(if(ms.map bO).length<=50000 then(bW _ _ _ (ms.map bO) [.no,.no,.val (.int m)]).bind _ else Qn)=_
  rw[QO (by rw[MY];exact hl),C3 m0 m1 ms .no .no hm]
  rfl
 show(xc t0).bind dD=_
 have a3:=(eG (k:=cY) l1 l2).trans rfl
 exact RN (jd a3)
def Be{M:Nat}(hM:M<=9){ts:Ql (Int×Int)}(hw:TJ M ts)(ht:ts.length<=1000):∀(xs:Ql Int) (ws:Ql Eg) (w:Int×Int),Tc w->ws.length+xs.length<=100->gc M ws->(∀w∈ws,Eqv (fJ (aw ts) ts.length) w.1 w.2) ->
  ∃(Ry:Ql Eg) (w':Int×Int),Tc w'/\Ry.length<=ws.length+xs.length/\gc M Ry/\(∀w∈Ry,Eqv (fJ (aw ts) ts.length) w.1 w.2)/\∀(p:U1) (s2 s4 s5 s6 s7:Sl),∃u4 u5 u6 u7,eM gf (uw p) (xs.map D.int) [.val (.adr p),.val (wD M ts),s2,.own (ws.map pD),s4,s5,s6,s7] w=Qs (.nx [.val (.adr p),.val (wD M ts),s2,.own (Ry.map pD),u4,u5,u6,u7] w')
 |[],ws,w,ok,_,hi,he=>⟨ws,w,ok,by simp,hi,he,λp s2 s4 s5 s6 s7=>⟨s4,s5,s6,s7,rfl⟩⟩
 |x::xs,ws,w,ok,hl,hi,he=>by
  rw[M9]at hl
  have pos:=hw.pos
  obtain⟨a,w1,a0,a1,o1,e1⟩:=gj ok (m:=(M:Int)) (by lia) (Tb (by lia) (by lia))
  have rN:∀l∈aj ts.length,0<=l/\l<(ts.length:Int):=λl hl=>dm hl
  obtain⟨R,hR⟩:∃R,R=eE (cu ts (aj ts.length)) 100 0 [a]:=⟨_,rfl⟩
  have rc:=Gn (M:=M) (by lia) hw rN a0 a1
  have bm:=Mn (M:=M) (s:=a) (xJ hw rN) a0 a1 (n:=100) (by lia)
  rw[<-hR]at rc bm
  obtain⟨nd,ln,mem⟩:=bm
  have r0:0<R.length:=by
   have:a∈R:=(mem a).mpr (.refl a)
   exact Pf this
  have pm:=lQ R
  have sl:(cS R).length=R.length:=pm.length_eq
  obtain⟨r,w2,q0,q1,o2,e2⟩:=gj o1 (m:=((cS R).length:Int)) (by lia) (Tb (by lia) (by lia))
  obtain⟨b,hb⟩:∃b,b=(cS R).getD r.toNat 0:=⟨_,rfl⟩
  have bR:b∈R:=by
   refine pm.mem_iff.mp ?_
   rw[hb,M5,MR (by lia)]
   exact Oh _
  have eb:Eqv (fJ (aw ts) ts.length) a b:=by
   have:=(mem b).mp bR
   rw[xK]at this
   exact this
  have br:0<=b/\b<(M:Int):=by
   rcases eb.ends with z | ⟨_,e',Wh,z⟩
   .rw[<-z];exact⟨a0,a1⟩
   .have:=xJ (M:=M) hw rN e' (by rw[xK];exact Wh)
    rcases z with z | z
    .rw[z];exact this.1
    .rw[z];exact this.2
  let nw:Eg:=(if b<a then b else a,if b > a then b else a)
  have ni:(0<=nw.1/\nw.1<(M:Int))/\0<=nw.2/\nw.2<(M:Int):=by
   show(0<=(if b<a then b else a)/\(if b<a then b else a)<(M:Int))/\0<=(if b > a then b else a)/\(if b > a then b else a)<(M:Int)
   split<;>split<;>lia
  have ne:Eqv (fJ (aw ts) ts.length) nw.1 nw.2:=by
   show Eqv _ (if b<a then b else a) (if b > a then b else a)
   by_cases c:b<a
   .rw[QO c,QU (by lia)];exact eb.symm
   .by_cases c2:b > a
    .rw[QU c,QO c2];exact eb
    .rw[QU c,QU c2];exact .refl a
  obtain⟨Ry,w',o',l',i',e',run⟩:=Be hM hw ht xs (ws++[nw]) w2 o2 (by rw[Nl,N5];lia) (λy hy=>by
   rcases ML.mp hy with z | z
   .exact hi y z
   .rw[MS.mp z];exact ni) (λy hy=>by
   rcases ML.mp hy with z | z
   .exact he y z
   .rw[MS.mp z];exact ne)
  rw[Nl,N5]at l'
  refine⟨Ry,w',o',by rw[M9];lia,i',e',λp s2 s4 s5 s6 s7=>?_⟩
  obtain⟨u4,u5,u6,u7,e⟩:=run p s2 (.val (.int x)) (.val (.int a)) (.own ((cS R).map D.int)) (.val (.int b))
  refine⟨u4,u5,u6,u7,?_⟩
  let P:Sl:=.val (.adr p)
  let W:Sl:=.val (wD M ts)
  let O:Sl:=.own (ws.map pD)
  let t:Th:=[P,W,s2,O,.val (.int x),s5,s6,s7]
  have A1:=iC (ρ:=af) (i:=5) (fV (i:=0) (t:=t) (p:=p) rfl (qz (i:=1) (t:=t) rfl) e1) (by simp[t])
  let t1:Th:=[P,W,s2,O,.val (.int x),.val (.int a),s6,s7]
  have el:(ai bV (ag (d2 az aA bT) ao)) t1=Qs (.cl (.int (ts.length:Int))):=by
   rw[gX (lJ (i:=1) (t:=t1) rfl)]
   unfold bV
   simp[Ev.d]
  have c2:(ai (aO pX) (ag aA (ag (ig (ag (ai bV (ag (d2 az aA bT) ao)) ao)) fw))) t1=Qs (.nw (R.map D.int)):=by
   rw[kn (rfl:ae 1 t1=Qs (.cl (wD M ts))) (sZ el ht) (rfl:ae 5 t1=Qs (.cl (.int a)))]
   exact pB rc
  have A2:=ik (i:=6) (nF (xs:=R) c2 rfl (by lia)) (by simp[t1])
  let t2:Th:=[P,W,s2,O,.val (.int x),.val (.int a),.own ((cS R).map D.int),s7]
  have ix:az (.tm (.lst ((cS R).map D.int))) (.cl (.int r))=Qs (.cl (.int b)):=by
   have:=tN (fa:=ae 6) (fb:=dC (.int r)) (t:=t2) (r1:=.tm (.lst ((cS R).map D.int))) (r2:=.cl (.int r)) (cS R) r rfl rfl q0 q1 rfl rfl
   rw[cQ (rfl:ae 6 t2=Qs (.tm (.lst ((cS R).map D.int)))) (rfl:dC (.int r) t2=Qs (.cl (.int r)))]at this
   rw[hb]
   exact this
  have A3:=iC (ρ:=af) (i:=7) (d6 (ρ:=af) (cG (rfl:ae 6 t2=Qs (.tm (.lst ((cS R).map D.int))))) (fV (i:=0) (t:=t2) (p:=p) rfl (oo (xs:=cS R) (f:=ae 6) (t:=t2) (r:=.tm (.lst ((cS R).map D.int))) rfl rfl) e2) ix) (by simp[t2])
  let t3:Th:=[P,W,s2,O,.val (.int x),.val (.int a),.own ((cS R).map D.int),.val (.int b)]
  have A4:fH 3 (ai cY (ag (ai qN lG) (ag (ai qX lG) ao))) t3=Qs (.nx [P,W,s2,.own ((ws++[nw]).map pD),.val (.int x),.val (.int a),.own ((cS R).map D.int),.val (.int b)]):=by
   have:=pJ t3 (i:=3) (d:=pD nw) (f:=(ai cY (ag (ai qN lG) (ag (ai qX lG) ao)))) rfl (rfl:t3[3]?=Qs (.own (ws.map pD))) (by rw[MY];lia)
   rw[this,Od]
   rfl
  exact(oK (ρ:=af) (t1:=t) rfl ((bP (ρ:=af) A1).trans ((bP (ρ:=af) (eh (ρ:=af) A2)).trans ((bP (ρ:=af) A3).trans (eh (ρ:=af) A4))))).trans e
def D9{w:Int×Int}(ok:Tc w) (hM:M<=9) (hw:TJ M ts)(ht:ts.length<=1000) (m0:0<=m)(m1:m<=50):∃(ws:Ql Eg) (w':Int×Int),Tc w'/\ws.length<=51/\gc M ws/\(∀w∈ws,Eqv (fJ (aw ts) ts.length) w.1 w.2)/\pV w [wD M ts,.int m]=Qs (.nw (ws.map pD),w'):=by
 obtain⟨a,w1,a0,a1,o1,e1⟩:=gj ok (m:=m+1) (by lia) (Tb (by lia) (by lia))
 obtain⟨n,rfl⟩:=N9 a0
 obtain⟨ws,w',o',l',i',e',run⟩:=Be hM hw ht (aj n) [] w1 o1 (by rw[fg];simp;lia) (λ_ h=>nomatch h) (λ_ h=>nomatch h)
 rw[fg,Pd]at l'
 refine⟨ws,w',o',by lia,i',e',jj rfl λp=>?_⟩
 obtain⟨u4,u5,u6,u7,e⟩:=run p (.val (.int m)) .no .no .no .no
 let t1:Th:=[.val (.adr p),.val (wD M ts),.val (.int m),.own [],.no,.no,.no,.no]
 have E1:(kS (eX p di (aX eW (aX (bg af (d2 c9 aQ bT)) SU)))) t1 w=Qs ((Qt,(aj n).map D.int),w1):=KZ (ρ:=af) (fV (i:=0) (t:=t1) (p:=p) rfl (jE (fa:=ae 2) (fb:=dC (.int 1)) (t:=t1) (a:=m) (b:=1) rfl rfl) e1) (by lia)
 have E2:=(rS (ρ:=af) (k:=cb 4) (b:=uw p) E1).trans e
 show(bj _ (bj (gZ gf (kS _) (uw p)) _):WS af) [.val (.adr p),.val (wD M ts),.val (.int m),.no,.no,.no,.no,.no] w=_
 exact(bP (ρ:=af) (eh (ρ:=af) (t':=t1) rfl)).trans ((bP (ρ:=af) E2).trans (rQ (ρ:=af) rfl))
def Bi{M:Nat}(pos:0<M)(hM:M<=1000):∀(xs acc:Ql Eg) (w:Int×Int),Tc w->acc.length+3*xs.length<=1000->gc M xs->gc M acc ->
  ∃(Ry:Ql Eg) (w':Int×Int),Tc w'/\Ry.length<=acc.length+3*xs.length/\gc M Ry/\(∀w:Eg,w.1≠w.2->(w∈Ry↔w∈acc\/w∈xs))/\∀(p:U1) (s1 s4 s5:Sl),∃u4 u5,eM gf (uz p) (xs.map pD) [.val (.adr p),s1,.val (.int (M:Int)),.own (acc.map pD),s4,s5] w=Qs (.nx [.val (.adr p),s1,.val (.int (M:Int)),.own (Ry.map pD),u4,u5] w')
 |[],acc,w,ok,_,_,hi=>⟨acc,w,ok,by simp,hi,λw _=>by simp,λp s1 s4 s5=>⟨s4,s5,rfl⟩⟩
 |x::xs,acc,w,ok,hl,hx,hi=>by
  rw[M9]at hl
  obtain⟨a,w1,a0,a1,o1,e1⟩:=gj ok (m:=(M:Int)) (by lia) (Tb (by lia) (by lia))
  have al:(acc++[x,(a,a),x]).length=acc.length+3:=by simp
  obtain⟨Ry,w',o',l',i',m',run⟩:=Bi pos hM xs (acc++[x,(a,a),x]) w1 o1 (by lia) (λy hy=>hx y (MM _ hy)) (λy hy=>by
   rcases ML.mp hy with z | z
   .exact hi y z
   .simp only[MQ,Og,or_false]at z
    rcases z with z | z | z
    .rw[z];exact hx x (MN ..)
    .rw[z];exact⟨⟨a0,a1⟩,a0,a1⟩
    .rw[z];exact hx x (MN ..))
  refine⟨Ry,w',o',by rw[M9];lia,i',λy hy=>?_,λp s1 s4 s5=>?_⟩
  .rw[m' y hy,ML]
   simp only[MQ,Og,or_false]
   have na:y≠(a,a):=λz=>hy (by rw[z])
   constructor
   .rintro((h | h | h | h) |h)
    .exact .inl h
    .exact .inr (.inl h)
    .exact absurd h na
    .exact .inr (.inl h)
    .exact .inr (.inr h)
   .rintro(h | h | h)
    .exact .inl (.inl h)
    .exact .inl (.inr (.inl h))
    .exact .inr h
  .obtain⟨u4,u5,e⟩:=run p s1 (.val (pD x)) (.val (.int a))
   refine⟨u4,u5,?_⟩
   let t:Th:=[.val (.adr p),s1,.val (.int (M:Int)),.own (acc.map pD),.val (pD x),s5]
   have A1:=iC (ρ:=af) (i:=5) (fV (i:=0) (t:=t) (p:=p) rfl (rfl:ae 2 t=Qs (.cl (.int (M:Int)))) e1) (by simp[t])
   let t1:Th:=[.val (.adr p),s1,.val (.int (M:Int)),.own (acc.map pD),.val (pD x),.val (.int a)]
   have ct:(d2 c9 bE (ai cE (ag bA (ag (ai cY (ag bJ fw)) jH)))) t1=Qs (.nw ((acc++[x,(a,a),x]).map pD)):=by
    rw[cQ (rfl:ae 3 t1=Qs (.tm (.lst (acc.map pD)))) (rfl:ai cE (ag bA (ag (ai cY (ag bJ fw)) jH)) t1=Qs (.nw ([x,(a,a),x].map pD))),Od]
    show kQ (.tm (.lst (acc.map pD))) (.nw ([x,(a,a),x].map pD))=_
    unfold kQ
    simp only[Ev.d,Ev.ok,mE,NW,Bool.true_and]
    rw[QO (RC (by simp;lia))]
   have A2:=ik (i:=3) ct (by simp[t1])
   exact(oK (ρ:=af) (t1:=t) rfl ((bP (ρ:=af) A1).trans (eh (ρ:=af) A2))).trans e
def JG{w:Int×Int}(ok:Tc w) (pos:0<M)(hM:M<=1000) (hl:ws.length<=300)(hi:gc M ws):∃(Ry:Ql Eg) (w':Int×Int),Tc w'/\Ry.length<=1000/\gc M Ry/\pN ws Ry/\p9 w [.lst (ws.map pD),.int (M:Int)]=Qs (.nw (Ry.map pD),w'):=by
 obtain⟨Ry,w',o',l',i',m',run⟩:=Bi pos hM ws.reverse [] w ok (by rw[PH];simp;lia) (λy hy=>hi y (List.mem_reverse.mp hy)) (λ_ h=>nomatch h)
 rw[PH,Pd]at l'
 refine⟨Ry,w',o',by lia,i',λy hy=>?_,jj rfl λp=>?_⟩
 .rw[m' y hy]
  simp
 .obtain⟨u4,u5,e⟩:=run p (.val (.lst (ws.map pD))) .no .no
  let t1:Th:=[.val (.adr p),.val (.lst (ws.map pD)),.val (.int (M:Int)),.own [],.no,.no]
  have rv:cF (d1 hU aA) t1=Qs (Qt,ws.reverse.map pD):=by
   unfold cF
   have:d1 hU aA t1=Qs (.nw ((ws.map pD).reverse)):=rfl
   rw[this,Q6]
   rfl
  have E2:=(rS (ρ:=af) (k:=cb 4) (b:=uz p) (tQ (ρ:=af) (w:=w) rv)).trans e
  show(bj _ (bj (gZ gf (iK af (cF (d1 hU aA))) (uz p)) _):WS af) [.val (.adr p),.val (.lst (ws.map pD)),.val (.int (M:Int)),.no,.no,.no] w=_
  exact(bP (ρ:=af) (eh (ρ:=af) (t':=t1) rfl)).trans ((bP (ρ:=af) E2).trans (rQ (ρ:=af) rfl))
def oN(n:Nat):∀xs ys:Ql Int,(((xs.map D.int).zip (ys.map D.int)).all λp=>aS n p.1 p.2)=Qt
 |[],_=>rfl
 |_::_,[]=>rfl
 |x::xs,y::ys=>by
  rw[M4,M4,Nu,NQ,oN n xs ys,Qb]
  cases n<;>rfl
def Dh{G:Ql D->Qo Ev}{d:D}(h:G (rs.map Ev.d)=Qs (.cl d))(ho:rs.all Ev.ok=Qt):aO G rs=Qs (.cl d):=by
 unfold aO
 rw[h,ho]
 rfl
def JD(T:Ql Int)(ms:Ql (Ql Int×(Int×Int))):D:=.tup [iL T,.lst (ms.map bO)]
def JK(n:Nat)(x:Ql Int×(Int×Int)):aS (n+2) (bO x) (bO x)=Qt:=by
 show(([cZ x.1,pD x.2].zip [cZ x.1,pD x.2]).all λp=>aS (n+1) p.1 p.2)=Qt
 simp only[Nu,List.zip_nil_right,NQ,List.all_nil,Qb,MX]
 refine⟨?_,?_⟩
 .show(((x.1.map D.int).zip (x.1.map D.int)).all λp=>aS n p.1 p.2)=Qt
  exact oN n x.1 x.1
 .show(([D.int x.2.1,D.int x.2.2].zip [D.int x.2.1,D.int x.2.2]).all λp=>aS n p.1 p.2)=Qt
  exact oN n [x.2.1,x.2.2] [x.2.1,x.2.2]
def mF{n:Nat}:∀L:Ql D,(∀d∈L,aS n d d=Qt)->((L.zip L).all λp=>aS n p.1 p.2)=Qt
 |[],_=>rfl
 |d::L,h=>by
  rw[Nu,NQ,MX]
  exact⟨h d (MN ..),mF L λx hx=>h x (MM _ hx)⟩
def uG(n:Nat)(T:Ql Int)(ms:Ql (Ql Int×(Int×Int))):aS (n+4) (JD T ms) (JD T ms)=Qt:=by
 show(([iL T,D.lst (ms.map bO)].zip [iL T,D.lst (ms.map bO)]).all λp=>aS (n+3) p.1 p.2)=Qt
 refine mF _ λd hd=>?_
 simp only[MQ,Og,or_false]at hd
 rcases hd with z | z
 .rw[z]
  show(((T.map D.int).zip (T.map D.int)).all λp=>aS (n+2) p.1 p.2)=Qt
  exact oN _ T T
 .rw[z]
  show(((ms.map bO).zip (ms.map bO)).all λp=>aS (n+2) p.1 p.2)=Qt
  refine mF _ λd hd=>?_
  obtain⟨x,_,rfl⟩:=Ny.mp hd
  exact JK n x
def hD(M:Nat)(ts:Ql (Int×Int))(wl:Ql Int)(ws:Ql Eg):Ql D:=[wD M ts,iL wl,.lst (ws.map pD)]
def K9(M:Nat)(ts:Ql (Int×Int))(wl:Ql Int)(ws:Ql Eg):aS 6 (.lst (hD M ts wl ws)) (.lst (hD M ts wl ws))=Qt:=by
 show(((hD M ts wl ws).zip (hD M ts wl ws)).all λp=>aS 5 p.1 p.2)=Qt
 refine mF _ λd hd=>?_
 simp only[hD,MQ,Og,or_false]at hd
 rcases hd with z | z | z
 .rw[z]
  show(([D.int (M:Int),.lst (ts.map pD)].zip [D.int (M:Int),.lst (ts.map pD)]).all λp=>aS 4 p.1 p.2)=Qt
  refine mF _ λd hd=>?_
  simp only[MQ,Og,or_false]at hd
  rcases hd with z | z
  .rw[z];rfl
  .rw[z];exact xE 2 ts
 .rw[z]
  show(((wl.map D.int).zip (wl.map D.int)).all λp=>aS 4 p.1 p.2)=Qt
  exact oN _ wl wl
 .rw[z];exact xE 3 ws
def wa{d:D}(ha:fa t=Qs r1)(hb:fb t=Qs r2)(h1:r1.d=d)(h2:r2.d=d)(ok:aS 6 d d=Qt):aI (d2 dU fa fb) t=Qs Qf:=by
 unfold aI
 rw[cQ ha hb]
 unfold dU
 rw[h1,h2,QO ok,Ug.mpr rfl]
 rfl
def Km{d:D}(h1:r1.d=d)(h2:r2.d=d)(ok:aS 6 d d=Qt):dU r1 r2=Qs (.cl (.bl Qf)):=by
 unfold dU
 rw[h1,h2,QO ok,Ug.mpr rfl]
 rfl
def sS{d:D}(h:f t=Qs r)(hd:toDn r=Qs d):dF f t=Qs (d,[]):=by
 unfold dF
 rw[h,MP,hd]
 rfl
def n8{f:DN}{g:gx}{d:D}(h:f t=Qs (d,[]))(hg:g t=Qs (ds,[])):dQ f g t=Qs (d::ds,[]):=by
 unfold dQ
 rw[h,MP,hg,MP]
 rfl
def Jz{g:gx}(h:g t=Qs (ds,[]))(hl:ds.length<=1000):n6 g t=Qs (.tup ds,[]):=by
 unfold n6
 rw[h,MP,QO hl]
def Js{g:gx}(h:g t=Qs (ds,[]))(hl:ds.length<=1000):oV g t=Qs (.dn (.lst ds)):=by
 unfold oV
 rw[h,MP,RC hl]
 rfl
def Mq(L:Ql D)(d:D):L2.RP (L++[d]) (-1)=Qs d:=by
 unfold L2.RP
 have e:Sz (L++[d]).length (-1)=Qs L.length:=by
  unfold L2.Sz
  rw[QU (by decide),Nl,N5,QO (by lia)]
  congr 1
  lia
 rw[e,MP]
 simp
def Kz(L:Ql D)(d:D):∃r:Ev,az (.tm (.lst (L++[d]))) (.cl (.int (-1)))=Qs r/\r.d=d:=by
 have e:az (.tm (.lst (L++[d]))) (.cl (.int (-1)))=(L2.RP (L++[d]) (-1)).map λx=>if(Ev.tm (.lst (L++[d]))).ok||flat x then Ev.cl x else Ev.tm x:=rfl
 rw[e,Mq]
 show ∃r:Ev,Qs (if((Ev.tm (.lst (L++[d]))).ok||flat d)=Qt then Ev.cl d else Ev.tm d)=Qs r/\r.d=d
 refine⟨_,rfl,?_⟩
 split<;>rfl
def CY:∀(ts:Ql (Int×Int)) (w:Int×Int),Tc w->∃(ws:Ql Int) (w':Int×Int),Tc w'/\ws.length=ts.length/\(∀x∈ws,0<=x/\x<=1000000000)/\∀(p:U1) (s:Sl),eO (ρ:=af) bB ny (eX p lz (aX jG SU)) (ts.map pD) [s,.val (.adr p)] w=Qs (ws.map D.int,w')
 |[],w,ok=>⟨[],w,ok,rfl,λf hf=>(by cases hf),λp s=>rfl⟩
 |x::xs,w,ok=>by
  obtain⟨a,w1,a0,a1,o1,e1⟩:=Ec ok
  obtain⟨fs,w',o',l',h',run⟩:=CY xs w1 o1
  refine⟨a::fs,w',o',by rw[M9,M9,l'],λf hf=>?_,λp s=>?_⟩
  .rcases MQ.mp hf with z | z
   .rw[z];exact⟨a0,a1⟩
   .exact h' f z
  .let t:Th:=[.val (pD x),.val (.adr p)]
   have fe:eX (ρ:=af) p lz (aX jG SU) t w=Qs (.cl (.int a),w1):=oQ (ρ:=af) (rs:=[]) (gb (ρ:=af) (cG (rfl:ae 1 t=Qs (.cl (.adr p)))) (mW (ρ:=af))) e1
   exact LN (ρ:=af) (k:=cb 0) (ft:=ny) (ys:=(fs.map D.int,w')) (t1:=t) rfl rfl fe (run p (.val (pD x)))
def tM{C:U1}(J:Tz M ts wl ws){T:Ql Int}{ms:Ql (Ql Int×(Int×Int))}(hT:hX M ts wl ws=T)(hm:fT M ts wl ws=ms){r3:Ev}(h1:r1.d=wD M ts)(h2:r2.d=iL wl)(h3:r3.d=.lst (ws.map pD)):aO (gU C) [r1,r2,r3]=Qs (.dn (JD T ms)):=by
 unfold aO
 rw[M4,M4,M4,Qr,h1,h2,h3,Kw J]
 subst hT
 subst hm
 show Qs (gD _ (.dn (wM M ts wl ws)))=_
 unfold gD
 split<;>rfl
def Ky (J:Tz M ts wl ws):(fT M ts wl ws).length<=45:=by
 have E:=J.end
 have h1:(fT M ts wl ws).length=(wide (fG M ts wl ws)).length:=by
  show(fL _).length=_
  rw[(nH _).length_eq,MY]
 have h2:(wide (fG M ts wl ws)).length<=(fG M ts wl ws).n:=by
  have:=OF (λp=>decide (0<(fG M ts wl ws).wd p)) (aj (fG M ts wl ws).n)
  rw[fg]at this
  exact this
 have:=E.ok.nM
 have:=E.Ti
 have:=J.Ti.1
 lia
def Kx (J:Tz M ts wl ws):yF (fT M ts wl ws):=λx hx=>by
 obtain⟨a,b,a0,a1,b0,b1,e⟩:=AZ J hx
 rw[e]
 exact Lj a0 a1 b0 b1
def DY(wl:Ql Int)(m a:Int):aR (wl.map λx=>x*m) a=m*aR wl a:=by
 unfold aR
 rw[M5,M5,Nj]
 cases wl[a.toNat]? with
 |none=>show(0:Int)=m*0;rw[Pb]
 |some x=>show x*m=m*x;exact Qz _ _
def Mi{C:U1}{c n:Int}(po:Tc (c,n)){L:Ql D}(hL:L.length<=50)(N K s5 s6 s7 s8 s9 Tg Te:Sl) :
  ∃(d:D) (u5 u6 u7 u8 u9 UH UG:Sl),aS 5 d d=Qt/\∀p:U1,(mU C p [N,.own L,.own L,K,.val (.adr p),s5,s6,s7,s8,s9,Tg,Te] (c,n)).map (kq 4)=Qs (.nx [N,.own (L++[d]),.own (L++[d]),K,.no,u5,u6,u7,u8,u9,UH,UG]):=by
 obtain⟨M,ts,w1,hw,mM,lts,o1,ew⟩:=Ee po (m:=8) (by decide) (by decide)
 have hM:M<=8:=by lia
 have ht:ts.length<=36:=NG lts (Lu M (by lia))
 obtain⟨wl,w2,o2,X5,Vo,Yt⟩:=CY ts w1 o1
 obtain⟨ws,w3,o3,lws,UM,all,e3⟩:=D9 o2 (M:=M) (by lia) hw (by lia) (m:=5) (by decide) (by decide)
 obtain⟨q,w4,q0,q1,o4,e4⟩:=gj o3 (m:=999) (by decide) (Tb (by decide) (by decide))
 obtain⟨Ry,w5,o5,zgh,zcV,same,e5⟩:=JG o4 hw.pos (M:=M) (by lia) (by lia) UM
 have big:((10 ^ 20:Nat):Int)=100000000000000000000:=by decide
 have J:Tz M ts wl ws:=⟨hw,⟨by lia,by lia,by lia⟩,X5,λx hx=>by rw[big];have:=Vo x hx;lia,UM,all⟩
 let m:Int:=2+q
 have m0:0<m:=by show 0<2+q;lia
 have m1:m<1001:=by show 2+q<1001;lia
 have kb:(1001:Int)<=(DL.RN:Int):=by decide +kernel
 have mb:m<(DL.RN:Int):=by lia
 have J2:Tz M ts (wl.map λx=>x*m) ws:=⟨hw,⟨by lia,by lia,by lia⟩,by rw[MY];exact X5,λx hx=>by
  obtain⟨y,hy,rfl⟩:=Ny.mp hx
  have hy:=Vo y hy
  have a1:=QG hy.1 (NR m0)
  have a2:=OM hy.2 (NR m0)
  rw[big]
  lia,UM,all⟩
 have J3:Tz M ts wl Ry:=⟨hw,⟨by lia,by lia,by lia⟩,X5,λx hx=>by rw[big];have:=Vo x hx;lia,zcV,λx hx=>by
  by_cases z:x.1=x.2
  .rw[z];exact .refl _
  .exact all x ((same x z).mpr hx)⟩
 have J4:Tz (M+1) ts wl ws:=⟨⟨by lia,λe he=>by have:=hw.lt e he;lia⟩,⟨by lia,by lia,by lia⟩,X5,λx hx=>by rw[big];have:=Vo x hx;lia,λx hx=>by have:=UM x hx;lia,all⟩
 obtain⟨T,hT⟩:∃T,hX M ts wl ws=T:=⟨_,rfl⟩
 obtain⟨ms,hm⟩:∃ms,fT M ts wl ws=ms:=⟨_,rfl⟩
 have YT:=Ey J
 have Ti:=Ky J
 have good:=Kx J
 have s2:=wL (d:=0) (m:=m) (U5:=wl.map λx=>x*m) (Ry:=ws) J m0 (λa _ _=>DY wl m a) (λ_ _=>Iff.rfl)
 have s3:=wL (d:=0) (m:=1) (U5:=wl) (Ry:=Ry) J (by decide) (λa _ _=>(Rj _).symm) same
 have s4:=wL (d:=1) (m:=1) (U5:=wl) (Ry:=ws) J (by decide) (λa _ _=>(Rj _).symm) (λ_ _=>Iff.rfl)
 rw[YT,hT,hm]at s3 s4
 rw[hT,hm]at s2
 rw[hm]at Ti good YT
 rw[Nat.add_zero]at s2 s3
 have ZS:=y9 (T:=T) (ms:=ms) (by lia) good (m:=1) (by decide) (by lia)
 rw[YT]at ZS
 have tmm:=y9 (T:=T) (ms:=ms) (by lia) good m0 mb
 let d:D:=JD T ms
 let W:Sl:=.val (wD M ts)
 let A:Sl:=.val (iL wl)
 let V:Sl:=.val (.lst (ws.map pD))
 let O:Sl:=.own L
 let O2:Sl:=.own (L++[d])
 let H:Sl:=.dp (.lst (hD M ts wl ws))
 refine⟨d,W,A,V,.dp (.lst [.tup [.int (M:Int),.lst []],.lst [],.lst []]),.val d,.val (.int m),.val (wD (M+1) ts),uG 1 T ms,λp=>?_⟩
 let P:Sl:=.val (.adr p)
 let t0:Th:=[N,O,O,K,P,s5,s6,s7,s8,s9,Tg,Te]
 have F0:=iC (ρ:=af) (i:=5) (t:=t0) (w:=(c,n)) (oQ (ρ:=af) (p:=p) (G:=pW) (rs:=[.cl (.int 8)]) (gb (ρ:=af) (cG (rfl:ae 4 t0=Qs (.cl (.adr p)))) (gb (ρ:=af) (cG (rfl:dC (.int 8) t0=Qs (.cl (.int 8)))) (mW (ρ:=af)))) ew) (by simp[t0])
 let t1:Th:=[N,O,O,K,P,W,s6,s7,s8,s9,Tg,Te]
 have fl:cF (d2 az (ae 5) (dC (.int 1))) t1=Qs (Qt,ts.map pD):=by
  unfold cF
  rw[lJ (i:=5) (t:=t1) rfl]
  rfl
 have F1:=zB (ρ:=af) (i:=6) (LC (ρ:=af) (n:=1) (cap:=[4]) (k:=cb 0) (ft:=ny) (fe:=eX p lz (aX (bg af (ae 1)) SU)) (t:=t1) (c:=Qt) (cs:=[.adr p]) (tQ (ρ:=af) (w:=w1) fl) rfl (by rw[MY];lia) (Yt p .no) (Ss wl)) (by simp[t1])
 let t2:Th:=[N,O,O,K,P,W,.own (wl.map D.int),s7,s8,s9,Tg,Te]
 have F2:=zB (ρ:=af) (i:=7) (t:=t2) (w:=w2) (w1:=w3) (xs:=ws.map pD) (oQ (ρ:=af) (p:=p) (G:=pV) (rs:=[.cl (wD M ts),.cl (.int 5)]) (gb (ρ:=af) (cG (rfl:ae 4 t2=Qs (.cl (.adr p)))) (gb (ρ:=af) (cG (rfl:ae 5 t2=Qs (.cl (wD M ts)))) (gb (ρ:=af) (cG (rfl:dC (.int 5) t2=Qs (.cl (.int 5)))) (mW (ρ:=af))))) e3) (by simp[t2])
 let t3:Th:=[N,O,O,K,P,W,.own (wl.map D.int),.own (ws.map pD),s8,s9,Tg,Te]
 let t4:Th:=[N,O,O,K,P,W,A,V,s8,s9,Tg,Te]
 have nl:vw t4=Qs (.dn (.lst (hD M ts wl ws))):=by
  refine Js (ds:=hD M ts wl ws) (n8 (Jz (ds:=[.int (M:Int),.lst (ts.map pD)]) (n8 (sS (qz (i:=5) (t:=t4) rfl) rfl) (n8 (sS (tj (lJ (i:=5) (t:=t4) rfl) rfl) ?_) rfl)) (by simp)) (n8 (sS (mq (xs:=wl) (f:=ae 6) (t:=t4) (r:=.cl (iL wl)) rfl rfl) ?_) (n8 (sS (tj (ts:=ws) (f:=ae 7) (t:=t4) (r:=.cl (.lst (ws.map pD))) rfl rfl) ?_) rfl))) (by simp[hD])
  .exact QO (mE ts)
  .exact QO (Ss wl)
  .exact QO (mE ws)
 have F3:zQ t3=Qs (.nx [N,O,O,K,P,W,A,V,H,s9,Tg,Te]):=by
  refine Eq.trans (b:=aM 8 vw t4) rfl ?_
  exact pH (i:=8) nl (by simp[t4])
 let t5:Th:=[N,O,O,K,P,W,A,V,H,s9,Tg,Te]
 have F4:=pH (i:=9) (f:=(ai (aO (gU C)) (ag (d2 az (ae 8) (dC (.int 0))) (ag (d2 az (ae 8) (dC (.int 1))) (ag (d2 az (ae 8) (dC (.int 2))) ao))))) (t:=t5) ((kn (rfl:(d2 az (ae 8) (dC (.int 0))) t5=Qs (.tm (wD M ts))) (rfl:(d2 az (ae 8) (dC (.int 1))) t5=Qs (.tm (iL wl))) (rfl:(d2 az (ae 8) (dC (.int 2))) t5=Qs (.tm (.lst (ws.map pD))))).trans (tM J hT hm rfl rfl rfl)) (by simp[t5])
 let t6:Th:=[N,O,O,K,P,W,A,V,H,.dp d,Tg,Te]
 let ZV:Th:=[N,O,O,K,P,W,A,V,H,.val d,Tg,Te]
 have F5:zP t6=Qs (.nx [N,O,O2,K,P,W,A,V,H,.val d,Tg,Te]):=by
  refine Eq.trans (b:=fH 2 (ae 9) ZV) rfl ?_
  exact pJ ZV (i:=2) (d:=d) (f:=ae 9) rfl rfl (by lia)
 let t7:Th:=[N,O,O2,K,P,W,A,V,H,.val d,Tg,Te]
 have F6:zO t7=Qs (.nx [N,O2,O2,K,P,W,A,V,H,.val d,Tg,Te]):=by
  have c6:=(eG (k:=aO lB) (rfl:ae 9 t7=Qs (.cl d)) (rfl:dC (.int 1) t7=Qs (.cl (.int 1)))).trans (Dh (d:=d) ZS rfl)
  exact pJ t7 (i:=1) (d:=d) c6 rfl (by lia)
 let t8:Th:=[N,O2,O2,K,P,W,A,V,H,.val d,Tg,Te]
 have F7:=iC (ρ:=af) (i:=10) (d6 (ρ:=af) (cG (rfl:dC (.int 2) t8=Qs (.cl (.int 2)))) (fV (i:=4) (t:=t8) (p:=p) rfl (rfl:dC (.int 999) t8=Qs (.cl (.int 999))) e4) tE) (by simp[t8])
 let t9:Th:=[N,O2,O2,K,P,W,A,V,H,.val d,.val (.int m),Te]
 have F8:(zN C) t9=Qs (.nx t9):=by
  have c1:=xY (cap:=[10]) (f:=ae 6) (fe:=(d2 qM (ae 0) (ae 1))) (t:=t9) (r:=.cl (iL wl)) (xs:=wl) (g:=λx=>x*m) (b:=Qt) (c:=[.int m]) rfl rfl (by lia) rfl (λx hx=>by
   have:=Vo x hx
   exact mf (fa:=ae 0) (fb:=ae 1) (a:=x) (b:=m) rfl rfl (Tb (by lia) (by lia)) (Tb (by lia) (by lia)))
  have c2:=(kn (k:=aO (gU C)) (rfl:ae 5 t9=Qs (.cl (wD M ts))) c1 (rfl:ae 7 t9=Qs (.cl (.lst (ws.map pD))))).trans (tM J2 s2.1 s2.2 rfl rfl rfl)
  have c3:=(eG (k:=aO lB) (rfl:ae 9 t9=Qs (.cl d)) (rfl:ae 10 t9=Qs (.cl (.int m)))).trans (Dh tmm rfl)
  exact gu (wa c2 c3 rfl rfl (uG 2 _ _)) rfl
 have last:∀t:Th,t[1]?=Qs O2->∃r:Ev,(d2 az (ae 1) (d1 jk (dC (.int 1)))) t=Qs r/\r.d=d:=λt ht=>by
  have h1:ae 1 t=Qs (.tm (.lst (L++[d]))):=by unfold ae;rw[ht]
  rw[cQ h1 (rfl:d1 jk (dC (.int 1)) t=Qs (.cl (.int (-1))))]
  exact Kz L d
 obtain⟨r9,l9,d9⟩:=last t9 rfl
 have F9:(zM C p) t9 w4=Qs (.nx t9 w5):=by
  have x1:=oQ (ρ:=af) (p:=p) (G:=p9) (t:=t9) (w:=w4) (rs:=[.cl (.lst (ws.map pD)),.cl (.int (M:Int))]) (gb (ρ:=af) (cG (rfl:ae 4 t9=Qs (.cl (.adr p)))) (gb (ρ:=af) (cG (rfl:ae 7 t9=Qs (.cl (.lst (ws.map pD))))) (gb (ρ:=af) (cG (qz (i:=5) (t:=t9) rfl)) (mW (ρ:=af))))) e5
  have x2:=LB (ρ:=af) (k:=aO (gU C)) (gb (ρ:=af) (cG (w:=w4) (rfl:ae 5 t9=Qs (.cl (wD M ts)))) (gb (ρ:=af) (cG (w:=w4) (rfl:ae 6 t9=Qs (.cl (iL wl)))) (gb (ρ:=af) x1 (mW (ρ:=af))))) (tM J3 s3.1 s3.2 rfl rfl rfl)
  exact(rR (ρ:=af) (nD (ρ:=af) (d6 (ρ:=af) x2 (cG l9) (Km (d:=d) rfl d9 (uG 2 _ _))))).trans rfl
 have F10:zW t9=Qs (.nx [N,O2,O2,K,P,W,A,V,H,.val d,.val (.int m),.val (wD (M+1) ts)]):=by
  have a1:=jE (qz (i:=5) (t:=t9) rfl) (rfl:dC (.int 1) t9=Qs (.cl (.int 1)))
  rw[show(M:Int)+1=((M+1:Nat):Int) by lia]at a1
  have a2:=(eG (k:=cY) a1 (tj (lJ (i:=5) (t:=t9) rfl) rfl)).trans rfl
  exact iW (i:=11) a2 (by simp[t9])
 let UI:Th:=[N,O2,O2,K,P,W,A,V,H,.val d,.val (.int m),.val (wD (M+1) ts)]
 obtain⟨Z5,l11,d11⟩:=last UI rfl
 have F11:(zV C) UI=Qs (.nx UI):=by
  have c2:=(kn (k:=aO (gU C)) (rfl:ae 11 UI=Qs (.cl (wD (M+1) ts))) (rfl:ae 6 UI=Qs (.cl (iL wl))) (rfl:ae 7 UI=Qs (.cl (.lst (ws.map pD))))).trans (tM J4 s4.1 s4.2 rfl rfl rfl)
  exact gu (wa (d:=d) c2 l11 rfl d11 (uG 2 _ _)) rfl
 have F12:zU UI=Qs (.nx UI):=gu (wa (rfl:ae 8 UI=Qs (.tm (.lst (hD M ts wl ws)))) (rfl:(ai cE (ag (ae 5) (ag (ae 6) (ag (ae 7) ao)))) UI=Qs (.nw (hD M ts wl ws))) rfl rfl (K9 M ts wl ws)) rfl
 have F13:zT UI=Qs (.nx [N,O2,O2,K,P,W,A,V,.dp (.lst [.tup [.int (M:Int),.lst []],iL wl,.lst (ws.map pD)]),.val d,.val (.int m),.val (wD (M+1) ts)]):=rfl
 have F14:zS [N,O2,O2,K,P,W,A,V,.dp (.lst [.tup [.int (M:Int),.lst []],iL wl,.lst (ws.map pD)]),.val d,.val (.int m),.val (wD (M+1) ts)]=Qs (.nx [N,O2,O2,K,P,W,A,V,.dp (.lst [.tup [.int (M:Int),.lst []],.lst [],.lst (ws.map pD)]),.val d,.val (.int m),.val (wD (M+1) ts)]):=rfl
 have F15:zR [N,O2,O2,K,P,W,A,V,.dp (.lst [.tup [.int (M:Int),.lst []],.lst [],.lst (ws.map pD)]),.val d,.val (.int m),.val (wD (M+1) ts)]=Qs (.nx [N,O2,O2,K,P,W,A,V,.dp (.lst [.tup [.int (M:Int),.lst []],.lst [],.lst []]),.val d,.val (.int m),.val (wD (M+1) ts)]):=rfl
 have run:mU C p t0 (c,n)=Qs (.nx [N,O2,O2,K,P,W,A,V,.dp (.lst [.tup [.int (M:Int),.lst []],.lst [],.lst []]),.val d,.val (.int m),.val (wD (M+1) ts)] w5) :=
  (bP (ρ:=af) F0).trans ((bP (ρ:=af) F1).trans ((bP (ρ:=af) F2).trans ((bP (ρ:=af) (eh (ρ:=af) F3)).trans ((bP (ρ:=af) (eh (ρ:=af) F4)).trans ((bP (ρ:=af) (eh (ρ:=af) F5)).trans ((bP (ρ:=af) (eh (ρ:=af) F6)).trans ((bP (ρ:=af) F7).trans ((bP (ρ:=af) (eh (ρ:=af) F8)).trans ((bP (ρ:=af) F9).trans ((bP (ρ:=af) (eh (ρ:=af) F10)).trans ((bP (ρ:=af) (eh (ρ:=af) F11)).trans ((bP (ρ:=af) (eh (ρ:=af) F12)).trans ((bP (ρ:=af) (eh (ρ:=af) F13)).trans ((bP (ρ:=af) (eh (ρ:=af) F14)).trans (eh (ρ:=af) F15)))))))))))))))
 show(mU C p t0 (c,n)).map (kq 4)=_
 rw[run]
 rfl
noncomputable def yk(C:U1):DS:=(aE (aM 4 (ai (aO pY) (ag av gz))) (k7 4 λp=>mU C p))
def Bk{C:U1}(ns:Ql Int)(hl:ns.length<=63):∀(ks:Ql Nat) (L:Ql D) (s3 s4 s5 s6 s7 s8 s9 Tg Te:Sl),(∀k∈ks,k<=100)->L.length+ks.length<=50->(∀d∈L,aS 5 d d=Qt) ->
  ∃(L':Ql D) (u3 u4 u5 u6 u7 u8 u9 UH UG:Sl),(∀d∈L',aS 5 d d=Qt)/\bQ iy (yk C) (ks.map λ(k:Nat)=>D.int (k:Int)) [.val (.lst (ns.map D.int)),.own L,.own L,s3,s4,s5,s6,s7,s8,s9,Tg,Te]=Qs (.nx [.val (.lst (ns.map D.int)),.own L',.own L',u3,u4,u5,u6,u7,u8,u9,UH,UG])
 |[],L,s3,s4,s5,s6,s7,s8,s9,Tg,Te,_,_,h=>⟨L,s3,s4,s5,s6,s7,s8,s9,Tg,Te,h,rfl⟩
 |k::ks,L,s3,s4,s5,s6,s7,s8,s9,Tg,Te,hk,hL,h=>by
  rw[M9]at hL
  let N:Sl:=.val (.lst (ns.map D.int))
  let K:Sl:=.val (.int (k:Int))
  obtain⟨c,n,po,ep⟩:=Hy ns hl (k:=k) (hk k (MN ..))
  obtain⟨d,v5,v6,v7,v8,v9,v10,v11,hd,run⟩:=Mi (C:=C) po (L:=L) (by lia) N K s5 s6 s7 s8 s9 Tg Te
  obtain⟨L',u3,u4,u5,u6,u7,u8,u9,UH,UG,h',e⟩:=Bk ns hl ks (L++[d]) K .no v5 v6 v7 v8 v9 v10 v11 (λk Y6=>hk k (MM _ Y6)) (by rw[Nl,N5];lia) (λx hx=>by
   rcases ML.mp hx with z | z
   .exact h x z
   .rw[MS.mp z];exact hd)
  refine⟨L',u3,u4,u5,u6,u7,u8,u9,UH,UG,h',?_⟩
  let t0:Th:=[N,.own L,.own L,K,s4,s5,s6,s7,s8,s9,Tg,Te]
  have E1:=ik (i:=4) (t:=t0) ((eG (rfl:ae 0 t0=Qs (.cl (.lst (ns.map D.int)))) (rfl:ae 3 t0=Qs (.cl (.int (k:Int))))).trans (pB (xs:=[c,n]) ep)) (by simp[t0])
  have E2:k7 4 (λp=>mU C p) [N,.own L,.own L,K,.own [.int c,.int n],s5,s6,s7,s8,s9,Tg,Te]=Qs (.nx [N,.own (L++[d]),.own (L++[d]),K,.no,v5,v6,v7,v8,v9,v10,v11]):=KS (c:=c) (n:=n) rfl run
  exact(j7 (t1:=t0) rfl ((aL E1).trans E2)).trans e
def Ke(C:U1)(ns:Ql Int)(hl:ns.length<=63)(hb:∀n∈ns,n.natAbs<uq):yG C [.lst (ns.map D.int)]=Qs (.cl (.bl Qt)):=by
 let N:Sl:=.val (.lst (ns.map D.int))
 let t2:Th:=[N,.own [],.own [],.no,.no,.no,.no,.no,.no,.no,.no,.no]
 obtain⟨m,m1,em⟩:∃m:Nat,m<=10/\(ai qX (ag bT (ag (ai qN (ag (ai bV eZ) (ag jJ ao))) ao))) t2=Qs (.cl (.int (m:Int))):=by
  have l0:=oo (xs:=ns) (f:=ae 0) (t:=t2) (r:=.cl (.lst (ns.map D.int))) rfl rfl
  have m1:(ai qN (ag (ai bV eZ) (ag jJ ao))) t2=Qs (.cl (.int (if(10:Int)<(ns.length:Int) then 10 else(ns.length:Int)))):=(eG l0 (rfl:dC (.int 10) t2=Qs (.cl (.int 10)))).trans rfl
  obtain⟨q,q0,q1,eq⟩:∃q:Int,0<=q/\q<=10/\(if(10:Int)<(ns.length:Int) then 10 else(ns.length:Int))=q:=⟨_,by split<;>lia,by split<;>lia,rfl⟩
  rw[eq]at m1
  have m2:=eG (k:=kR λi j=>if j > i then j else i) (rfl:dC (.int 1) t2=Qs (.cl (.int 1))) m1
  refine⟨(if q > 1 then q else 1).toNat,?_,?_⟩
  .split<;>lia
  .rw[NN (by split<;>lia)]
   exact m2.trans rfl
 obtain⟨L',u3,u4,u5,u6,u7,u8,u9,UH,UG,h',e⟩:=Bk (C:=C) ns hl (NI m) [] .no .no .no .no .no .no .no .no .no (λk hk=>by have:=O6.mp hk;lia) (by rw[Pl,Pd];lia) (λ_ h=>nomatch h)
 have E3:jy iy (ai qX (ag bT (ag (ai qN (ag (ai bV eZ) (ag jJ ao))) ao))) (yk C) t2=Qs (.nx [N,.own L',.own L',u3,u4,u5,u6,u7,u8,u9,UH,UG]):=by
  unfold jy
  rw[em]
  show(if c7 (m:Int) then bQ iy (yk C) (cU 0 (m:Int).toNat) t2 else Qn)=_
  rw[QO (by unfold c7;exact RC (by lia))]
  have er:cU 0 (m:Int).toNat=(NI m).map λ(k:Nat)=>D.int (k:Int):=by unfold cU;simp
  rw[er]
  exact e
 let t3:Th:=[N,.own L',.own L',u3,u4,u5,u6,u7,u8,u9,UH,UG]
 have E4:(cx (d2 d5 aQ aA)) t3=Qs (.rt (.cl (.bl Qt))):=by
  refine jd ?_
  rw[cQ (rfl:ae 2 t3=Qs (.tm (.lst L'))) (rfl:ae 1 t3=Qs (.tm (.lst L')))]
  unfold d5
  show(if aS 6 (.lst L') (.lst L') then Qs (Ev.cl (.bl (cg (.lst L') (.lst L')))) else Qn)=_
  have ok:aS 6 (.lst L') (.lst L')=Qt:=mF L' h'
  rw[QO ok,Ug.mpr rfl]
 show(xi C [N,.no,.no,.no,.no,.no,.no,.no,.no,.no,.no,.no]).bind dD=_
 refine RN ?_
 have X1:aM 1 (ai cE ao) [N,.no,.no,.no,.no,.no,.no,.no,.no,.no,.no,.no]=Qs (.nx [N,.own [],.no,.no,.no,.no,.no,.no,.no,.no,.no,.no]):=rfl
 have X2:aM 2 (ai cE ao) [N,.own [],.no,.no,.no,.no,.no,.no,.no,.no,.no,.no]=Qs (.nx t2):=rfl
 exact(aL X1).trans ((aL X2).trans ((aL E3).trans E4))
end KX
set_option maxHeartbeats 4000000
namespace KX
open PySem.Spec L2 DL
def uS(K:MK):Sp:=λvs H Q E => ∀C:U1,SO K (yG C) vs H Q E
def all_mk{P:NA}{w:OX}{K:MK}{h:U2}{mg:Str->Qo M6}{fa:U1}(X:K.In h)(G:h.Ns mainGlobals mg)(hfa:mg "law"=Qs (.ref fa)){f0:U1}{f1:U1}{f2:U1}{f3:U1}{f4:U1}{f5:U1}{f6:U1}{f7:U1}{f8:U1}{f9:U1}{f10:U1}{f11:U1}{f12:U1}{f13:U1}{f14:U1}{f15:U1}{f16:U1}{f17:U1}{f18:U1}{f19:U1}{f20:U1}{f21:U1}{f22:U1}{f23:U1}{f24:U1}{f25:U1}{f26:U1}
  {C:U1} (hqc:Hc K "Pieces" C) (n_around:RE K C "around") (n_paid:RE K C "paid") (n_parts:RE K C "parts") (n_piece_of:RE K C "piece_of") (n_points:RE K C "points") (n_taken:RE K C "taken") (n_ties:RE K C "ties") (n_weights:RE K C "weights") (n_widths:RE K C "widths")
  (h0:Hv K "common_factor" rO f0)
  (h1:Hv K "fraction" rL f1)
  (h2:Hv K "least_led_to" qZ f2)
  (h3:Hm K C "__init__" "Pieces.__init__" vf f3)
  (h4:Hm K C "growing_beside" "Pieces.growing_beside" vc f4)
  (h5:Hm K C "left_between" "Pieces.left_between" va f5)
  (h6:Hm K C "first_full" "Pieces.first_full" ve f6)
  (h7:Hm K C "take" "Pieces.take" uX f7)
  (h8:Hm K C "halve_parts" "Pieces.halve_parts" vb f8)
  (h9:Hm K C "steps_to_full" "Pieces.steps_to_full" uY f9)
  (h10:Hm K C "grow" "Pieces.grow" vd f10)
  (h11:Hm K C "moats" "Pieces.moats" uZ f11)
  (h12:Hv K "first_parted" rM f12)
  (h13:Hv K "wanting" qW f13)
  (h14:Hv K "needed" qY f14)
  (h15:Hv K "join_by_moats" rH f15)
  (h16:Hv K "_law_pool" rD f16)
  (h17:Hv K "_law_take" rB f17)
  (h18:Hv K "_law_wide" q9 f18)
  (h19:Hv K "_law_web" rh f19)
  (h20:Hv K "_law_weight" rf f20)
  (h21:Hv K "_law_reached" rC f21)
  (h22:Hv K "_law_wishes" q8 f22)
  (h23:Hv K "_law_low" rF f23)
  (h24:Hv K "_law_times" rm f24)
  (h25:Hv K "_law_more" rE f25)
  (h26:Hv K "law" rG f26)
  (z_abs:OJ K mainGlobals "abs"=Qs Qn) (z_enumerate:OJ K mainGlobals "enumerate"=Qs Qn) (z_len:OJ K mainGlobals "len"=Qs Qn) (z_list:OJ K mainGlobals "list"=Qs Qn) (z_max:OJ K mainGlobals "max"=Qs Qn) (z_min:OJ K mainGlobals "min"=Qs Qn) (z_range:OJ K mainGlobals "range"=Qs Qn) (z_sorted:OJ K mainGlobals "sorted"=Qs Qn)   :
  pL K []/\∃fd:N8,(∀(s:M0) (v:M6),BindsTo s fd ⟨[v],[]⟩ [("_law_script",v)])/\∀base:TL,base.tabs=dk K []->K.In base->base.Ns mainGlobals mg->(∀x∈([]:Ql Str),∀c P,RT K x=Qs (c,P)->Rv base c P)->RO P w K mg base bz 5 fa fd ["_law_script"] (uS K):=by
 have e:=hfa.symm.trans (h26.mg X G)
 cases e
 have bu:SV mg:=⟨Ob X G z_abs,Ob X G z_enumerate,Ob X G z_len,Ob X G z_list,Ob X G z_max,Ob X G z_min,Ob X G z_range,Ob X G z_sorted⟩
 obtain⟨_,u0⟩:=h0.fn
 have d0:Df K mg "common_factor" rO ["one", "other"] f0 _:=⟨u0,h0.mg X G,fY u0 λ_ _ _ _ _ _ _ _=>rfl⟩
 obtain⟨_,u1⟩:=h1.fn
 have d1:Df K mg "fraction" rL ["top", "bottom"] f1 _:=⟨u1,h1.mg X G,fY u1 λ_ _ _ _ _ _ _ _=>rfl⟩
 obtain⟨_,u2⟩:=h2.fn
 have d2:Df K mg "least_led_to" qZ ["web", "numbers"] f2 _:=⟨u2,h2.mg X G,fY u2 λ_ _ _ _ _ _ _ _=>rfl⟩
 obtain⟨_,u3⟩:=h3.fn
 have b3:=jB (p0 := "self") (p1 := "web") (p2 := "weights") u3 λ_ _ _ _ _ _ _ _ _=>rfl
 obtain⟨_,u4⟩:=h4.fn
 have b4:=jB (p0 := "self") (p1 := "at") (p2 := "growing") u4 λ_ _ _ _ _ _ _ _ _=>rfl
 obtain⟨_,u5⟩:=h5.fn
 have b5:=fY (p0 := "self") (p1 := "at") u5 λ_ _ _ _ _ _ _ _=>rfl
 obtain⟨_,u6⟩:=h6.fn
 have b6:=fY (p0 := "self") (p1 := "growing") u6 λ_ _ _ _ _ _ _ _=>rfl
 obtain⟨_,u7⟩:=h7.fn
 have b7:=fY (p0 := "self") (p1 := "at") u7 λ_ _ _ _ _ _ _ _=>rfl
 obtain⟨_,u8⟩:=h8.fn
 have b8:=uu (p0 := "self") u8 λ_ _ _ _ _ _ _=>rfl
 obtain⟨_,u9⟩:=h9.fn
 have b9:=fY (p0 := "self") (p1 := "growing") u9 λ_ _ _ _ _ _ _ _=>rfl
 obtain⟨_,UH⟩:=h10.fn
 have b10:=jB (p0 := "self") (p1 := "growing") (p2 := "step") UH λ_ _ _ _ _ _ _ _ _=>rfl
 obtain⟨_,UG⟩:=h11.fn
 have b11:=uu (p0 := "self") UG λ_ _ _ _ _ _ _=>rfl
 obtain⟨_,ZQ⟩:=h12.fn
 have Zn:Df K mg "first_parted" rM ["web", "wishes", "numbers"] f12 _:=⟨ZQ,h12.mg X G,jB ZQ λ_ _ _ _ _ _ _ _ _=>rfl⟩
 obtain⟨_,ZP⟩:=h13.fn
 have d13:Df K mg "wanting" qW ["pieces", "wishes"] f13 _:=⟨ZP,h13.mg X G,fY ZP λ_ _ _ _ _ _ _ _=>rfl⟩
 obtain⟨_,ZO⟩:=h14.fn
 have d14:Df K mg "needed" qY ["web", "wishes", "taken"] f14 _:=⟨ZO,h14.mg X G,jB ZO λ_ _ _ _ _ _ _ _ _=>rfl⟩
 obtain⟨_,ZN⟩:=h15.fn
 have d15:Df K mg "join_by_moats" rH ["web", "weights", "wishes"] f15 _:=⟨ZN,h15.mg X G,jB ZN λ_ _ _ _ _ _ _ _ _=>rfl⟩
 obtain⟨_,ZM⟩:=h16.fn
 have d16:Df K mg "_law_pool" rD ["_law_script", "_law_k"] f16 _:=⟨ZM,h16.mg X G,fY ZM λ_ _ _ _ _ _ _ _=>rfl⟩
 obtain⟨_,ZL⟩:=h17.fn
 have Wr:Df K mg "_law_take" rB ["_law_pool_here", "_law_many"] f17 _:=⟨ZL,h17.mg X G,fY ZL λ_ _ _ _ _ _ _ _=>rfl⟩
 obtain⟨_,ZK⟩:=h18.fn
 have d18:Df K mg "_law_wide" q9 ["_law_pool_here", "_law_many"] f18 _:=⟨ZK,h18.mg X G,fY ZK λ_ _ _ _ _ _ _ _=>rfl⟩
 obtain⟨_,ZJ⟩:=h19.fn
 have d19:Df K mg "_law_web" rh ["_law_pool_here", "_law_most"] f19 _:=⟨ZJ,h19.mg X G,fY ZJ λ_ _ _ _ _ _ _ _=>rfl⟩
 obtain⟨_,ZI⟩:=h20.fn
 have d20:Df K mg "_law_weight" rf ["_law_pool_here"] f20 _:=⟨ZI,h20.mg X G,uu ZI λ_ _ _ _ _ _ _=>rfl⟩
 obtain⟨_,ZH⟩:=h21.fn
 have Yh:Df K mg "_law_reached" rC ["_law_web_here", "_law_ties", "_law_start"] f21 _:=⟨ZH,h21.mg X G,jB ZH λ_ _ _ _ _ _ _ _ _=>rfl⟩
 obtain⟨_,ZG⟩:=h22.fn
 have d22:Df K mg "_law_wishes" q8 ["_law_pool_here", "_law_web_here", "_law_most"] f22 _:=⟨ZG,h22.mg X G,jB ZG λ_ _ _ _ _ _ _ _ _=>rfl⟩
 obtain⟨_,ZF⟩:=h23.fn
 have d23:Df K mg "_law_low" rF ["_law_top", "_law_bottom"] f23 _:=⟨ZF,h23.mg X G,fY ZF λ_ _ _ _ _ _ _ _=>rfl⟩
 obtain⟨_,ZE⟩:=h24.fn
 have d24:Df K mg "_law_times" rm ["_law_found", "_law_many"] f24 _:=⟨ZE,h24.mg X G,fY ZE λ_ _ _ _ _ _ _ _=>rfl⟩
 obtain⟨_,ZD⟩:=h25.fn
 have d25:Df K mg "_law_more" rE ["_law_pool_here", "_law_wishes_here", "_law_points"] f25 _:=⟨ZD,h25.mg X G,jB ZD λ_ _ _ _ _ _ _ _ _=>rfl⟩
 obtain⟨_,Ym⟩:=h26.fn
 have d26:Df K mg "law" rG ["_law_script"] fa _:=⟨Ym,h26.mg X G,uu Ym λ_ _ _ _ _ _ _=>rfl⟩
 refine⟨EB,_,Hv.bt Ym λ_ _ _ _ _ _ _=>rfl,λbase ht _ _ hCd=>?_⟩
 have zfQ:=IU (P:=P) (w:=w) (base:=base) d0.fn bu
 have zfP:=IS (P:=P) (w:=w) (base:=base) d1.fn bu (d0.UC zfQ)
 have zfD:=IC (P:=P) (w:=w) (base:=base) d2.fn bu
 have zfX:=Jd (P:=P) (w:=w) (base:=base) hqc.cls n_around n_paid n_parts n_piece_of n_points n_taken n_ties n_weights n_widths u3 bu
 have zbz:=Ja (P:=P) (w:=w) (base:=base) hqc.cls n_piece_of n_ties u4 bu
 have zby:=IZ (P:=P) (w:=w) (base:=base) hqc.cls n_around n_parts n_ties n_weights u5 bu
 have zfW:=Jc (P:=P) (w:=w) (base:=base) hqc.cls n_ties u6 bu ⟨⟨_,_,_,h4.U9,b4,zbz⟩⟩ ⟨⟨_,_,_,h5.U9,b5,zby⟩⟩
 have zfR:=IV (P:=P) (w:=w) (base:=base) hqc.cls n_paid n_piece_of n_points n_taken n_ties n_widths u7 bu
 have zfU:=I0 (P:=P) (w:=w) (base:=base) hqc.cls n_around n_paid n_parts n_widths u8 bu
 have zfS:=IW (P:=P) (w:=w) (base:=base) hqc.cls n_ties u9 bu ⟨⟨_,_,_,h4.U9,b4,zbz⟩⟩ ⟨⟨_,_,_,h5.U9,b5,zby⟩⟩
 have zfV:=Jb (P:=P) (w:=w) (base:=base) hqc.cls n_around n_paid n_points n_widths UH bu
 have zfT:=IY (P:=P) (w:=w) (base:=base) hqc.cls n_parts n_points n_widths UG bu (d1.UC zfP)
 have zbx:=IT (P:=P) (w:=w) (base:=base) Zn.fn bu (d2.UC zfD)
 have zfB:=Iz (P:=P) (w:=w) (base:=base) hqc.cls n_piece_of d13.fn bu
 have zfC:=IB (P:=P) (w:=w) (base:=base) d14.fn bu (Zn.UC zbx)
 have zfO:=IQ (P:=P) (w:=w) (base:=base) hqc.cls n_taken d15.fn bu (Zn.UC zbx) ⟨⟨_,_,_,hqc.mg X G,h3.mk_ hqc.k1 hqc.k2,b3,zfX⟩⟩ (d13.UC zfB) ⟨⟨_,_,_,h6.U9,b6,zfW⟩⟩ ⟨⟨_,_,_,h8.U9,b8,zfU⟩⟩ ⟨⟨_,_,_,h10.U9,b10,zfV⟩⟩ ⟨⟨_,_,_,h9.U9,b9,zfS⟩⟩ ⟨⟨_,_,_,h7.U9,b7,zfR⟩⟩ ⟨⟨_,_,_,h11.U9,b11,zfT⟩⟩ (d14.UC zfC)
 have zfK:=IK (P:=P) (w:=w) (base:=base) d16.fn bu
 have WY:=II (P:=P) (w:=w) (base:=base) Wr.fn bu
 have zfF:=IE (P:=P) (w:=w) (base:=base) d18.fn bu (Wr.UX WY)
 have zfH:=IG (P:=P) (w:=w) (base:=base) d19.fn bu (Wr.UX WY)
 have zfG:=IF (P:=P) (w:=w) (base:=base) d20.fn bu (Wr.UX WY) (d18.UX zfF)
 have zfJ:=IJ (P:=P) (w:=w) (base:=base) Yh.fn bu
 have zfE:=ID (P:=P) (w:=w) (base:=base) d22.fn bu (Wr.UX WY) (Yh.UC zfJ)
 have zfM:=IM (P:=P) (w:=w) (base:=base) d23.fn bu
 have zfI:=IH (P:=P) (w:=w) (base:=base) d24.fn bu (d23.UC zfM)
 have zfL:=IL (P:=P) (w:=w) (base:=base) d25.fn bu (Wr.UX WY)
 have zfN:=IP (P:=P) (w:=w) (base:=base) hqc.cls  d26.fn bu (d16.UC zfK) (d19.UX zfH) (d20.UX zfG) (d22.UX zfE) (d15.UC zfO) (d24.UC zfI) (Wr.UX WY) (d25.UX zfL)
 exact zfN.imp λvs H Q E q=>q _
def walk{l:Q8}{q:NA}{loose:Ql Str}{XP:(Str->Qo M6)->U2->Prop}{YP:OX->U2->Prop}{d:DefRec}{K:Params->MK}(hn:l.most=Qs 63)(Za:d.params.defaults=[])
  (hY:∀(w:OX) (h:U2),YP w h->(K w.params).In h) (YZ:∀x∈([]:Ql Str),∃dr,(recsOf q).find? (λe=>e.name == x)=Qs dr)
  (Fx:∀(w:OX) (mg:Str->Qo M6) (fa:U1) (h:U2),(K w.params).In h->h.Ns mainGlobals mg->mg d.name=Qs (.ref fa) ->
   pL (K w.params) []/\∃fd:N8,(∀(s:M0) (u:M6),BindsTo s fd ⟨[u],[]⟩ [("_law_script",u)])/\∀base:TL,base.tabs=dk (K w.params) []->(K w.params).In base->base.Ns mainGlobals mg->(∀x∈([]:Ql Str),∀c P,RT (K w.params) x=Qs (c,P)->Rv base c P)->RO l.prog w (K w.params) mg base bz 5 fa fd ["_law_script"] (uS (K w.params))) :
  RL q loose XP YP l.row.toRowW d [] (λf vs=>PySem.call f vs) :=
 L2.zbF (n:=63) (k:=5) (x := "_law_script") (names:=[]) (CX:=λ_=>bz) (sp:=λw=>uS (K w.params)) hn (by decide) Za ⟨rfl,by decide,by decide⟩ hY YZ Fx
  (λ_ H a ns hl hb hS=>λC=>⟨[],[.lst (ns.map .int)],.cl (.bl Qt),λp hp=>(by cases hp),.cons (.lst (by rw[K5];exact hS) (QV.ints ns)) .nil,Ke C ns hl hb,λv H' _ q=>by cases q;rfl⟩) λ_ _ _ _ _ z=>z
end KX
open PySem.W
theorem PySem.W.Fast.tw3049590266882227117:True:=⟨⟩
theorem PySem.W.Fast.tw629667107744416708:True:=⟨⟩
theorem PySem.W.Fast.tw17093324051766987599:True:=⟨⟩
theorem PySem.W.Fast.tw6241419533987199784:True:=⟨⟩
theorem PySem.W.Fast.tw12680251815134348190:True:=⟨⟩
theorem PySem.W.Fast.tw8950540551928559268:True:=⟨⟩
theorem PySem.W.Fast.tw7724201028234670770:True:=⟨⟩
theorem PySem.W.Fast.tw6194581194444990175:True:=⟨⟩
theorem PySem.W.Fast.tw3371668522319886395:True:=⟨⟩
theorem PySem.W.Fast.tw1761669376990173943:True:=⟨⟩
theorem PySem.W.Fast.tw15803015324111746266:True:=⟨⟩
theorem PySem.W.Fast.tw15072643361181497316:True:=⟨⟩
theorem PySem.W.Fast.tw18294785133226882486:True:=⟨⟩
theorem PySem.W.Fast.tw15324074925536323810:True:=⟨⟩
theorem PySem.W.Fast.tw10025207703348928364:True:=⟨⟩
set_option maxRecDepth 100000 in
set_option maxHeartbeats 0 in
theorem PySem.Challenge.cw_nearenough_k69_whole_joined_alike_holds : PySem.Challenge.rw_nearenough_k69_whole_joined_alike.Holds := by
 w_on;o_law;k_head;(case hw=>w_witness2)
 k_fill
 refine KX.walk (l:=PySem.Challenge.rw_nearenough_k69_whole_joined_alike) rfl rfl (λw h Y=>by first | exact PySem.W.kIn_of Y | exact PySem.W.km_in_of Y) (by intro x hx;simp at hx) ?F
 case F =>
  intro w mg fa h KI G hmg
  refine' KX.all_mk KI G hmg ?hqc ?n_around ?n_paid ?n_parts ?n_piece_of ?n_points ?n_taken ?n_ties ?n_weights ?n_widths ?h0 ?h1 ?h2 ?h3 ?h4 ?h5 ?h6 ?h7 ?h8 ?h9 ?h10 ?h11 ?h12 ?h13 ?h14 ?h15 ?h16 ?h17 ?h18 ?h19 ?h20 ?h21 ?h22 ?h23 ?h24 ?h25 ?h26 ?z_abs ?z_enumerate ?z_len ?z_list ?z_max ?z_min ?z_range ?z_sorted
  (case hqc=>refine' DL.Hc.mk ?qa ?qb ?qc ?qd ?qe ?qf ?qg;(case qa=>k_is);(case qb=>k_is);(case qc=>k_is);(case qd=>k_is);(case qe=>k_is);(case qf=>k_is);(case qg=>k_is))
  (case n_around=>show Nr _ _ _=some none;k_is)
  (case n_paid=>show Nr _ _ _=some none;k_is)
  (case n_parts=>show Nr _ _ _=some none;k_is)
  (case n_piece_of=>show Nr _ _ _=some none;k_is)
  (case n_points=>show Nr _ _ _=some none;k_is)
  (case n_taken=>show Nr _ _ _=some none;k_is)
  (case n_ties=>show Nr _ _ _=some none;k_is)
  (case n_weights=>show Nr _ _ _=some none;k_is)
  (case n_widths=>show Nr _ _ _=some none;k_is)
  (case h3=>refine' DL.Hm.mk ?ra ?rn ?rl ?rc ?rk;(case ra=>k_is);(case rn=>k_is);(case rl=>k_is);(case rc=>k_is);(case rk=>k_is))
  (case h4=>refine' DL.Hm.mk ?ra ?rn ?rl ?rc ?rk;(case ra=>k_is);(case rn=>k_is);(case rl=>k_is);(case rc=>k_is);(case rk=>k_is))
  (case h5=>refine' DL.Hm.mk ?ra ?rn ?rl ?rc ?rk;(case ra=>k_is);(case rn=>k_is);(case rl=>k_is);(case rc=>k_is);(case rk=>k_is))
  (case h6=>refine' DL.Hm.mk ?ra ?rn ?rl ?rc ?rk;(case ra=>k_is);(case rn=>k_is);(case rl=>k_is);(case rc=>k_is);(case rk=>k_is))
  (case h7=>refine' DL.Hm.mk ?ra ?rn ?rl ?rc ?rk;(case ra=>k_is);(case rn=>k_is);(case rl=>k_is);(case rc=>k_is);(case rk=>k_is))
  (case h8=>refine' DL.Hm.mk ?ra ?rn ?rl ?rc ?rk;(case ra=>k_is);(case rn=>k_is);(case rl=>k_is);(case rc=>k_is);(case rk=>k_is))
  (case h9=>refine' DL.Hm.mk ?ra ?rn ?rl ?rc ?rk;(case ra=>k_is);(case rn=>k_is);(case rl=>k_is);(case rc=>k_is);(case rk=>k_is))
  (case h10=>refine' DL.Hm.mk ?ra ?rn ?rl ?rc ?rk;(case ra=>k_is);(case rn=>k_is);(case rl=>k_is);(case rc=>k_is);(case rk=>k_is))
  (case h11=>refine' DL.Hm.mk ?ra ?rn ?rl ?rc ?rk;(case ra=>k_is);(case rn=>k_is);(case rl=>k_is);(case rc=>k_is);(case rk=>k_is))
  all_goals try (refine' DL.Hv.mk ?a ?l ?c ?k;(case a=>k_is);(case l=>k_is);(case c=>k_is);(case k=>k_is))
  all_goals try k_is

