import PyProof.Rows.All
import Wide.All
import OpenK.AllK
import Wide.FinOn
import PyProof.EqAt
import PyProof.EqKinds
import PyProof.NeKinds
import PyProof.TupleCall
import PyProof.EnumFor
import PyProof.EnumMake
import PyProof.CompFree
import PyProof.Rows.SumAny
import PyProof.Rows.Range3
import PyProof.CompUse
import KE.LcSums
import PyProof.ListRange
import PyProof.Rows.MinMaxN
import KE.KIntText
import PyProof.StrCalls2
import PyProof.StrBlockH
import PyProof.Rows.ZipForRows
import PyProof.Rows.SortRev
import KE.KRevSl
import KE.KMinKey
import PyProof.Rows.SetFrom
import PyProof.Rows.SeqMore2
import Lean
import PyProof.WalkInts
import KE.KLam
import KE.KNest
import PyProof.Rows.SortRuns
import KE.KSortKey
import PyProof.Conv_int_bool
import KE.KListMore
import PyProof.DictWalks
import KE.KSortTup
import KE.KDictList
import KE.KRevIter
import PyProof.SetKind
import PyProof.SetScanFacts
import PyProof.DictUpdate
import PyProof.Rows.TupAdd
import PyProof.Rows.SeqMore
import PyProof.FString
import PyProof.StrLawsTight
import PyProof.StrLawsChain
import PyProof.Draws
import PyProof.Walk
import PyProof.WalkLemmas
import PyProof.RaisesAny
import PyProof.FactsAll.range_1
import PyProof.RangeIter
import KE.KDictSum
import PySem.Challenge.RW_nearenough_k62_one_wish_lightest
open Option renaming some→Qs,none→Qn
open Bool renaming true→Qt,false→Qf
noncomputable section
open Array renaming length_toList→RB,perm_iff_toList_perm→RL,getElem?_eq_getElem→RO,toList→SD,getD→UD
open ForInStep renaming yield→QT
open List.Perm renaming refl→QC,cons_inv→S6,cons→Ua,swap→Ub
open PySem.F renaming slot_dict_keyiterator_next→P2,slot_list_append→QB,plain_list_iadd→QG,args_dict_keyiterator_next_1→QW,entry_dict_keyiterator_next→Q1,type_list_append→Q3,plainAttrs_list→Q6,slot_dict_get→Rl,plain_proto_collect→Ry,slot_range_contains→Rz,args_dict_get_3→R7,entry_dict_get→Sg,slot_dict_iter→Sj,slot_int_rmul→Ss,slot_list_lt→SJ
open PySem.NameKind renaming free→Pq,cell→Qj
open Int renaming eq_ofNat_of_zero_le→Pd,le_of_lt→Pj,toNat_of_nonneg→Pp,le_refl→Pz,lt_of_le_of_lt→P6,fmod_nonneg_of_pos→P9,toNat_natCast→Qc,fmod_lt_of_pos→Qz,le_trans→QO,fdiv_eq_ediv_of_nonneg→QU,add_zero→QY,mul_nonneg→Q5,mul_assoc→Rb,mul_le_mul_of_nonneg_right→Ri,mul_le_mul_of_nonneg_left→Ro,mul_right_comm→RP,lt_trans→SO,mul_comm→SQ,natCast_nonneg→S8,lt_irrefl→Ta,add_assoc→Tb,add_mul→T7,add_nonneg→Ug,ofNat_lt→U4,mul_one→Vm,mul_pos→VD
open List.Sublist renaming refl→O7,append→P0
open Option.some renaming inj→O4
open Classical renaming byContradiction→OZ
open PySem.Value renaming ref→OY,none→QS,type→Se,int→SU,str→Tq,bool→Tt,isStrOf→Us,isInt→Vi,bytes→Vj,float→Vk
open Nat renaming le_refl→OL,lt_of_lt_of_le→OS,lt_of_le_of_lt→Pa,ne_of_lt→Ph,le_trans→Pr,gcd→Px,lt_succ_self→PB,pow_le_pow_right→P5,gcd_pos_of_pos_right→Qe,lt_irrefl→Qg,zero_le→QD,ne_of_gt→QK,zero_add→QM,mul_div_mul_right→QR,le_of_lt→Q7,gcd_mul_right→Rj,gcd_le_right→Rw,mul_le_mul_right→Rx,lt_succ_of_lt→RY,mul_div_cancel_left→Sd,le_add_right→Si,div_le_self→Sz,mul_comm→SF,lt_trans→SH,gcd_comm→SS,add_le_add_left→SX,mul_le_mul→SY,pow_le_pow_left→S0,le_succ→S4,lt_trichotomy→Td,min_le_left→TM,mul_assoc→UE,le_of_eq→UZ,succ_mul→U0,pow_succ→U3,log2_lt→Vr,gcd_rec→VB,div_pos→VC
open Bool renaming false_ne_true→OD,and_eq_true→OH,and_eq_true_iff→O0,false_eq_true→PJ,eq_iff_iff→PR,or_true→P1,false_or→Q8,eq_false_iff→Rh,or_eq_true→RJ,true_or→SG,and_true→Ux
open PySem renaming wpAny_bind→OB,Shared→OJ,Value→OM,starEach→OP,wpAny_pure→OQ,sizeLine→O3,Program→Pe,FuncData→PX,NameKind→Qk,Around→Qq,World→QI,backTo→QJ,Scope→SV,Keyword→SW,Addr→Xl,Heap→Xm,Expr→Xn,Stmt→Xo
open PySem.Heap renaming get?_push_of_some→OA,lt_size→OT,get?_push_size→OU,get?_update_other→PD,get?_update_self→Rk,size_push→Rm
open Option renaming bind_some→Oz,map_some→P7,map_eq_some_iff→Q9,isSome_some→S5,isSome_map→Tc,getD_some→Tv,none→Vq
open PySem.W renaming Frag→Ou,mg_none_of→Pw,findIn→PU,keepIn→PV,fnOf→PY,emptyDict→P4,nsIn→Qb,kia_one→Qi,instObj→Qv,plainGet→Q2,hasDictIn→Rc,codeIn→Rn,KasT→Rt,plainGet_of→RC,makesIn→RD,kas_rev→RK,callWith_K→RN,lookIn→RQ,methodObj→RU,plainOver→RV,kitx_dict→RX,cellsFrom_some→Sf,kat_cons→Sk,methodCall_KW→So,takerIn→Sw,isFn→SE,kas_descPart→SK,kas_count→Te,kas_tail3→Tf,kas_place→Tg,handedIn→Tu,kas_desc→TC,kas_sort→TF,OpenLaw→TN,kas_asc→TQ,kas_bin→TR,kas_ask→TU,kat_yes→TV,kat_lt→Ud,CodeHd→Uh,mg_of→Uy,WalkO→Uz,tabIn→UH
open List renaming mem_append_right→Oq,mem_append_left→Ot,mem_cons_of_mem→Ov,mem_append→Ow,mem_cons_self→Ox,mem_singleton→Oy,mem_cons→OC,getElem?_eq_getElem→OE,map_cons→OF,nodup_append→OG,length_map→OI,getD_eq_getElem?_getD→ON,nodup_cons→OO,replicate→OR,size_toArray→OV,length_cons→OX,getElem?_map→O1,mem_map→O2,sum_cons→O5,getElem?_eq_some_iff→O6,length_append→O8,map_map→O9,map_congr_left→Pb,getElem?_set_ne→Pc,mem_filter→Pf,lookup_cons→Pg,range→Pk,nodup_nil→Pl,append_assoc→Pm,append_nil→Po,zip_cons_cons→Pu,drop_eq_getElem_cons→Py,all_eq_true→PF,map_append→PH,pairwise_cons→PM,all_cons→PN,replicate_succ→PZ,filter_cons→P8,range'→Qa,length_singleton→Qd,any_cons→Qh,getElem_mem→Qm,getElem?_cons_succ→Qp,getElem?_set_self→Qr,getElem?_range→Qu,length_filter_le→Qw,getElem?_append_left→Qx,drop_length→Qy,mem_range→QA,find?_cons→QE,length_eq_zero_iff→QF,mem_map_of_mem→QH,sublist_cons_self→QL,take_of_length_le→QN,zipWith_cons_cons→QP,lookup→QQ,flatten_cons→QV,range_eq_range'→QX,sublist_append_right→QZ,pairwise_iff_getElem→Q0,cons_append→Q4,length_pos_of_mem→Ra,reverse_cons→Rf,ext_getElem?→Rg,mem_of_getElem?→Rp,map_nil→Rq,not_mem_nil→Rr,getElem_map→Ru,range'_succ→Rv,filterMap_cons→RA,getElem?_append_right→RE,length_set→RF,foldl_cons→RG,nil_append→RH,length_zip→RI,mem_filterMap→RM,zipWith→RT,length_range→RZ,getElem?_replicate→R6,pairwise_singleton→R8,filter_cons_of_neg→R9,filter_cons_of_pos→Sb,ext_getElem→Sh,length_replicate→Sr,getElem?_eq_none→Su,eq_nil_or_concat→Sv,of_mem_zip→Sx,length_nil→Sy,sum_append→SA,set_set→SI,mem_erase_of_ne→SM,ne_nil_of_mem→S7,pairwise_map→Ti,getElem?_set→To,foldl_append→Tp,take_length→Tw,map_set→Tx,nodup_range→Tz,append_inj'→TJ,map_id→T5,foldl→Ut
open PySem PyProof.Rows
universe u0
abbrev Ql(α:Type u0):=List α
abbrev Qo(α:Type u0):=Option α
set_option Elab.async false
set_option linter.all false
set_option maxRecDepth 100000
universe u v
theorem Ve{c:Prop}[d:Decidable c]{α:Type u}{x:Qo α}{b:α}(h:(if c then x else Qn)=Qs b):c/\x=Qs b:=by by_cases k:c<;>simp_all
theorem S9{c:Prop}[h:Decidable c](k:c){α:Sort u}{a b:α}:ite c a b=a:=if_pos k
theorem Tr{c:Prop}[h:Decidable c](k:¬c){α:Sort u}{a b:α}:ite c a b=b:=if_neg k
theorem Uc{p:Prop}[h:Decidable p](k:p):decide p=Qt:=decide_eq_true k
theorem UJ{p:Prop}[h:Decidable p](k:¬p):decide p=Qf:=decide_eq_false k
abbrev UR(x:Str):Prop:=(x=="__debug__")=Qf
abbrev Vz(x:Str):Prop:=(x=="__classdict__")=Qf
theorem UX{p:Prop}[h:Decidable p]:(decide p=Qt)=p:=decide_eq_true_eq
namespace L2
open PySem.Spec
abbrev aD:=Sum Int Str
def jD:aD->OM->Bool
 |.inl k,v=>Vi k v
 |.inr x,v=>Us x v
def Md(w:QI):aD->Int
 |.inl k=>hashInt k
 |.inr x=>hashStr w x
def il:∀{k:aD}{v:OM},jD k v=Qt->(∃i t,k=Sum.inl i/\v=SU i t)\/(∃x t,k=Sum.inr x/\v=Tq x t)
 |.inl i,v,h=>by obtain⟨t,e⟩:=Value.isInt_shape (k:=i) (v:=v) h;exact .inl ⟨i,t,rfl,e⟩
 |.inr x,v,h=>by obtain⟨t,e⟩:=Value.isStrOf_shape (x:=x) (v:=v) h;exact .inr ⟨x,t,rfl,e⟩
def Mc(i:Int)(t:Tok):jD (.inl i) (.int i t)=Qt:=by simp[jD,Vi]
def Mb(x:Str)(t:Tok):jD (.inr x) (.str x t)=Qt:=by simp[jD,Us]
def Ma(a b:Int):decide ((Sum.inl a:aD)=Sum.inl b)=(a==b):=by
 by_cases e:a=b
 .subst e;simp
 .have h:¬(Sum.inl a:aD)=Sum.inl b:=λq=>e (Sum.inl.inj q);rw[UJ h];exact(beq_eq_false_iff_ne.mpr e).symm
def L7(a b:Str):decide ((Sum.inr a:aD)=Sum.inr b)=decide (a=b):=by
 by_cases e:a=b
 .subst e;simp
 .have h:¬(Sum.inr a:aD)=Sum.inr b:=λq=>e (Sum.inr.inj q);rw[UJ h,UJ e]
def L9(a:Int)(b:Str):decide ((Sum.inl a:aD)=Sum.inr b)=Qf:=UJ (λq=>nomatch q)
def L8(a:Str)(b:Int):decide ((Sum.inr a:aD)=Sum.inl b)=Qf:=UJ (λq=>nomatch q)
noncomputable def dO(prog:Pe)(w:QI):PySem.KeyKind prog w aD where
 is:=jD
 hash:=Md w
 inj:=λv a b ha hb=>by
  rcases il ha with⟨i,t,rfl,rfl⟩|⟨x,t,rfl,rfl⟩
  .rcases il hb with⟨j,u,rfl,e⟩|⟨y,u,rfl,e⟩
   .injection e with e1 _;rw[e1]
   .exact nomatch e
  .rcases il hb with⟨j,u,rfl,e⟩|⟨y,u,rfl,e⟩
   .exact nomatch e
   .injection e with e1 _;rw[e1]
 byValue:=λk v h=>by rcases il h with⟨i,t,rfl,rfl⟩|⟨x,t,rfl,rfl⟩<;>rfl
 pyHash:=λhv h=>by
  rcases il hv with⟨i,t,rfl,rfl⟩|⟨x,t,rfl,rfl⟩
  .exact wpAny_pyHash_int h
  .exact wpAny_pyHash_str h
 eqBool:=λhu hv h=>by
  rcases il hu with⟨i,t,rfl,rfl⟩|⟨x,t,rfl,rfl⟩
  .rcases il hv with⟨j,u,rfl,rfl⟩|⟨y,u,rfl,rfl⟩
   .rw[Ma]at h;exact wpAny_eqBool_int h
   .rw[L9]at h;exact SeqAt.EqAt.int_str i t y u _ _ _ _ h
  .rcases il hv with⟨j,u,rfl,rfl⟩|⟨y,u,rfl,rfl⟩
   .rw[L8]at h;exact SeqAt.EqAt.str_int x t j u _ _ _ _ h
   .rw[L7]at h;exact wpAny_eqBool_str h
 «strs»:=λk x t v h=>by
  rcases il h with⟨i,u,rfl,e⟩|⟨y,u,rfl,e⟩
  .exact nomatch e
  .injection e with e1 _
   subst e1;cases v<;>rfl
def Lr(prog:Pe)(w:QI)(k:aD)(v:OM):(dO prog w).is k v=jD k v:=rfl
def Ls(prog:Pe)(w:QI)(i:Int)(t:Tok):(dO prog w).is (.inl i) (.int i t)=Qt:=Mc i t
def Lq(prog:Pe)(w:QI)(x:Str)(t:Tok):(dO prog w).is (.inr x) (.str x t)=Qt:=Mb x t
inductive V where
 |TX|bl (b:Bool)|int (i:Int)|str (x:Str)|Wt (b:Array UInt8)|flt (b:UInt64)|ref (a:Xl)|ty (n:String)
 deriving DecidableEq
def RelV:V->OM->Prop
 |.TX,u=>u=QS
 |.bl b,u=>u=Tt b
 |.int i,u=>∃t,u=SU i t
 |.str x,u=>∃t,u=Tq x t
 |.Wt b,u=>∃t,u=Vj b t
 |.flt b,u=>∃t,u=Vk b t
 |.ref a,u=>u=OY a
 |.ty n,u=>u=Se n
abbrev Vals:Ql V->Ql OM->Prop:=Paired RelV
def Vals.length{xs:Ql V}{us:Ql OM}(r:Vals xs us):xs.length=us.length:=Paired.length r
def Vals.get:∀{xs:Ql V}{us:Ql OM}{i:Nat}{x:V},Vals xs us->xs[i]?=Qs x->∃u,us[i]?=Qs u/\RelV x u
 |_,_,_,_,.nil,e=>by simp at e
 |_,_,0,_,.cons r _,e=>by simp at e;subst e;exact⟨_,rfl,r⟩
 |_,_,i+1,x,.cons _ t,e=>by obtain⟨u,h1,h2⟩:=Vals.get (i:=i) (x:=x) t (by simpa using e);exact⟨u,by simpa using h1,h2⟩
def Vals.set{x:V}{u:OM}(r:RelV x u):∀{xs:Ql V}{us:Ql OM} (i:Nat),Vals xs us->Vals (xs.set i x) (us.set i u)
 |_,_,_,.nil=>.nil
 |_,_,0,.cons _ t=>.cons r t
 |_,_,i+1,.cons q t=>.cons q (Vals.set r i t)
def Vals.append:∀{xs ys:Ql V}{us ws:Ql OM},Vals xs us->Vals ys ws->Vals (xs++ys) (us++ws)
 |_,_,_,_,.nil,s=>s
 |_,_,_,_,.cons r t,s=>.cons r (Vals.append t s)
def VY:Qo V->Qo OM->Prop
 |some v,Qs u=>RelV v u
 |none,Qn=>True
 |_,_=>False
def KV{κ:Type}:Ql (κ×V)->Ql (κ×OM)->Prop:=Paired λ(p:κ×V) (q:κ×OM)=>p.1=q.1/\RelV p.2 q.2
def kV:aD->V
 |.inl i=>.int i
 |.inr x=>.str x
inductive HO where
 /-- a list -/
 |lst (xs:List V)
 /-- a tuple (never changes) -/
 |tup (xs:List V)
 /-- a dict zd3 keys are ints and texts;one zd3 keys are tuples of ints and texts (XA empty one is both) -/
 |dK (kvs:List (aD×V)) |dT (kvs:List (List aD×V))
 /-- a set of ints: TH members,TH size -/
 |set (S:Int->Bool) (n:Nat)
 /-- an instance of XA class at C,TH dict at dx,TH attributes -/
 |ins (C dx:Xl) (fs:List (Str×V))
 /-- XA dict of XA instance at x -/
 |own (x:Xl)
 /-- XA dict of an exception -/
 |xd (fs:List (Str×V))
 /-- a bound method,f of x -/
 |met (f x:Xl)
 /-- a range object lo,lo+1,.. below hi -/
 |rng (lo hi:Int)
 /-- a zei zej is known to XA object (XA ziV;a dict while a loop walks it): read,never written while it is so -/
 |Vb (o:Obj) (u:HO)
 /-- a code zi0 table -/
 |Wa (q:Str)
 /-- any other zei,by zd4 is Qt of TH one object (a def of ziZ own: zje a S n:=HO.ext λh=>..) -/
 |ext (φ:Xm->Prop)
abbrev Hp:=Xl->Qo HO
def upd(H:Hp)(a:Xl)(o:HO):Hp:=λb=>if b=a then Qs o else H b
def bB{H:Hp}{a:Xl}{o:HO}:upd H a o a=Qs o:=by unfold upd;rw[S9 rfl]
def aS{H:Hp}{a b:Xl}{o:HO}(h:b≠a):upd H a o b=H b:=by unfold upd;rw[Tr h]
def FC{H:Hp}{a:Xl}{o u:HO}:upd (upd H a o) a u=upd H a u:=by funext b;unfold upd;split<;>rfl
def sN{H:Hp}{a b:Xl}{o u:HO}(h:H a=Qs o)(h':H b=Qs u)(d:o≠u):a≠b:=by intro e;subst e;rw[h]at h';exact d (O4 h')
def mN{H:Hp}{a b:Xl}{o:HO}(h:H a=Qs o)(h':H b=Qn):a≠b:=by intro e;subst e;rw[h]at h';cases h'
section
variable (P:Pe)(w:QI)
noncomputable def U5(H:Hp)(h:Xm)(a:Xl):HO->Prop
 |.lst xs=>xs.length<=O3/\∃(TH:Ql OM) (n:Nat),Vals xs TH/\h.get? a=Qs {cls:=.type "list",data:=.seq TH.toArray n}
 |.tup xs=>xs.length<=O3/\∃TH:Ql OM,Vals xs TH/\IsTup h a TH.toArray
 |.dK kvs=>kvs.length<=O3/\(a==sysModules)=Qf/\∃vs,KV kvs vs/\h.DictOf (dO P w) a vs
 |.dT kvs=>kvs.length<=O3/\(a==sysModules)=Qf/\∃xs:Ql (Ql aD×Xl×OM),Paired (λ(p:Ql aD×V) (q:Ql aD×Xl×OM)=>p.1=q.1/\H q.2.1=Qs (.tup (p.1.map kV))/\RelV p.2 q.2.2) kvs xs/\∃o es ep,h.get? a=Qs o/\o.ExactDict/\o.data=.dict es ep/\es.toList=xs.map (entryOfKey (tupleKind (dO P w)))/\(xs.map (·.1)).Nodup
 |.set S n=>h.SetOf (intKind P w) a S n
 |.ins C dx fs=>H dx=Qs (.own a)/\fs.length<=1000/\dx≠a/\h.get? a=Qs (Qv C dx)/\∃mA,h.Ns1 dx mA/\(∀f,VY (fs.lookup f) (mA f))/\PySem.Within mA (fs.map (·.1))
 |.own _=>∃o,h.get? a=Qs o
 |.xd fs=>∃mA,h.Ns1 a mA/\∀f,VY (fs.lookup f) (mA f)
 |.rng lo hi=>∃t u v,h.get? a=Qs {cls:=.type "range",data:=.fields #[.int lo t,.int hi u,.int 1 v]}
 |.Vb o u=>h.get? a=Qs o/\U5 H h a u
 |.Wa q=>∃ps:Array OM,h.get? a=Qs {cls:=.none,data:=.fields ps}/\TriplesOk ps.toList/\∀pos cv,codeAmong pos ps.toList=Qs cv->∃(c:Xl) (oc:Obj) (vs:Array OM) (tk:Tok),cv=.ref c/\H c=Qs (.Vb oc (.own 0))/\oc.data=.fields vs/\vs[1]?=Qs (.str q tk)
 |.met f x=>h.get? a=Qs (RU (.ref f) (.ref x))
 |.ext φ=>φ h/\(∃o,h.get? a=Qs o)/\∀h1 h2:Xm,φ h1->(∀o,h1.get? a=Qs o->h2.get? a=Qs o)->φ h2
def U7(H:Hp)(h:Xm):Prop:=∀a o,H a=Qs o->U5 P w H h a o
end
section
variable {P:Pe}{w:QI}{H H':Hp}{h h':Xm}{a:Xl}{o:HO}
def U5.lt(x:U5 P w H h a o):a<h.objs.size:=by
 cases o with
 |lst xs=>obtain⟨_,_,_,_,e⟩:=x;exact OT e
 |tup xs=>obtain⟨_,_,_,p⟩:=x;exact p.lt
 |dK kvs=>obtain⟨_,_,_,_,o,_,_,e,_⟩:=x;exact OT e
 |dT kvs=>obtain⟨_,_,_,_,o,_,_,e,_⟩:=x;exact OT e
 |set S n=>obtain⟨o,_,_,_,e,_⟩:=x;exact OT e
 |ins C dx fs=>obtain⟨_,_,_,e,_⟩:=x;exact OT e
 |own y=>obtain⟨_,e⟩:=x;exact OT e
 |xd fs=>obtain⟨_,⟨_,_,_,e,_⟩,_⟩:=x;exact OT e
 |rng lo hi=>obtain⟨_,_,_,e⟩:=x;exact OT e
 |Vb ob u=>obtain⟨e,_⟩:=x;exact OT e
 |Wa q=>obtain⟨_,e,_⟩:=x;exact OT e
 |met f y=>exact OT (show h.get? a=Qs _ from x)
 |ext φ=>obtain⟨_,⟨_,e⟩,_⟩:=x;exact OT e
def Paired.za3{α β:Type}{F G:α->β->Prop}:∀{l₁:Ql α}{l₂:Ql β},Paired F l₁ l₂->(∀a b,F a b->G a b)->Paired G l₁ l₂
 |_,_,.nil,_=>.nil
 |_,_,.cons r t,f=>.cons (f _ _ r) (Paired.za3 t f)
def U5.XC(x:U5 P w H h a o)(k:∀b u,(b=a\/H b=Qs (.own a))->h.get? b=Qs u->h'.get? b=Qs u) (ho:∀b,H b=Qs (.own a)->H' b=Qs (.own a)) (ht:∀b xs,H b=Qs (.tup xs)->H' b=Qs (.tup xs)) (hz:∀b o u,H b=Qs (.Vb o u)->H' b=Qs (.Vb o u)):U5 P w H' h' a o:=by
 induction o with
 |lst xs=>obtain⟨z,TH,n,r,e⟩:=x;exact⟨z,TH,n,r,k _ _ (.inl rfl) e⟩
 |tup xs=>obtain⟨z,TH,r,ob,e,c⟩:=x;exact⟨z,TH,r,ob,k _ _ (.inl rfl) e,c⟩
 |dK kvs=>obtain⟨z,y,vs,r,ob,es,ep,e,c⟩:=x;exact⟨z,y,vs,r,ob,es,ep,k _ _ (.inl rfl) e,c⟩
 |dT kvs=>obtain⟨z,y,xs,r,ob,es,ep,e,c⟩:=x;exact⟨z,y,xs,Paired.za3 r λp q z=>⟨z.1,ht _ _ z.2.1,z.2.2⟩,ob,es,ep,k _ _ (.inl rfl) e,c⟩
 |set S n=>obtain⟨ob,es,ep,t,e,c⟩:=x;exact⟨ob,es,ep,t,k _ _ (.inl rfl) e,c⟩
 |ins C dx fs=>obtain⟨d,z,ne,e,mA,⟨od,es,ep,e2,c⟩,r⟩:=x;exact⟨ho _ d,z,ne,k _ _ (.inl rfl) e,mA,⟨od,es,ep,k _ _ (.inr d) e2,c⟩,r⟩
 |own y=>obtain⟨ob,e⟩:=x;exact⟨ob,k _ _ (.inl rfl) e⟩
 |xd fs=>obtain⟨mA,⟨od,es,ep,e,c⟩,r⟩:=x;exact⟨mA,⟨od,es,ep,k _ _ (.inl rfl) e,c⟩,r⟩
 |rng lo hi=>obtain⟨t,u,v,e⟩:=x;exact⟨t,u,v,k _ _ (.inl rfl) e⟩
 |Vb ob u ih=>obtain⟨e,q⟩:=x;exact⟨k _ _ (.inl rfl) e,ih q⟩
 |Wa q=>obtain⟨ps,e,t,r⟩:=x;exact⟨ps,k _ _ (.inl rfl) e,t,λpos cv z=>let ⟨c,oc,vs,tk,a1,a2,a3⟩:=r pos cv z;⟨c,oc,vs,tk,a1,hz _ _ _ a2,a3⟩⟩
 |met f y=>have e:h.get? a=Qs (RU (.ref f) (.ref y)):=x;show h'.get? a=Qs (RU (.ref f) (.ref y));exact k a _ (.inl rfl) e
 |ext φ=>obtain⟨p,⟨o,e⟩,st⟩:=x;exact⟨st _ _ p λo q=>k _ _ (.inl rfl) q,⟨o,k _ _ (.inl rfl) e⟩,st⟩
def U7.lt(x:U7 P w H h)(e:H a=Qs o):a<h.objs.size:=(x a o e).lt
def U7.fresh(x:U7 P w H h)(e:h.objs.size<=a):H a=Qn:=by
 cases q:H a with
 |none=>rfl
 |some u=>exact absurd (OS (x.lt q) e) (Qg _)
def U7.kept(x:U7 P w H h)(k:∀b u,h.get? b=Qs u->h'.get? b=Qs u):U7 P w H h':=λa o e=>
 (x a o e).XC (λb u _ q=>k b u q) (λ_ q=>q) (λ_ _ q=>q) λ_ _ _ q=>q
def U7.laid(x:U7 P w H h)(k:∀b u,h.get? b=Qs u->h'.get? b=Qs u)(hp:h.objs.size<=a)(new:U5 P w (upd H a o) h' a o):U7 P w (upd H a o) h':=λb u e=>by
 have hn:=x.fresh hp;by_cases hb:b=a
 .subst hb;rw[bB]at e;cases e;exact new
 .rw[aS hb]at e;exact(x b u e).XC (λc v _ q=>k c v q) (λc q=>by rw[aS (mN q hn)];exact q) (λc xs q=>by rw[aS (mN q hn)];exact q) λc o u q=>by rw[aS (mN q hn)];exact q
end
def Rd(H:Hp)(a:Xl)(u:HO):Prop:=H a=Qs u\/∃o,H a=Qs (.Vb o u)
def Rd.ok{P:Pe}{w:QI}{H:Hp}{h:Xm}{a:Xl}{u:HO}(r:Rd H a u)(x:U7 P w H h):U5 P w H h a u:=by
 rcases r with r|⟨o,r⟩
 .exact x a u r
 .obtain⟨_,q⟩:=x a _ r;exact q
def qi:Qo HO->Prop
 |some (.lst _)=>True
 |some (.dK _)=>True
 |some (.dT _)=>True
 |some (.set _ _)=>True
 |some (.ins _ _ _)=>True
 |some (.ext _)=>True
 |_=>False
section
variable {P:Pe}{w:QI}{H:Hp}{h h':Xm}{x e:Xl}{o':HO}
def U7.write(ok:U7 P w H h)(mu:qi (H x))(he:e=x\/H e=Qs (.own x))(k:∀b u,b≠e->h.get? b=Qs u->h'.get? b=Qs u)(Yd:∃u,h'.get? e=Qs u) (new:U5 P w (upd H x o') h' x o'):U7 P w (upd H x o') h':=λb u q=>by
 have zcC:∀c y,H c=Qs (.own y)->c≠x:=λc y r z=>by subst z;rw[r]at mu;exact mu
 have zeR:∀c xs,H c=Qs (.tup xs)->c≠x:=λc xs r z=>by subst z;rw[r]at mu;exact mu
 by_cases hb:b=x
 .subst hb;rw[bB]at q;cases q;exact new
 .rw[aS hb]at q;by_cases YB:b=e
  .have q':H b=Qs (.own x):=by
    rcases he with z|z
    .exact absurd (YB.trans z) hb
    .rw[YB];exact z
   rw[q]at q';cases q';obtain⟨v,hv⟩:=Yd;exact⟨v,by rw[YB];exact hv⟩
  .refine(ok b u q).XC (λc v hc r=>k c v ?_ r) (λc r=>by rw[aS (zcC c b r)];exact r) (λc xs r=>by rw[aS (zeR c xs r)];exact r) λc o u r=>by rw[aS (λz=>by subst z;rw[r]at mu;exact mu)];exact r
   rcases hc with rfl|hc
   .exact YB
   .rintro rfl;rcases he with z|z
    .exact zcC c b hc z
    .rw[hc]at z;cases z;exact hb rfl
end
structure Un(fs ex:List Xl)(H H':Hp)(h h':Xm):Prop where
 keep:∀b o,h.get? b=Qs o->H b=Qn->b∉fs->b∉ex->h'.get? b=Qs o
 slot:∀b o,h.get? b=Qs o->H b=Qn->b∈fs->b∉ex->∃sl,h'.get? b=Qs {o with slots:=sl}
 free:∀b o,h.get? b=Qs o->H b=Qn->b∉ex->H' b=Qn
 there:∀b o,h.get? b=Qs o->b∉ex->∃o',h'.get? b=Qs o'
 Xx:∀b xs,H b=Qs (.tup xs)->H' b=Qs (.tup xs)
 Xs:∀b o u,H b=Qs (.Vb o u)->H' b=Qs (.Vb o u)
 Wv:∀b q,H b=Qs (.Wa q)->H' b=Qs (.Wa q)
section
variable {fs Zc ex ex':Ql Xl}{H H1 H2:Hp}{h h1 h2 h':Xm}{a x e:Xl}{o:HO}
def Un.any(u:Un fs ex H H1 h h1){b:Xl}{ob:Obj}(q:h.get? b=Qs ob)(n:H b=Qn)(hx:b∉ex):∃sl,h1.get? b=Qs {ob with slots:=sl}:=by
 by_cases hb:b∈fs
 .exact u.slot b ob q n hb hx
 .exact⟨ob.slots,u.keep b ob q n hb hx⟩
def Un.kept(k:∀b u,h.get? b=Qs u->h'.get? b=Qs u):Un fs ex H H h h':=⟨λb ob q _ _ _=>k b ob q,λb ob q _ _ _=>⟨ob.slots,k b ob q⟩,λ_ _ _ n _=>n,λb ob q _=>⟨ob,k b ob q⟩,λ_ _ q=>q,λ_ _ _ q=>q,λ_ _ q=>q⟩
def Un.refl:Un fs ex H H h h:=Un.kept λ_ _ q=>q
def Un.laid(k:∀b u,h.get? b=Qs u->h'.get? b=Qs u)(hp:h.objs.size<=a)(hn:H a=Qn):Un fs ex H (upd H a o) h h' where
 keep:=λb u q _ _ _=>k b u q
 slot:=λb u q _ _ _=>⟨u.slots,k b u q⟩
 free:=λb u q n _=>by rw[aS (Ph (OS (OT q) hp))];exact n
 there:=λb u q _=>⟨u,k b u q⟩
 Xx:=λb xs q=>by rw[aS (mN q hn)];exact q
 Xs:=λb u xs q=>by rw[aS (mN q hn)];exact q
 Wv:=λb ps q=>by rw[aS (mN q hn)];exact q
def Un.write(mu:qi (H x))(he:e=x\/H e=Qs (.own x))(k:∀b u,b≠e->h.get? b=Qs u->h'.get? b=Qs u)(Yd:∃u,h'.get? e=Qs u):Un fs ex H (upd H x o) h h':=by
 have hx:∀b,H b=Qn->b≠x:=λb n z=>by subst z;rw[n]at mu;exact mu
 have hb:∀b,H b=Qn->b≠e:=λb n z=>by
  subst z;rcases he with r|r
  .exact hx b n r
  .rw[n]at r;cases r
 have hm:∀b u,H b=Qs u->¬qi (Qs u)->b≠x:=λb u q nm z=>by subst z;rw[q]at mu;exact nm mu
 refine⟨λb u q n _ _=>k b u (hb b n) q,λb u q n _ _=>⟨u.slots,k b u (hb b n) q⟩,λb u q n _=>by rw[aS (hx b n)];exact n,λb u q _=>?_,λb xs q=>by rw[aS (hm b _ q λz=>z)];exact q,λb u xs q=>by rw[aS (hm b _ q λz=>z)];exact q,λb ps q=>by rw[aS (hm b _ q λz=>z)];exact q⟩
 by_cases YB:b=e
 .subst YB;exact Yd
 .exact⟨u,k b u YB q⟩
end
def q8(h:Xm)(H:Hp):Ql Xl:=(Pk h.objs.size).filter λa=>(H a).isSome
def iV(h:Xm)(H:Hp):Xm:=PySem.W.hideAll h (q8 h H)
def MG(h:Xm)(H:Hp):(iV h H).objs.size=h.objs.size:=PySem.W.hideAll_size _ _
def tN{h:Xm}{H:Hp}{b:Xl}{o:Obj}(e:h.get? b=Qs o)(n:H b=Qn):(iV h H).get? b=Qs o:=PySem.W.hideAll_get _ e λhm=>by have q:(H b).isSome=Qt:=(Pf.mp hm).2;rw[n]at q;simp at q
def KW{h:Xm}{H:Hp}{b:Xl}{o:Obj}(e:(iV h H).get? b=Qs o):h.get? b=Qs o/\H b=Qn:=by
 have e':h.get? b=Qs o:=PySem.W.of_hideAll (q8 h H) e;refine⟨e',?_⟩;cases q:H b with
 |none=>rfl
 |some x=>have hm:b∈q8 h H:=Pf.mpr ⟨QA.mpr (OT e'),by simp[q]⟩;have z:(iV h H).get? b=Qn:=PySem.W.hideAll_none (q8 h H) hm;rw[z]at e;cases e
end L2
variable{H:L2.Hp}{K:Ou}{F:Ql Xl}{pos:Pos}{a:Xn}{b:Xn}{c:Xn}{x:Str}{es:Ql Xn}{s:OJ}{st:Xo}{A:Ql Xl}{w:QI}{tg:Xn}{H':L2.Hp}{i:Nat}{v:L2.V}{n:Nat}{o:Xn}{pins:Ql (Xl×Obj)}{H0:L2.Hp}{C:Xl}{p:Xl}{E:OM->OJ->Prop}{P:Pe}{f:Str}{H1:L2.Hp}{e:Xn}{B:Ql Xl}{u:OM}{h:Xm}{I:Ql Nat}{j:Nat}{prog:Pe}{scope:SV}{m:Str}{fd:PX}{qual:Str}{h':Xm}{N:Ql Str}{y:L2.V}{iter:Xn}{ps:Ql Str}{vs:Ql L2.V}{p0:Pos}{xs:Ql L2.V}{apos:Pos}{p1:Pos}{p2:Pos}{elt:Xn}{ifs:Ql Xn}{t':Nat}{pos':Pos}{H2:L2.Hp}{sts:Ql Xo}{us:Ql OM}{Vx:Pos}{cap:Ql Nat}{body:Ql Xo}{Uw:Pos}{N':Ql Str}{T:String}{dx:Xl}{pl:Sem Bool}{ns:Ql Str}{l:Xl}{kvs:Ql (Ql L2.aD×L2.V)}{env:Env}{is:Ql Int}{TH:Ql OM}{A1:Ql Xl}{M:Model}{py:Pos}{op:Operator}{lo:Int}{name:Str}{ys:Ql L2.V}{ks:Ql L2.aD}{value:Xn}{A':Ql Xl}{ws:Ql L2.V}{ep:Nat}
namespace L2
open PySem.Spec
structure VZ extends Xm where
 tabs:List (Xl×Str)
instance:Coe VZ Xm:=⟨VZ.toHeap⟩
structure Mod(K:Ou)(mg:Str->Option OM)(base:VZ):Prop where
 ZF:K.In base
 glob:base.Ns mainGlobals mg
 blt:∃mb,base.Ns builtinsNs mb/\∀x:Str,x≠"__name__"->mb x=bootBuiltins x
 nolimit:base.NoLimit
 bm:∃(bm:Xl) (ob:Obj),mg "__builtins__"=Qs (.ref bm)/\bm≠builtinsNs/\base.get? bm=Qs ob/\ob.cls=.type "module"/\ob.dict=Qs builtinsNs/\ob.data=.plain
structure Cx where
 prog:Pe
 w:QI
 K:Ou
 mg:Str->Option OM
 base:VZ
 A:Qq
 N:List Str
 s₀:OJ
 H₀:Hp
 env:Env
 outer:List Env
 stack:List Env
 ex:List Xl
 fn:Str->Bool
 calm:Bool
 pn:List (Xl×Obj)
 xe:OM->OJ->Prop
def gW(l:Ql Env):Ql Xl:=l.filterMap (·.frame)
abbrev Cx.fs(X:Cx):Ql Xl:=gW X.outer
def dt(sc:SV)(x:Str):Prop:=sc.names.lookup x=Qs .local\/sc.names.lookup x=Qs .cell\/sc.names.lookup x=Qs .free
def Loc(sc:SV)(x:Str):Prop:=sc.names.lookup x=Qs .local\/sc.names.lookup x=Qs .cell
def Oh(env:Env)(h:Xm)(m:Str->Qo OM)(x:Str)(u:OM):Prop:=(env.kindOf x=Qs .local/\m x=Qs u)\/((env.kindOf x=Qs .cell\/env.kindOf x=Qs .free)/\∃c,env.cells.lookup x=Qs c/\h.IsCell c (Qs u))
structure Cx.Ok(X:Cx):Prop where
 mod:Mod X.K X.mg X.base
 kind:X.env.scope.kind=.function
 glob:X.env.globals=mainGlobals
 blt:X.env.builtins=builtinsNs
 above:X.s₀.heap.objs.size<=X.env.locals
 inj:∀x y c,X.env.cells.lookup x=Qs c->X.env.cells.lookup y=Qs c->x=y
 has:∀x,(X.env.kindOf x=Qs .cell\/X.env.kindOf x=Qs .free)->∃c,X.env.cells.lookup x=Qs c
 Zi:∀x c,X.fn x=Qt->X.env.cells.lookup x=Qs c->X.s₀.heap.objs.size<=c
 hd:X.calm=Qt->X.A.handled=Qn
 frames:X.A.frames=Qs X.stack
 Zr:X.stack=X.outer\/(X.stack=X.env::X.outer/\X.env.frame=Qs X.env.locals)
 exf:∀b∈X.ex,b≠X.env.locals/\∀x c,X.env.cells.lookup x=Qs c->c≠b
 bs:∀b o,X.base.get? b=Qs o->X.s₀.heap.get? b=Qs o/\X.H₀ b=Qn
 Xw:X.base.objs.size<=X.s₀.heap.objs.size
 Y3:∀b o,X.base.get? b=Qs o->b∉X.ex
 ZW:∀b∈X.ex,b∉X.fs
 WB:X.s₀.heap.FunFrames X.base X.outer
 Yh:∀b∈X.fs,X.H₀ b=Qn
 tabs:∀p∈X.base.tabs,X.H₀ p.1=Qs (.Wa p.2)
structure Inv(X:Cx)(pins:List (Xl×Obj))(σ:List (Option V))(H:Hp)(s:OJ):Prop where
 ok:X.Ok
 os:s.os=X.s₀.os
 bare:AllBare s.gens
 base:Un X.fs X.ex X.H₀ H X.s₀.heap s.heap
 loc:∃m,s.heap.Ns X.env.locals m/\∀(i:Nat) (x:Str) (v:V),X.N[i]?=Qs x->σ[i]?=Qs (Qs v)->dt X.env.scope x->∃u,RelV v u/\Oh X.env s.heap m x u
 cell:∀x c,X.env.cells.lookup x=Qs c->∃v,s.heap.IsCell c v
 free:H X.env.locals=Qn
 Xc:∀x c,X.env.cells.lookup x=Qs c->H c=Qn
 pin:∀p∈X.pn++pins,s.heap.get? p.1=Qs p.2/\H p.1=Qn/\p.1≠X.env.locals/\p.1∉X.fs/\∀v,p.2.data≠.cell v
 TY:U7 X.prog X.w H s.heap
 len:σ.length=X.N.length
section
variable {X:Cx}{σ:Ql (Qo V)}
def Cx.Ok.zeU(ok:X.Ok){b:Xl}{o:Obj}(e:X.base.get? b=Qs o):b∉X.fs:=λhb=>by have:=(ok.WB.mem hb).1;rw[e]at this;cases this
def Inv.bs(I:Inv X pins σ H s):∀b o,X.base.get? b=Qs o->s.heap.get? b=Qs o/\H b=Qn:=λb o e=>
 ⟨I.base.keep b o (I.ok.bs b o e).1 (I.ok.bs b o e).2 (I.ok.zeU e) (I.ok.Y3 b o e),I.base.free b o (I.ok.bs b o e).1 (I.ok.bs b o e).2 (I.ok.Y3 b o e)⟩
def Inv.bk(I:Inv X pins σ H s):∀b o,X.base.get? b=Qs o->s.heap.get? b=Qs o:=λb o e=>(I.bs b o e).1
def Inv.mod(I:Inv X pins σ H s):Mod X.K X.mg X.base:=I.ok.mod
def Inv.Vf(I:Inv X pins σ H s):X.K.In s.heap:=I.ok.mod.ZF.keeps I.bk
def Inv.lt(I:Inv X pins σ H s):X.env.locals<s.heap.objs.size:=let ⟨_,hn,_⟩:=I.loc;hn.lt
def Inv.sz(I:Inv X pins σ H s):X.s₀.heap.objs.size<=s.heap.objs.size:=Pr I.ok.above (Q7 I.lt)
def Inv.zeS(I:Inv X pins σ H s){a:Xl}(h:s.heap.objs.size<=a):a∉X.fs:=λhb=>by obtain⟨_,o,ho,_⟩:=I.ok.WB.mem hb;exact absurd (OS (OT ho) (Pr I.sz h)) (Qg _)
def Inv.YK(I:Inv X pins σ H s):∀x c,X.env.cells.lookup x=Qs c->c≠X.env.locals:=λx c e z=>by obtain⟨v,o,ho,hd⟩:=I.cell x c e;obtain⟨m,⟨o',es,ep,Yv,Wi,_⟩,_⟩:=I.loc;rw[z,Yv]at ho;cases ho;rw[Wi]at hd;cases hd
def Inv.WB(I:Inv X pins σ H s):s.heap.FunFrames X.base X.outer:=by
 have all:∀(l:Ql Env),(∀b∈gW l,b∈X.fs)->X.s₀.heap.FunFrames X.base l->s.heap.FunFrames X.base l:=by
  intro l
  induction l with
  |nil=>intro _ _;trivial
  |cons env r ih=>intro hs hl;obtain⟨hk,⟨L,o,hf,hn,ho,hd⟩,hr⟩:=hl;have hL:L∈X.fs:=hs L (by unfold gW;rw[RA,hf];exact Ox);obtain⟨sl,e⟩:=I.base.slot L o ho (I.ok.Yh L hL) hL λz=>I.ok.ZW L z hL;exact⟨hk,⟨L,_,hf,hn,e,hd⟩,ih (λb hb=>hs b (by unfold gW;rw[RA,hf];exact Ov _ hb)) hr⟩
 exact all X.outer (λ_ hb=>hb) I.ok.WB
def Inv.stack(I:Inv X pins σ H s):s.heap.FunFrames X.base X.stack:=by
 rcases I.ok.Zr with e|⟨e,hf⟩
 .rw[e];exact I.WB
 .rw[e];obtain⟨m,hn,_⟩:=I.loc;refine .cons (by rw[I.ok.kind];decide) hf hn ?_ I.WB;exact Heap.get?_none_of_le (Pr I.ok.Xw I.ok.above)
def Inv.Zq(I:Inv X pins σ H s):∀b∈gW X.stack,b∈X.env.locals::X.fs:=λb hb=>by
 rcases I.ok.Zr with e|⟨e,hf⟩
 .rw[e]at hb;exact Ov _ hb
 .rw[e]at hb;unfold gW at hb;rw[RA,hf]at hb;exact hb
def Inv.zch(I:Inv X pins σ H s):∀b∈gW X.stack,H b=Qn:=λb hb=>by
 rcases OC.mp (I.Zq b hb) with e|hb
 .rw[e];exact I.free
 .obtain⟨_,o,ho,_⟩:=I.ok.WB.mem hb;exact I.base.free b o ho (I.ok.Yh b hb) λz=>I.ok.ZW b z hb
def Inv.step{g':Array GenState}{d':Drawn}{ch:Ql Xl}(I:Inv X pins σ H s) (Ye:∀b∈ch,(b∈X.ex\/X.s₀.heap.objs.size<=b)/\b≠X.env.locals/\(∀x c,X.env.cells.lookup x=Qs c->c≠b)/\∀p∈X.pn++pins,p.1≠b) (keep:∀b o,b≠X.env.locals->b∉X.fs->b∉ch->s.heap.get? b=Qs o->H b=Qn->h'.get? b=Qs o) (slot:∀b o,b≠X.env.locals->b∈X.fs->b∉ch->s.heap.get? b=Qs o->H b=Qn->∃sl,h'.get? b=Qs {o with slots:=sl}) (free:∀b o,b∉ch->s.heap.get? b=Qs o->H b=Qn->H' b=Qn) (there:∀b o,b∉ch->s.heap.get? b=Qs o->∃o',h'.get? b=Qs o') (Xx:∀b xs,H b=Qs (.tup xs)->H' b=Qs (.tup xs)) (Xs:∀b o u,H b=Qs (.Vb o u)->H' b=Qs (.Vb o u)) (Wv:∀b q,H b=Qs (.Wa q)->H' b=Qs (.Wa q)) (ns:∀m,s.heap.Ns X.env.locals m->h'.Ns X.env.locals m) (TY:U7 X.prog X.w H' h') (hg:AllBare g'):Inv X pins σ H' {s with heap:=h',gens:=g',drawn:=d',toks:=t'}:=by
 have neL:∀b o,X.s₀.heap.get? b=Qs o->b≠X.env.locals:=λb o e=>Ph (OS (OT e) I.ok.above);have neC:∀b o,X.s₀.heap.get? b=Qs o->b∉X.ex->b∉ch:=λb o e hx hb=>by
  rcases(Ye b hb).1 with z|z
  .exact hx z
  .exact absurd (OS (OT e) z) (Qg _)
 have cellK:∀x c,X.env.cells.lookup x=Qs c->∀v,s.heap.IsCell c v->h'.IsCell c v:=λx c e v ⟨o,ho,hd⟩=>by
  have ZA:c∉ch:=λz=>(Ye c z).2.2.1 x c e rfl;by_cases hc:c∈X.fs
  .obtain⟨sl,q⟩:=slot c o (I.YK x c e) hc ZA ho (I.Xc x c e);exact⟨_,q,hd⟩
  .exact⟨o,keep c o (I.YK x c e) hc ZA ho (I.Xc x c e),hd⟩
 refine⟨I.ok,I.os,hg,⟨λb o e n hb hx=>?_,λb o e n hb hx=>?_,λb o e n hx=>?_,λb o e hx=>?_,λb xs e=>Xx b xs (I.base.Xx b xs e),λb o xs e=>Xs b o xs (I.base.Xs b o xs e),λb ps e=>?_⟩,?_,λx c e=>?_,?_,λx c e=>?_,λp hp=>?_,TY,I.len⟩
 .exact keep b o (neL b o e) hb (neC b o e hx) (I.base.keep b o e n hb hx) (I.base.free b o e n hx)
 .obtain⟨sl,e1⟩:=I.base.slot b o e n hb hx;obtain⟨sl',e2⟩:=slot b _ (neL b o e) hb (neC b o e hx) e1 (I.base.free b o e n hx);exact⟨sl',e2⟩
 .obtain⟨o',e1⟩:=I.base.there b o e hx;exact free b o' (neC b o e hx) e1 (I.base.free b o e n hx)
 .obtain⟨o',e1⟩:=I.base.there b o e hx;exact there b o' (neC b o e hx) e1
 .exact Wv b _ (I.base.Wv b ps e)
 .obtain⟨m,hn,hl⟩:=I.loc;refine⟨m,ns m hn,λi x v e1 e2 e3=>?_⟩;obtain⟨u,r,l⟩:=hl i x v e1 e2 e3;refine⟨u,r,?_⟩;rcases l with l|⟨k,c,e,z⟩
  .exact .inl l
  .exact .inr ⟨k,c,e,cellK x c e _ z⟩
 .obtain⟨v,z⟩:=I.cell x c e;exact⟨v,cellK x c e v z⟩
 .obtain⟨m,⟨o,_,_,ho,_⟩,_⟩:=I.loc;exact free _ o (λz=>(Ye _ z).2.1 rfl) ho I.free
 .obtain⟨v,o,ho,hd⟩:=I.cell x c e;exact free c o (λz=>(Ye c z).2.2.1 x c e rfl) ho (I.Xc x c e)
 .obtain⟨e,n,ne,nf,d⟩:=I.pin p hp;have ZA:p.1∉ch:=λz=>(Ye p.1 z).2.2.2 p hp rfl;exact⟨keep p.1 p.2 ne nf ZA e n,free p.1 p.2 ZA e n,ne,nf,d⟩
def Inv.un (I:Inv X pins σ H s)(u:Un X.fs [] H H' s.heap h')(TY:U7 X.prog X.w H' h'):Inv X pins σ H' {s with heap:=h',toks:=t'}:=by
 obtain⟨m,⟨o,es,ep,ho,r⟩,_⟩:=id I.loc;obtain⟨sl,hL⟩:=u.any ho I.free (by simp);exact I.step (g':=s.gens) (d':=s.drawn) (ch:=[]) (λ_ z=>nomatch z) (λb o _ hb _ e n=>u.keep b o e n hb (by simp)) (λb o _ hb _ e n=>u.slot b o e n hb (by simp)) (λb o _ e n=>u.free b o e n (by simp)) (λb o _ e=>u.there b o e (by simp)) u.Xx u.Xs u.Wv (λm' hm=>by
  obtain⟨o',UG,ep',Yv,r'⟩:=hm;rw[ho]at Yv;cases Yv;exact⟨_,UG,ep',hL,r'⟩) TY I.bare
def Inv.call{g':Array GenState}{d':Drawn}{ch:Ql Xl}(I:Inv X pins σ H s)(u:Un (gW X.stack) ch H H' s.heap h')(TY:U7 X.prog X.w H' h')(hg:AllBare g') (Ye:∀b∈ch,(b∈X.ex\/X.s₀.heap.objs.size<=b)/\b≠X.env.locals/\(∀x c,X.env.cells.lookup x=Qs c->c≠b)/\∀p∈X.pn++pins,p.1≠b):Inv X pins σ H' {s with heap:=h',gens:=g',drawn:=d',toks:=t'}:=by
 obtain⟨m,⟨o,es,ep,ho,r⟩,_⟩:=id I.loc;obtain⟨sl,hL⟩:=u.any ho I.free λz=>(Ye _ z).2.1 rfl;exact I.step (ch:=ch) Ye (λb o hL hb hc e n=>u.keep b o e n (λz=>(OC.mp (I.Zq b z)).elim hL hb) hc) (λb o _ _ hc e n=>u.any e n hc) (λb o hc e n=>u.free b o e n hc) (λb o hc e=>u.there b o e hc) u.Xx u.Xs u.Wv (λm' hm=>by
  obtain⟨o',UG,ep',Yv,r'⟩:=hm;rw[ho]at Yv;cases Yv;exact⟨_,UG,ep',hL,r'⟩) TY hg
def Inv.turned{it:Xl}(I:Inv X pins σ H s)(k:∀b o,b≠it->s.heap.get? b=Qs o->h'.get? b=Qs o)(hn:H it=Qn)(hL:it≠X.env.locals) (h1:it∈X.ex\/X.s₀.heap.objs.size<=it) (h2:∀x c,X.env.cells.lookup x=Qs c->c≠it) (h3:∀p∈X.pn++pins,p.1≠it):Inv X pins σ H {s with heap:=h',toks:=t'}:=by
 have nit:∀b u,H b=Qs u->b≠it:=λb u e z=>by rw[z,hn]at e;cases e
 refine I.step (g':=s.gens) (d':=s.drawn) (ch:=[it]) (λb hb=>?_) (λb o _ _ hc e _=>k b o (λz=>hc (by simp[z])) e) (λb o _ _ hc e _=>⟨o.slots,k b o (λz=>hc (by simp[z])) e⟩) (λ_ _ _ _ n=>n) (λb o hc e=>⟨o,k b o (λz=>hc (by simp[z])) e⟩) (λ_ _ e=>e) (λ_ _ _ e=>e) (λ_ _ e=>e) (λm hm=>?_) (λb u e=>?_) I.bare
 .have e:b=it:=by simpa using hb
  subst e;exact⟨h1,hL,h2,h3⟩
 .obtain⟨o,es,ep,ho,r⟩:=hm;exact⟨o,es,ep,k _ o (Ne.symm hL) ho,r⟩
 .refine(I.TY b u e).XC (λc v hc q=>k c v ?_ q) (λ_ q=>q) (λ_ _ q=>q) λ_ _ _ q=>q;rcases hc with z|z
  .rw[z];exact nit b u e
  .exact nit c _ z
def Inv.tok(I:Inv X pins σ H s)(t:Nat):Inv X pins σ H {s with toks:=t}:=I.un (h':=s.heap) (t':=t) Un.refl I.TY
def Inv.kept{t':Nat}(I:Inv X pins σ H s)(k:∀b u,s.heap.get? b=Qs u->h'.get? b=Qs u):Inv X pins σ H {s with heap:=h',toks:=t'}:=I.un (Un.kept k) (I.TY.kept k)
def Inv.laid{a:Xl}{o:HO}{t':Nat}(I:Inv X pins σ H s)(k:∀b u,s.heap.get? b=Qs u->h'.get? b=Qs u)(hp:s.heap.objs.size<=a)(new:U5 X.prog X.w (upd H a o) h' a o) :Inv X pins σ (upd H a o) { s with heap:=h',toks:=t' }:=I.un (Un.laid k hp (I.TY.fresh hp)) (I.TY.laid k hp new)
def Inv.write{x e:Xl}{o:HO}{t':Nat}(I:Inv X pins σ H s)(mu:qi (H x))(he:e=x\/H e=Qs (.own x))(k:∀b u,b≠e->s.heap.get? b=Qs u->h'.get? b=Qs u)(Yd:∃u,h'.get? e=Qs u)
  (new:U5 X.prog X.w (upd H x o) h' x o):Inv X pins σ (upd H x o) { s with heap:=h',toks:=t' }:=I.un (Un.write mu he k Yd) (I.TY.write mu he k Yd new)
def Inv.zcy{VL:Ql (Xl×Obj)}(I:Inv X pins σ H s)(h:∀p∈VL,s.heap.get? p.1=Qs p.2/\H p.1=Qn/\p.1≠X.env.locals/\p.1∉X.fs/\∀v,p.2.data≠.cell v):Inv X VL σ H s:=⟨I.ok,I.os,I.bare,I.base,I.loc,I.cell,I.free,I.Xc,λp hp=>(Ow.mp hp).elim (λz=>I.pin p (Ot _ z)) (h p),I.TY,I.len⟩
def BX (hN:N.Nodup) (a:N[i]?=Qs x)(b:N[j]?=Qs x):i=j:=by obtain⟨h1,e1⟩:=O6.mp a;obtain⟨h2,e2⟩:=O6.mp b;exact(List.getElem_inj hN).mp (e1.trans e2.symm)
def Aq{A:Qq}{Q:Unit->OJ->Prop}(I:Inv X pins σ H s)(hN:X.N.Nodup)(hi:X.N[i]?=Qs x)(hx:Loc X.env.scope x)(r:RelV v u) (h:∀s',Inv X pins (σ.set i (Qs v)) H s'->(∃a,Heap.SameBut a s.heap s'.heap/\(a=X.env.locals\/X.env.cells.lookup x=Qs a))->Q () s') (hf:X.fn x=Qt\/X.env.scope.names.lookup x=Qs .local:=by first|exact .inl rfl|exact .inr rfl|assumption):wpAny M A (storeName X.env x u) Q E s:=by
 obtain⟨m,hn,hl⟩:=id I.loc;have zgd:(X.env.scope.kind==.class||(X.env.scope.kind==.module&&X.env.locals !=X.env.globals))=Qf:=by rw[I.ok.kind];rfl
 have hiσ:i<σ.length:=by rw[I.len];exact(O6.mp hi).1
 have YK:=I.YK;have tracked:∀{a:Xl}{h':Xm},(∃o,s.heap.get? a=Qs o/\H a=Qn)->Heap.SameBut a s.heap h'->U7 X.prog X.w H h':=λ{a h'} ha hs b ob e=>by
  obtain⟨_,_,Yc⟩:=ha;refine(I.TY b ob e).XC (λc w' hc q=>(hs.2 c ?_).trans q) (λ_ q=>q) (λ_ _ q=>q) λ_ _ _ q=>q;rintro rfl;rcases hc with rfl|hc
  .rw[Yc]at e;cases e
  .rw[Yc]at hc;cases hc
 rcases hx with hk|hk
 .refine wpAny_storeName_local hk hn (λh' ZN hs=>?_) zgd;obtain⟨oL,_,_,hoL,_⟩:=id hn;refine h _ ⟨I.ok,I.os,I.bare,⟨λb o e n hb hx=>?_,λb o e n hb hx=>?_,I.base.free,λb o e hx=>?_,I.base.Xx,I.base.Xs,I.base.Wv⟩,⟨_,ZN,λj y v' e1 e2 e3=>?_⟩,λy c e=>?_,I.free,I.Xc,λp hp=>?_,tracked ⟨oL,hoL,I.free⟩ hs,by simpa using I.len⟩ ⟨_,hs,.inl rfl⟩
  .exact(hs.2 b (Ph (OS (OT e) I.ok.above))).trans (I.base.keep b o e n hb hx)
  .obtain⟨sl,e1⟩:=I.base.slot b o e n hb hx;exact⟨sl,(hs.2 b (Ph (OS (OT e) I.ok.above))).trans e1⟩
  .obtain⟨o',e1⟩:=I.base.there b o e hx;exact⟨o',(hs.2 b (Ph (OS (OT e) I.ok.above))).trans e1⟩
  .by_cases hj:j=i
   .subst hj;rw[hi]at e1;cases e1;rw[Qr hiσ]at e2;cases e2;exact⟨u,r,.inl ⟨hk,by simp⟩⟩
   .rw[Pc (Ne.symm hj)]at e2;obtain⟨u',r',q⟩:=hl j y v' e1 e2 e3;refine⟨u',r',?_⟩;rcases q with⟨k,e⟩|⟨k,c,e,z⟩
    .refine .inl ⟨k,?_⟩;have:y≠x:=λe=>hj (BX hN e1 (e▸hi));simp[this,e]
    .exact .inr ⟨k,c,e,z.sameBut hs (YK y c e)⟩
  .obtain⟨w',z⟩:=I.cell y c e;exact⟨w',z.sameBut hs (YK y c e)⟩
  .obtain⟨e,n,ne,nf,d⟩:=I.pin p hp;exact⟨(hs.2 p.1 ne).trans e,n,ne,nf,d⟩
 .have hfn:X.fn x=Qt:=by
   rcases hf with z|z
   .exact z
   .rw[z]at hk;cases hk
  obtain⟨c,hc⟩:=I.ok.has x (.inl hk);obtain⟨w',z⟩:=I.cell x c hc;refine wpAny_storeName_cell I.ok.kind hk hc z (λh' WR hs=>?_);obtain⟨oc,hoc,zfC⟩:=id z;refine h {s with heap:=h'} ⟨I.ok,I.os,I.bare,⟨λb o e n hb hx=>?_,λb o e n hb hx=>?_,I.base.free,λb o e hx=>?_,I.base.Xx,I.base.Xs,I.base.Wv⟩,⟨m,hn.sameBut hs (Ne.symm (YK x c hc)),λj y v' e1 e2 e3=>?_⟩,λy c' e=>?_,I.free,I.Xc,λp hp=>?_,tracked ⟨oc,hoc,I.Xc x c hc⟩ hs,by simpa using I.len⟩ ⟨c,hs,.inr hc⟩
  .exact(hs.2 b (Ph (OS (OT e) (I.ok.Zi x c hfn hc)))).trans (I.base.keep b o e n hb hx)
  .obtain⟨sl,e1⟩:=I.base.slot b o e n hb hx;exact⟨sl,(hs.2 b (Ph (OS (OT e) (I.ok.Zi x c hfn hc)))).trans e1⟩
  .obtain⟨o',e1⟩:=I.base.there b o e hx;exact⟨o',(hs.2 b (Ph (OS (OT e) (I.ok.Zi x c hfn hc)))).trans e1⟩
  .by_cases hj:j=i
   .subst hj;rw[hi]at e1;cases e1;rw[Qr hiσ]at e2;cases e2;exact⟨u,r,.inr ⟨.inl hk,c,hc,WR⟩⟩
   .rw[Pc (Ne.symm hj)]at e2;obtain⟨u',r',q⟩:=hl j y v' e1 e2 e3;refine⟨u',r',?_⟩;rcases q with q|⟨k,c',e,z'⟩
    .exact .inl q
    .refine .inr ⟨k,c',e,z'.sameBut hs ?_⟩;rintro rfl;exact hj (BX hN e1 (I.ok.inj _ _ _ e hc▸hi))
  .by_cases Yf:c'=c
   .subst Yf;exact⟨_,WR⟩
   .obtain⟨w2,z2⟩:=I.cell y c' e;exact⟨w2,z2.sameBut hs Yf⟩
  .obtain⟨e,n,ne,nf,d⟩:=I.pin p hp;refine⟨(hs.2 p.1 ?_).trans e,n,ne,nf,d⟩;intro q;rw[q,hoc]at e;have q':oc=p.2:=O4 e;exact d w' (by rw[<-q'];exact zfC)
def rm{A:Qq}{Q:Unit->OJ->Prop}(I:Inv X pins σ H s)(hN:X.N.Nodup)(hi:X.N[i]?=Qs x)(hx:Loc X.env.scope x)(r:RelV v u) (h:∀s',Inv X pins (σ.set i (Qs v)) H s'->Q () s') (hf:X.fn x=Qt\/X.env.scope.names.lookup x=Qs .local:=by first|exact .inl rfl|exact .inr rfl|assumption):wpAny M A (storeName X.env x u) Q E s:=Aq I hN hi hx r (λs' I' _=>h s' I') hf
end
abbrev XK:=OM->Qo Xl->Hp->Prop
abbrev St:=Ql (Qo V)
abbrev VK:=V->Hp->Prop
abbrev TE:=St->Hp->VK->Prop
abbrev TT:=St->Hp->(Bool->Hp->Prop)->Prop
abbrev TA:=St->Hp->(Ql V->Hp->Prop)->Prop
structure Ends where
 nx:St->Hp->Prop
 rt:VK
 bk:St->Hp->Prop:=λ_ _=>False
 ct:St->Hp->Prop:=λ_ _=>False
abbrev TS:=Ends->St->Hp->Prop
inductive EP(X:Cx)(pins:List (Xl×Obj))(σ:St)(Q:VK)(u:OM)(s':OJ):Prop
 |mk (v H':_) (_:Inv X pins σ H' s') (_:RelV v u) (_:Q v H')
inductive TP(X:Cx)(pins:List (Xl×Obj))(σ:St)(Q:Bool->Hp->Prop)(b:Bool)(s':OJ):Prop
 |mk (H':_) (_:Inv X pins σ H' s') (_:Q b H')
inductive AP(X:Cx)(pins:List (Xl×Obj))(σ:St)(Q:List V->Hp->Prop)(us:List OM)(s':OJ):Prop
 |mk (vs H':_) (_:Inv X pins σ H' s') (_:Vals vs us) (_:Q vs H')
inductive SN(X:Cx)(pins:List (Xl×Obj))(N:St->Hp->Prop)(s':OJ):Prop
 |mk (σ':St) (H':Hp) (_:Inv X pins σ' H' s') (_:N σ' H')
inductive SR(X:Cx)(pins:List (Xl×Obj))(N:VK)(u:OM)(s':OJ):Prop
 |mk (v:V) (σ':St) (H':Hp) (_:Inv X pins σ' H' s') (_:RelV v u) (_:N v H')
def SP(X:Cx)(pins:Ql (Xl×Obj))(D:Ends)(f:Flow)(s':OJ):Prop:=match f with
 |.next=>SN X pins D.nx s'
 |.brk=>SN X pins D.bk s'
 |.cont=>SN X pins D.ct s'
 |.ret u=>SR X pins D.rt u s'
def PE(X:Cx)(e:Xn)(t:TE):Prop:=∀(pins:Ql (Xl×Obj)) (s:OJ) (σ:St) (H:Hp) (Q:VK),Inv X pins σ H s->t σ H Q->wpAny (model X.prog X.w) X.A (eval e X.env) (EP X pins σ Q) X.xe s
def PT(X:Cx)(e:Xn)(t:TT):Prop:=∀(pins:Ql (Xl×Obj)) (s:OJ) (σ:St) (H:Hp) (Q:Bool->Hp->Prop),Inv X pins σ H s->t σ H Q->wpAny (model X.prog X.w) X.A (isTrue e X.env (eval e X.env)) (TP X pins σ Q) X.xe s
def PW(X:Cx)(e:Xn)(t:TT):Prop:=∀(whole:Sem OM) (pins:Ql (Xl×Obj)) (s:OJ) (σ:St) (H:Hp) (Q:Bool->Hp->Prop),Inv X pins σ H s->t σ H Q->wpAny (model X.prog X.w) X.A (isTrue e X.env whole) (TP X pins σ Q) X.xe s
def PW.pt{X:Cx}{t:TT}(h:PW X e t):PT X e t:=h _
def PA(X:Cx)(es:Ql Xn)(t:TA):Prop:=∀(pos:Pos) (pins:Ql (Xl×Obj)) (s:OJ) (σ:St) (H:Hp) (Q:Ql V->Hp->Prop),Inv X pins σ H s->t σ H Q->wpAny (model X.prog X.w) X.A (spliced (QJ pos (OP es X.env))) (AP X pins σ Q) X.xe s
def PS(X:Cx)(st:Xo)(t:TS):Prop:=∀(pins:Ql (Xl×Obj)) (s:OJ) (σ:St) (H:Hp) (D:Ends),Inv X pins σ H s->t D σ H->wpAny (model X.prog X.w) X.A (exec st X.env) (SP X pins D) X.xe s
def Uu(X:Cx)(st:Ql Xo)(t:TS):Prop:=∀(pins:Ql (Xl×Obj)) (s:OJ) (σ:St) (H:Hp) (D:Ends),Inv X pins σ H s->t D σ H->wpAny (model X.prog X.w) X.A (execs st X.env) (SP X pins D) X.xe s
def aE{α:Type}{t:Sem α}{Q Q':α->OJ->Prop}{A:Qq}(h:wpAny M A t Q E s)(hQ:∀a s,Q a s->Q' a s):wpAny M A t Q' E s:=wpAny_mono h hQ λ_ _ x=>x
end L2
variable{X:L2.Cx}{σ:L2.St}{Q:L2.VK}{ta:L2.TE}{base:L2.VZ}{te:L2.TE}{tb:L2.TE}{σ':L2.St}{Y:L2.Cx}{tv:L2.TE}
namespace L2
open PySem.Spec
section
def uj (ha:PE X a ta)(hb:PE X b tb){σ:St}{R:V->V->Hp->Prop}(I:Inv X pins σ H s)(h:ta σ H λx H1=>tb σ H1 λy H2=>R x y H2)
  {α:Type}{Q:α->OJ->Prop}{f:OM->OM->Sem α} (hf:∀v u s2 x y H2,Inv X pins σ H2 s2->RelV x v->RelV y u->R x y H2->wpAny (model X.prog X.w) X.A (f v u) Q X.xe s2):wpAny (model X.prog X.w) X.A (eval a X.env) (λv s₁=>wpAny (model X.prog X.w) X.A (eval b X.env) (λu s₂=>wpAny (model X.prog X.w) X.A (f v u) Q X.xe s₂) X.xe s₁) X.xe s:=by refine aE (ha pins s σ H _ I h) λv s1 ⟨x,H1,I1,r1,q1⟩=>?_;refine aE (hb pins s1 σ H1 _ I1 q1) λu s2 ⟨y,H2,I2,r2,q2⟩=>?_;exact hf v u s2 x y H2 I2 r1 r2 q2
def uO(i:Nat):TE:=λσ H Q=>∃v,σ[i]?=Qs (Qs v)/\Q v H
def tC(v:V):TE:=λ_ H Q=>Q v H
def dH (hN:X.N[i]?=Qs x)(hv:dt X.env.scope x)(hd:UR x:=by decide)(UI:Vz x:=by decide):PE X (.Name x pos) (uO i):=by
 intro pins s σ H Q I h;obtain⟨v,e,h⟩:=h;obtain⟨m,hn,hl⟩:=I.loc;obtain⟨u,r,l⟩:=hl i x v hN e hv;have fin:EP X pins σ Q u s:=⟨v,H,I,r,h⟩;rcases l with⟨hk,hm⟩|⟨hk,c,hc,zc9⟩
 .exact wpAny_Name (wpAny_loadName_local I.ok.kind hk hn hm fin) hd
 .rcases hk with hk|hk
  .exact wpAny_Name (wpAny_loadName_cell I.ok.kind hk hc zc9 fin) hd
  .exact wpAny_Name (wpAny_loadName_free I.ok.kind hk hc zc9 fin UI) hd
def wH{i j pos}:PE X (.Constant (.int i) j pos) (tC (.int i)):=λ_ _ _ H _ I h=>wpAny_Constant_int ⟨.int i,H,I.tok _,⟨_,rfl⟩,h⟩
def JX{b j pos}:PE X (.Constant (.bool b) j pos) (tC (.bl b)):=λ_ _ _ H _ I h=>Constant_bool ⟨.bl b,H,I,rfl,h⟩
def JN{j pos}:PE X (.Constant .none j pos) (tC .TX):=λ_ _ _ H _ I h=>Constant_none ⟨.TX,H,I,rfl,h⟩
def Gl(X:Cx)(x:Str):Prop:=X.env.kindOf x=Qs .globalImplicit
def CF{σ:St}{Q:OM->OJ->Prop}(I:Inv X pins σ H s)(hg:Gl X x)(hm:X.mg x=Qs u)(h:Q u s) (hd:UR x:=by decide):wpAny (model X.prog X.w) X.A (eval (.Name x pos) X.env) Q E s:=Calls.Name_function_global I.ok.kind hg (Calls.loadGlobal_global (by rw[I.ok.glob];exact I.mod.glob.keeps I.bk) hm h) hd
def iR{σ:St}{Q:OM->OJ->Prop}(I:Inv X pins σ H s)(hg:Gl X x)(hm:X.mg x=Qn)(hv:bootBuiltins x=Qs u)(h:Q u s) (hn:x≠"__name__":=by decide) (hd:UR x:=by decide):wpAny (model X.prog X.w) X.A (eval (.Name x pos) X.env) Q E s:=by obtain⟨mb,h1,h2⟩:=I.mod.blt;exact Calls.Name_function_global I.ok.kind hg (Calls.loadGlobal_builtin (by rw[I.ok.glob];exact I.mod.glob.keeps I.bk) hm (by rw[I.ok.blt];exact h1.keeps I.bk) ((h2 x hn).trans hv) h) hd
def JW (hg:Gl X x)(hm:X.mg x=Qn)(hv:bootBuiltins x=Qs u)(r:RelV v u)(hn:x≠"__name__":=by decide)(hd:UR x:=by decide):PE X (.Name x pos) (tC v):=λ_ _ _ H _ I h=>iR I hg hm hv ⟨v,H,I,r,h⟩ hn hd
variable {tA tB':TT}
def zcb(t u:TT):TT:=λσ H Q=>t σ H λc H1=>if c=Qt then u σ H1 Q else Q Qf H1
def XB(t u:TT):TT:=λσ H Q=>t σ H λc H1=>if c=Qt then Q Qt H1 else u σ H1 Q
def zca(t:TT):TT:=λσ H Q=>t σ H λc H1=>Q (!c) H1
def A7(ha:PT X a tA):PW X (.BoolOp .And [a] pos) tA:=by
 intro wh pins s σ H Q I h;refine isTrue_and (aE (ha pins s σ H Q I h) λc s1 e=>?_);cases c with
 |true=>exact isTrue_and_nil e
 |false=>exact e
def A4(ha:PT X a tA):PW X (.BoolOp .Or [a] pos) tA:=by
 intro wh pins s σ H Q I h;refine isTrue_or (aE (ha pins s σ H Q I h) λc s1 e=>?_);cases c with
 |false=>exact isTrue_or_nil e
 |true=>exact e
def Io(ha:PT X a tA)(hb:PW X (.BoolOp .And (b::rest) pos) tB'):PW X (.BoolOp .And (a::b::rest) pos) (zcb tA tB'):=by
 intro wh pins s σ H Q I h;refine isTrue_and (aE (ha pins s σ H _ I h) λc s1 ⟨H1,I1,q1⟩=>?_);cases c with
 |true=>exact hb wh pins s1 σ H1 Q I1 q1
 |false=>exact⟨H1,I1,q1⟩
def A6(ha:PT X a tA)(hb:PW X (.BoolOp .Or (b::rest) pos) tB'):PW X (.BoolOp .Or (a::b::rest) pos) (XB tA tB'):=by
 intro wh pins s σ H Q I h;refine isTrue_or (aE (ha pins s σ H _ I h) λc s1 ⟨H1,I1,q1⟩=>?_);cases c with
 |true=>exact⟨H1,I1,q1⟩
 |false=>exact hb wh pins s1 σ H1 Q I1 q1
def IB(ha:PT X a tA):PT X (.UnaryOp .Not a pos) (zca tA):=by intro pins s σ H Q I h;exact isTrue_not (aE (ha pins s σ H (λc H1=>Q (!c) H1) I h) λc s1 ⟨H1,I1,q1⟩=>⟨H1,I1,q1⟩)
def Gs(t:TT)(ta tb:TE):TE:=λσ H Q=>t σ H λc H1=>if c=Qt then ta σ H1 Q else tb σ H1 Q
def JQ (hc:PT X c tA)(ha:PE X a ta)(hb:PE X b tb):PE X (.IfExp c a b pos) (Gs tA ta tb):=by
 intro pins s σ H Q I h;refine wpAny_IfExp (aE (hc pins s σ H _ I h) λd s1 ⟨H1,I1,q1⟩=>?_);cases d with
 |true=>exact ha pins s1 σ H1 Q I1 q1
 |false=>exact hb pins s1 σ H1 Q I1 q1
end
def TZ(K:Ou)(H:Hp)(a:Xl)(xs:Ql V):Prop:=Rd H a (.lst xs) \/
  ∃(o:Obj) (TH:Array OM) (n:Nat),K.lookup a=Qs o/\o.cls=.type "list"/\o.dict=Qn/\o.data=.seq TH n/\TH.size<=O3/\Vals xs TH.toList
def UA(K:Ou)(H:Hp)(a:Xl)(xs:Ql V):Prop:=H a=Qs (.tup xs)
def Oc:OM->Qo V
 |.none=>Qs .TX
 |.bool b=>Qs (.bl b)
 |.int i _=>Qs (.int i)
 |.str x _=>Qs (.str x)
 |.bytes b _=>Qs (.Wt b)
 |.float b _=>Qs (.flt b)
 |.ref a=>Qs (.ref a)
 |.type n=>Qs (.ty n)
 |_=>Qn
def RelV.abs{x:V}(r:RelV x u):Oc u=Qs x:=by
 cases x with
 |TX=>cases r;rfl
 |bl _=>cases r;rfl
 |int _=>obtain⟨t,rfl⟩:=r;rfl
 |str _=>obtain⟨t,rfl⟩:=r;rfl
 |Wt _=>obtain⟨t,rfl⟩:=r;rfl
 |flt _=>obtain⟨t,rfl⟩:=r;rfl
 |ref _=>cases r;rfl
 |ty _=>cases r;rfl
def RelV.inj{x:V}(r:RelV x u)(q:RelV y u):x=y:=O4 (r.abs.symm.trans q.abs)
def Vals.inj:∀{xs ys:Ql V}{us:Ql OM},Vals xs us->Vals ys us->xs=ys
 |_,_,_,.nil,.nil=>rfl
 |_,_,_,.cons r t,.cons r' t'=>by rw[r.inj r',Vals.inj t t']
section
variable {σ:St}{a:Xl}
def TZ.of (h:H a=Qs (.lst xs)):TZ K H a xs:=.inl (.inl h)
def UA.of (h:H a=Qs (.tup xs)):UA K H a xs:=h
def Inv.list(I:Inv X pins σ H s)(h:TZ X.K H a xs):∃TH:Ql OM,Vals xs TH/\PlainL s.heap a TH.toArray/\xs.length<=O3:=by
 rcases h with h|⟨o,TH,n,hk,hc,hd,hs,hz,r⟩
 .obtain⟨z,TH,n,r,e⟩:=h.ok I.TY;exact⟨TH,r,⟨_,n,e,rfl,rfl,rfl⟩,z⟩
 .refine⟨TH.toList,r,⟨o,n,I.Vf a o hk,hc,hd,by simpa using hs⟩,?_⟩;have e:=r.length;simp only[RB]at e;lia
def Inv.tuple(I:Inv X pins σ H s)(h:UA X.K H a xs):∃TH:Ql OM,Vals xs TH/\IsTup s.heap a TH.toArray/\xs.length<=O3:=by obtain⟨z,TH,r,p⟩:=(show U5 X.prog X.w H s.heap a (.tup xs) from I.TY a _ h);exact⟨TH,r,p,z⟩
def Inv.za8(I:Inv X pins σ H s)(h:TZ X.K H a xs)(h':TZ X.K H a ys):xs=ys:=by
 obtain⟨TH,r,⟨o,n,e,_,_,d⟩,_⟩:=I.list h;obtain⟨its',r',⟨o',n',e',_,_,d'⟩,_⟩:=I.list h';rw[e]at e';cases e';rw[d]at d';injection d' with d1 _
 have:TH=its':=by simpa using congrArg SD d1
 subst this;exact r.inj r'
def Inv.zb6(I:Inv X pins σ H s)(h:UA X.K H a xs)(h':UA X.K H a ys):xs=ys:=by
 obtain⟨TH,r,⟨o,e,_,n,d⟩,_⟩:=I.tuple h;obtain⟨its',r',⟨o',e',_,n',d'⟩,_⟩:=I.tuple h';rw[e]at e';cases e';rw[d]at d';injection d' with d1 _
 have:TH=its':=by simpa using congrArg SD d1
 subst this;exact r.inj r'
end
abbrev Cx.Xi(X:Cx)(E:OM->OJ->Prop):Cx:={X with xe:=E}
abbrev Cx.X5(X:Cx):Cx:=X.Xi λ_ _=>False
def Cx.Ok.Xi{X:Cx}(ok:X.Ok)(E:OM->OJ->Prop):(X.Xi E).Ok:=⟨ok.mod,ok.kind,ok.glob,ok.blt,ok.above,ok.inj,ok.has,ok.Zi,ok.hd,ok.frames,ok.Zr,ok.exf,ok.bs,ok.Xw,ok.Y3,ok.ZW,ok.WB,ok.Yh,ok.tabs⟩
def Cx.Ok.XZ (ok:(X.Xi E).Ok):X.Ok:=⟨ok.mod,ok.kind,ok.glob,ok.blt,ok.above,ok.inj,ok.has,ok.Zi,ok.hd,ok.frames,ok.Zr,ok.exf,ok.bs,ok.Xw,ok.Y3,ok.ZW,ok.WB,ok.Yh,ok.tabs⟩
section
variable {σ:St}
def Inv.Xi(I:Inv X pins σ H s)(E:OM->OJ->Prop):Inv (X.Xi E) pins σ H s:=⟨I.ok.Xi E,I.os,I.bare,I.base,I.loc,I.cell,I.free,I.Xc,I.pin,I.TY,I.len⟩
def Inv.XZ(I:Inv (X.Xi E) pins σ H s):Inv X pins σ H s:=⟨I.ok.XZ,I.os,I.bare,I.base,I.loc,I.cell,I.free,I.Xc,I.pin,I.TY,I.len⟩
def SP.XZ{D:Ends}{f:Flow}{s':OJ}(h:SP (X.Xi E) pins D f s'):SP X pins D f s':=by
 cases f with
 |next=>obtain⟨σ',H',I,q⟩:=h;exact⟨σ',H',I.XZ,q⟩
 |brk=>obtain⟨σ',H',I,q⟩:=h;exact⟨σ',H',I.XZ,q⟩
 |cont=>obtain⟨σ',H',I,q⟩:=h;exact⟨σ',H',I.XZ,q⟩
 |ret u=>obtain⟨v,σ',H',I,r,q⟩:=h;exact⟨v,σ',H',I.XZ,r,q⟩
def Uu.X5{st:Ql Xo}{t:TS}(h:Uu X.X5 st t):Uu X st t:=λpins s σ H D I hw=>
 wpAny_mono (h pins s σ H D (I.Xi _) hw) (λ_ _ q=>q.XZ) λ_ _ z=>False.elim z
end
section
variable {t u:TS}
def Gm:TS:=λD σ H=>D.nx σ H
def Gf(t u:TS):TS:=λD σ H=>t {D with nx:=u D} σ H
def Bj:Uu X [] Gm:=λ_ _ σ H _ I h=>wpAny_execs_nil ⟨σ,H,I,h⟩
def v3(h1:PS X st t)(h2:Uu X rest u):Uu X (st::rest) (Gf t u):=by
 intro pins s σ H D I h;refine wpAny_execs_cons (aE (h1 pins s σ H {D with nx:=u D} I h) λf s1 q=>?_);cases f with
 |next=>obtain⟨σ',H',I',q⟩:=q;exact h2 pins s1 σ' H' D I' q
 |ret v=>exact q
 |brk=>exact q
 |cont=>exact q
def sj(h1:PS X st t):Uu X [st] t:=by
 intro pins s σ H D I h;refine wpAny_execs_cons (aE (h1 pins s σ H D I h) λf s1 q=>?_);cases f with
 |next=>exact wpAny_execs_nil q
 |ret v=>exact q
 |brk=>exact q
 |cont=>exact q
def Inv.quiet{σ:St}(I:Inv X pins σ H s):interactive X.env=Qf:=by simp[interactive,I.ok.kind]
def Gw(te:TE):TS:=λD σ H=>te σ H λ_ H1=>D.nx σ H1
def ot(he:PE X e te)(hs:swapsWith e Qn pos.line X.env=pure Qf:=by rfl):PS X (.Expr e pos) (Gw te):=by intro pins s σ H D I h;exact wpAny_Expr_any (aE (he pins s σ H _ I h) λv s1 ⟨x,H1,I1,r1,q1⟩=>⟨σ,H1,I1,q1⟩) I.quiet hs
def Gg(te:TE):TS:=λD σ H=>te σ H D.rt
def sq(he:PE X e te):PS X (.Return (Qs e) pos) (Gg te):=by intro pins s σ H D I h;exact wpAny_Return_some (aE (he pins s σ H _ I h) λv s1 ⟨x,H1,I1,r1,q1⟩=>⟨x,σ,H1,I1,r1,q1⟩)
def Gq(c:TT)(t u:TS):TS:=λD σ H=>c σ H λb H1=>if b=Qt then t D σ H1 else u D σ H1
def Bm{a b:Ql Xo}{tc:TT}(hc:PT X c tc)(ha:Uu X a t)(hb:Uu X b u):PS X (.If c a b pos) (Gq tc t u):=by
 intro pins s σ H D I h;refine wpAny_If (aE (hc pins s σ H _ I h) λd s1 ⟨H1,I1,q1⟩=>?_);cases d with
 |true=>exact ha pins s1 σ H1 D I1 q1
 |false=>exact hb pins s1 σ H1 D I1 q1
end
abbrev TG:=V->St->Hp->(St->Hp->Prop)->Prop
abbrev fz:=Ql V->St->Hp->(St->Hp->Prop)->Prop
def PG(X:Cx)(target:Xn)(t:TG):Prop:=∀(pins:Ql (Xl×Obj)) (s:OJ) (σ:St) (H:Hp) (v:V) (u:OM) (Q:St->Hp->Prop),Inv X pins σ H s->RelV v u->t v σ H Q->wpAny (model X.prog X.w) X.A (assign target X.env u) (λ_ s'=>∃σ' H',Inv X pins σ' H' s'/\Q σ' H') X.xe s
def p9(X:Cx)(ts:Ql Xn)(t:fz):Prop:=∀(pins:Ql (Xl×Obj)) (s:OJ) (σ:St) (H:Hp) (vs:Ql V) (us:Ql OM) (Q:St->Hp->Prop),Inv X pins σ H s->Vals vs us->t vs σ H Q->wpAny (model X.prog X.w) X.A (assignInOrder ((assignEach ts X.env).map (·.2)) us) (λ_ s'=>∃σ' H',Inv X pins σ' H' s'/\Q σ' H') X.xe s
abbrev pX:=V->V->V->Hp->(Hp->Prop)->Prop
def uA(X:Cx)(t:pX):Prop:=∀(pins:Ql (Xl×Obj)) (s:OJ) (σ:St) (H:Hp) (o i v:V) (ov iv u:OM) (Q:Hp->Prop),Inv X pins σ H s->RelV o ov->RelV i iv->RelV v u->t o i v H Q->wpAny (model X.prog X.w) X.A (setItem ov iv u) (λ_ s'=>∃H',Inv X pins σ H' s'/\Q H') X.xe s
abbrev uz:=V->V->Hp->VK->Prop
def zJ(X:Cx)(op:Operator)(t:uz):Prop:=∀(pins:Ql (Xl×Obj)) (s:OJ) (σ:St) (H:Hp) (x y:V) (v u:OM) (Q:VK),Inv X pins σ H s->RelV x v->RelV y u->t x y H Q->wpAny (model X.prog X.w) X.A (inplaceOp op v u) (EP X pins σ Q) X.xe s
def jI(i:Nat):TG:=λv σ H Q=>Q (σ.set i (Qs v)) H
def gB (hN:X.N.Nodup)(hi:X.N[i]?=Qs x)(hx:Loc X.env.scope x)(hf:X.fn x=Qt\/X.env.scope.names.lookup x=Qs .local:=by first|exact .inl rfl|exact .inr rfl|assumption):PG X (.Name x pos) (jI i):=by intro pins s σ H v u Q I r h;exact wpAny_assign_Name (rm I hN hi hx r (λs' I'=>⟨_,H,I',h⟩) hf)
def yo:fz:=λvs σ H Q=>vs=[]/\Q σ H
def yu(t:TG)(u:fz):fz:=λvs σ H Q=>∃v r,vs=v::r/\t v σ H λσ' H'=>u r σ' H' Q
def fV:p9 X [] yo:=by intro pins s σ H vs us Q I r h;obtain⟨e,h⟩:=h;subst e;cases r;exact assignInOrder_nil ⟨σ,H,I,h⟩
def cE{t:TG}{u:fz}(h1:PG X e t)(h2:p9 X es u) (hs:(assignEach (e::es) X.env).map (·.2)=assign e X.env::(assignEach es X.env).map (·.2):=by rfl):p9 X (e::es) (yu t u):=by
 intro pins s σ H vs us Q I r h;obtain⟨v,vr,e1,h⟩:=h;subst e1;cases r with
 |cons r rr=>rw[hs];refine assignInOrder_cons (aE (h1 pins s σ H _ _ _ I r h) λ_ s1 ⟨σ1,H1,I1,q1⟩=>?_);exact h2 pins s1 σ1 H1 _ _ Q I1 rr q1
def ym(K:Ou)(n:Nat)(t:fz):TG:=λv σ H Q=>∃a xs,v=.ref a/\UA K H a xs/\xs.length=n/\t xs σ H Q
def gR{k:Nat}{t:fz}(hc:X.calm=Qt)(h:p9 X es t) (hn:(assignEach es X.env).length=n:=by rfl) (UT:(assignEach es X.env).findIdx? (·.1)=Qn:=by rfl):PG X (.Tuple es k pos) (ym X.K n t):=by intro pins s σ H v u Q I r hw;obtain⟨a,xs,e1,hq,hl,hw⟩:=hw;subst e1;cases r;obtain⟨TH,rv,ht,hz⟩:=I.tuple hq;refine assign_Tuple_tuple (I.ok.hd hc) ht (by simp[hn,<-hl,rv.length]) UT λh' hx=>?_;have I1:Inv X pins σ H {s with heap:=h'}:=I.kept (t':=s.toks) λb o e=>hx b o (Ph (OT e)) e;exact h pins _ σ H xs _ Q I1 (by simpa using rv) hw
def yn(to ti:TE)(t:pX):TG:=λv σ H Q=>to σ H λo H1=>ti σ H1 λi H2=>t o i v H2 λH3=>Q σ H3
def wy{i:Xn}{to ti:TE}{t:pX}(ho:PE X o to)(hi:PE X i ti)(hs:uA X t) (ha:∀v,assign (.Subscript o i pos) X.env v=(do
   let ov<-holding [v] (eval o X.env)
   let iv<-holding [v,ov] (eval i X.env)
   standAt pos
   holding [v,ov,iv] (setItem ov iv v)
   release [v,ov,iv] []):=by intro _;rfl):PG X (.Subscript o i pos) (yn to ti t):=by intro pins s σ H v u Q I r h;rw[ha];refine OB (wpAny_holding (aE (ho pins s σ H _ I h) λov s1 ⟨x,H1,I1,r1,q1⟩=>?_));refine OB (wpAny_holding (aE (hi pins s1 σ H1 _ I1 q1) λiv s2 ⟨y,H2,I2,r2,q2⟩=>?_));refine OB (wpAny_standAt (OB (wpAny_holding (aE (hs pins s2 σ H2 x y v ov iv u _ I2 r1 r2 r q2) λ_ s3 ⟨H3,I3,q3⟩=>?_))));exact wpAny_release ⟨σ,H3,I3,q3⟩
def Aj(te:TE)(g:TG):TS:=λD σ H=>te σ H λx H1=>g x σ H1 D.nx
def sr{g:TG}(he:PE X e te)(hg:PG X tg g)(hs:swapsWithSole [tg] e pos.line X.env=pure Qf:=by rfl)(hw:swappedStores [tg] e X.env=pure Qn:=by rfl) (h1:(assignEach [tg] X.env).map (·.2)=[assign tg X.env]:=by rfl):PS X (.Assign [tg] e pos) (Aj te g):=by intro pins s σ H D I h;refine wpAny_Assign_stores (aE (he pins s σ H _ I h) λv s1 ⟨x,H1,I1,r1,q1⟩=>?_) hs hw;rw[h1];exact aE (hg pins s1 σ H1 x v _ I1 r1 q1) λ_ s2 ⟨σ',H',I',q⟩=>⟨σ',H',I',q⟩
def wg (hN:X.N.Nodup)(hi:X.N[i]?=Qs x)(hx:Loc X.env.scope x)(he:PE X e te)(hs:swapsWith e (Qs (.Name x pos')) pos.line X.env=pure Qf:=by rfl)(hf:X.fn x=Qt\/X.env.scope.names.lookup x=Qs .local:=by first|exact .inl rfl|exact .inr rfl|assumption):PS X (.Assign [.Name x pos'] e pos) (Aj te (jI i)):=by intro pins s σ H D I h;refine wpAny_Assign_Name (aE (he pins s σ H _ I h) λv s1 ⟨y,H1,I1,r1,q1⟩=>?_) hs;exact rm I1 hN hi hx r1 (λs2 I2=>⟨_,H1,I2,q1⟩) hf
def Gh(i j:Nat)(ta:TA):TS:=λD σ H=>ta σ H λvs H1=>∃v w,vs=[v,w]/\D.nx ((σ.set i (Qs v)).set j (Qs w)) H1
def IP{y:Str}{ta:TA}{px pt:Pos}{kt k2 WK}(hc:X.calm=Qt)(hN:X.N.Nodup)(hi:X.N[i]?=Qs x)(hj:X.N[j]?=Qs y)(Y9:i≠j) (hx:X.env.scope.names.lookup x=Qs .local) (hy:X.env.scope.names.lookup y=Qs .local) (ha:PA X [a,b] ta) (hw:swappedStores [.Tuple [.Name x px,.Name y py] kt pt] (.Tuple [a,b] k2 WK) X.env=pure (Qs [x,y])) (hs:swapsWithSole [.Tuple [.Name x px,.Name y py] kt pt] (.Tuple [a,b] k2 WK) pos.line X.env=pure Qf:=by rfl):PS X (.Assign [.Tuple [.Name x px,.Name y py] kt pt] (.Tuple [a,b] k2 WK) pos) (Gh i j ta):=by
 intro pins s σ H D I h;rw[exec_Assign_arm];refine OB (wpAny_standAt ?_);rw[hs];refine OB (OQ ?_);rw[Tr (by decide)];refine OB (Tuple_ (aE (ha _ pins s σ H _ I h) λus s1 ⟨vs,H1,I1,r1,q1⟩=>?_));obtain⟨v,w,e1,q1⟩:=q1;subst e1;obtain⟨u1,u2,rfl,rv,VI⟩:∃u1 u2,us=[u1,u2]/\RelV v u1/\RelV w u2:=by
  cases r1 with
  |cons p q=>
   cases q with
   |cons p' q'=>cases q';exact⟨_,_,rfl,p,p'⟩
 refine wpAny_newObj_type ?_ (by show 2<=O3;decide);have I2:Inv X pins σ H1 {s1 with heap:=s1.heap.push {cls:=.type "tuple",data:=.seq [u1,u2].toArray}}:=I1.kept (t':=s1.toks) λb o e=>OA _ e;rw[hw];refine OB (OQ ?_);show wpAny (model X.prog X.w) X.A (do rule "assign.swapped-stores";let items<-unpackItems (.ref s1.heap.objs.size) 2 Qn;assignInOrder [λv=>bindName X.env y v,λv=>bindName X.env x v] items.reverse;pure Flow.next) _ _ _;refine OB (wpAny_rule (OB (unpackItems_tuple (items:=#[u1,u2]) (I.ok.hd hc) (IsTup.new s1.heap _) λh' hx'=>?_)));have I3:=I2.kept (h':=h') (t':=s1.toks) λb o e=>hx' b o (Ph (OT e)) e;show wpAny _ _ (assignInOrder [λv=>bindName X.env y v,λv=>bindName X.env x v] [u2,u1]>>=λ_=>pure Flow.next) _ _ _;refine OB (assignInOrder_cons (wpAny_bindName (rm I3 hN hj (.inl hy) VI (λs2 I4=>?_) (.inr hy))));refine assignInOrder_cons (wpAny_bindName (rm I4 hN hi (.inl hx) rv (λs3 I5=>assignInOrder_nil (OQ ?_)) (.inr hx)));rw[List.set_comm _ _ (Ne.symm Y9)]at I5;exact⟨_,H1,I5,q1⟩
def GF(to ti te:TE)(zad:V->V->Hp->VK->Prop)(tip:uz)(zab:pX):TS:=λD σ H=>to σ H λo H1=>ti σ H1 λi H2=>zad o i H2 λx H3=>te σ H3 λy H4=>tip x y H4 λz H5=>zab o i z H5 λH6=>D.nx σ H6
def Fd(X:Cx)(t:V->V->Hp->VK->Prop):Prop:=∀(pins:Ql (Xl×Obj)) (s:OJ) (σ:St) (H:Hp) (o i:V) (ov iv:OM) (Q:VK),Inv X pins σ H s->RelV o ov->RelV i iv->t o i H Q->wpAny (model X.prog X.w) X.A (getItem ov iv) (EP X pins σ Q) X.xe s
def Bo{i:Xn}{to ti:TE}{zad:V->V->Hp->VK->Prop}{tip:uz}{zab:pX}(ho:PE X o to)(hi:PE X i ti)(hg:Fd X zad)(he:PE X e te)(hp:zJ X op tip)(hs:uA X zab) (ha:∀ov iv new,augStore i ov iv new=(do holding [new,ov,iv] (setItem ov iv new);release [new,ov,iv] [];pure .next):=by intros;rfl):PS X (.AugAssign (.Subscript o i Vx) op e pos) (GF to ti te zad tip zab):=by intro pins s σ H D I h;refine wpAny_AugAssign_SubscriptAny (aE (ho pins s σ H _ I h) λov s1 ⟨x1,H1,I1,r1,q1⟩=>?_) ha;refine aE (hi pins s1 σ H1 _ I1 q1) λiv s2 ⟨x2,H2,I2,r2,q2⟩=>?_;refine aE (hg pins s2 σ H2 x1 x2 ov iv _ I2 r1 r2 q2) λold s3 ⟨x3,H3,I3,r3,q3⟩=>?_;refine aE (he pins s3 σ H3 _ I3 q3) λv s4 ⟨x4,H4,I4,r4,q4⟩=>?_;refine aE (hp pins s4 σ H4 x3 x4 old v _ I4 r3 r4 q4) λnew s5 ⟨x5,H5,I5,r5,q5⟩=>?_;exact aE (hs pins s5 σ H5 x1 x2 x5 ov iv new _ I5 r1 r2 r5 q5) λ_ s6 ⟨H6,I6,q6⟩=>⟨σ,H6,I6,q6⟩
def Dd(f:Int->Int->Int):uz:=λx y H Q=>∃i j,x=.int i/\y=.int j/\Q (.int (f i j)) H
def xD:zJ X .Add (Dd λi j=>i+j):=by intro pins s σ H x y v u Q I r1 r2 h;obtain⟨i,j,e1,e2,q⟩:=h;subst e1;subst e2;obtain⟨t,rfl⟩:=r1;obtain⟨t',rfl⟩:=r2;exact iadd_int ⟨.int _,H,I.tok _,⟨_,rfl⟩,q⟩
def Gb(c:TT)(tb:TS):TS:=λD σ H=>∃W:Nat->St->Hp->Prop,(∃m,W m σ H)/\∀m σ H,W m σ H->c σ H λb H1=>if b=Qt then ∃N:St->Hp->Prop,(∀σ' H',N σ' H'->∃m',m'<m/\W m' σ' H')/\tb {D with nx:=N,ct:=N,bk:=D.nx} σ H1 else D.nx σ H1
def IM{tc:TT}{tb:TS}(hp:PassesOwn (model X.prog X.w) X.A X.env X.xe)(hc:PT X c tc)(hb:Uu X body tb):PS X (.While c body [] pos) (Gb tc tb):=by
 intro pins s σ H D I h;obtain⟨W,⟨m0,w0⟩,turn⟩:=h;refine wpAny_While (codeAny_whileLoop (λn s'=>∃σ' H',Inv X pins σ' H' s'/\W n σ' H') ?_ m0 ⟨σ,H,I,w0⟩);rintro n s1 ⟨σ1,H1,I1,w1⟩;refine wpAny_passesOwn hp (aE (hc pins s1 σ1 H1 _ I1 (turn n σ1 H1 w1)) λb s2 ⟨H2,I2,q2⟩=>?_);cases b with
 |true=>
  obtain⟨N,hN,q2⟩:=q2;rw[S9 rfl];refine wpAny_passesOwn hp (aE (hb pins s2 σ1 H2 _ I2 q2) λf s3 q3=>?_);cases f with
  |next=>obtain⟨σ3,H3,I3,n3⟩:=q3;obtain⟨m',hm,w3⟩:=hN σ3 H3 n3;exact⟨m',hm,σ3,H3,I3,w3⟩
  |cont=>obtain⟨σ3,H3,I3,n3⟩:=q3;obtain⟨m',hm,w3⟩:=hN σ3 H3 n3;exact⟨m',hm,σ3,H3,I3,w3⟩
  |brk=>exact q3
  |ret v=>exact q3
 |false=>rw[Tr OD];exact wpAny_execs_nil ⟨σ1,H2,I2,q2⟩
structure It where
 go:Nat->Hp->Prop
 Vw:Nat->Hp->V->Hp->Prop
 stop:Nat->Hp->Prop
def gb(X:Cx)(pins:Ql (Xl×Obj))(H:Hp)(b:Xl):Prop:=H b=Qn/\b≠X.env.locals/\b∉X.fs/\(b∈X.ex\/X.s₀.heap.objs.size<=b)/\(∀x c,X.env.cells.lookup x=Qs c->c≠b)/\∀p∈X.pn++pins,p.1≠b
def Inv.YF{σ:St}{b:Xl}(I:Inv X pins σ H s)(hb:s.heap.objs.size<=b)(hn:H' b=Qn):gb X pins H' b:=by
 refine⟨hn,QK (OS I.lt hb),I.zeS hb,.inr (Pr I.sz hb),λx c e z=>?_,λp hp z=>?_⟩
 .obtain⟨v,q⟩:=I.cell x c e;exact absurd (OS q.lt (by rw[z];exact hb)) (Qg _)
 .exact absurd (OS (OT (I.pin p hp).1) (by rw[z];exact hb)) (Qg _)
structure Turn(P:Pe)(w:QI)(K:Ou)(tg:Xn)(J:It)(fp:List Xl)(it:Xl)(tn:Nat->Xm->Prop):Prop where
 mem:it∈fp
 obj:∀i h,tn i h->∀b∈fp,∃o,h.get? b=Qs o/\∀v,o.data≠.cell v
 keep:∀i h h',tn i h->(∀b∈fp,∀o,h.get? b=Qs o->h'.get? b=Qs o)->tn i h'
 item:∀(X:Cx),X.prog=P->X.w=w->X.K=K->X.calm=Qt->∀(i:Nat) (pins:List (Xl×Obj)) (s:OJ) (σ:St) (H:Hp) (E:OM->OJ->Prop),Inv X pins σ H s->(∀b∈fp,gb X pins H b)->tn i s.heap->J.go i H->wpAny (model P w) X.A (pyNext (.ref it)) (λr s1=>∃u,r=Qs u/\wpAny (model P w) X.A (letOwnedTupleGo tg (.ref it) u) (λ_ s2=>∃x H',Inv X pins σ H' s2/\RelV x u/\J.Vw i H x H'/\tn (i+1) s2.heap/\∀b∈fp,H' b=Qn) E s1) E s
 done:∀(X:Cx),X.prog=P->X.w=w->X.K=K->X.calm=Qt->∀(i:Nat) (pins:List (Xl×Obj)) (s:OJ) (σ:St) (H:Hp) (E:OM->OJ->Prop),Inv X pins σ H s->(∀b∈fp,gb X pins H b)->tn i s.heap->J.stop i H->wpAny (model P w) X.A (pyNext (.ref it)) (λr s1=>r=Qn/\Inv X pins σ H s1) E s
 self:∀(A:Qq) (i:Nat) (s:OJ) (Q:OM->OJ->Prop) (E:OM->OJ->Prop),tn i s.heap->Q (.ref it) s->wpAny (model P w) A (pyIter (.ref it)) Q E s
abbrev TI:=St->Hp->(It->Hp->Prop)->Prop
def zK(X:Cx)(pins:Ql (Xl×Obj))(σ:St)(tg:Xn)(R:It->Hp->Prop)(Yt:OM)(s2:OJ):Prop:=∃(it:Xl) (fp:Ql Xl) (tn:Nat->Xm->Prop) (J:It) (H':Hp),Yt=.ref it/\Inv X pins σ H' s2/\Turn X.prog X.w X.K tg J fp it tn/\tn 0 s2.heap/\(∀b∈fp,gb X pins H' b)/\R J H'
def PI(X:Cx)(tg iter:Xn)(wi:TI):Prop:=∀(pins:Ql (Xl×Obj)) (s:OJ) (σ:St) (H:Hp) (R:It->Hp->Prop),Inv X pins σ H s->wi σ H R->wpAny (model X.prog X.w) X.A (eval iter X.env) (λv s1=>wpAny (model X.prog X.w) X.A (pyIter v) (zK X pins σ tg R) X.xe s1) X.xe s
def tR{A:Qq}{it:Xl}{o:Obj}{n:String}{vs:Array OM}{Q:Unit->OJ->Prop}(ho:s.heap.get? it=Qs o)(hc:o.cls=.type n)(hd:o.data=.fields vs) (hn:["enumerate","zip","dict_itemiterator","dict_reverseitemiterator","odict_iterator","itertools.zip_longest","itertools.pairwise"].contains n=Qf) (hQ:Q () s):wpAny M A (letOwnedTupleGo tg (.ref it) u) Q E s:=by
 unfold letOwnedTupleGo;cases tg<;>first
  |exact OQ hQ
  |(cases u<;>first
    |exact OQ hQ
    |(refine OB (wpAny_load ho ?_)
      rw[hc,hd];show wpAny M A (if(["enumerate","zip","dict_itemiterator","dict_reverseitemiterator","odict_iterator","itertools.zip_longest","itertools.pairwise"].contains n&&vs[0]?==Qs (rawInt _))=Qt then _ else _) Q E s;rw[Tr (by intro h;rw[hn,Bool.false_and]at h;cases h)];exact OQ hQ))
def zO(K:Ou)(a:Xl):It:=⟨λi H=>∃xs x,TZ K H a xs/\xs[i]?=Qs x,λi H x H'=>H'=H/\∀xs,TZ K H a xs->xs[i]?=Qs x,λi H=>∃xs,TZ K H a xs/\xs.length<=i⟩
def zN(K:Ou)(a:Xl):It:=⟨λi H=>∃xs x,UA K H a xs/\xs[i]?=Qs x,λi H x H'=>H'=H/\∀xs,UA K H a xs->xs[i]?=Qs x,λi H=>∃xs,UA K H a xs/\xs.length<=i⟩
def kM(lo:Int)(n:Nat):It:=⟨λi _=>i<n,λi H x H'=>H'=H/\x=.int (lo+i),λi _=>n<=i⟩
def FK (a it:Xl):Turn P w K tg (zO K a) [it] it (λi h=>h.IsListIter it a i) where
 mem:=by simp
 obj:=λi h st b hb=>by
  have e:b=it:=by simpa using hb
  subst e;obtain⟨o,e,c,d⟩:=st;exact⟨o,e,λv z=>by rw[d]at z;cases z⟩
 keep:=λi h h' st k=>st.at λo e=>k it (by simp) o e
 item:=by intro X hP hw hK hc i pins s σ H E I hf st hg;subst hP hw hK;obtain⟨xs,x,hq,hx⟩:=hg;obtain⟨TH,rv,p,hz⟩:=I.list hq;obtain⟨u,hu,ru⟩:=rv.get hx;obtain⟨f0,f1,f2,f3,f4,f5⟩:=hf it (by simp);refine wpAny_pyNext_list_item st p.isList (x:=u) (by simpa using hu) λh' V0 sb=>?_;have I1:Inv X pins σ H {s with heap:=h'}:=I.turned (t':=s.toks) (λb o hb e=>(sb.2 b hb).trans e) f0 f1 f3 f4 f5;obtain⟨o,e,c,d⟩:=id V0;exact⟨u,rfl,tR (s:={s with heap:=h'}) e c d (by decide) ⟨x,H,I1,ru,⟨rfl,λys hy=>by rw[I.za8 hy hq];exact hx⟩,V0,λb hb=>(hf b hb).1⟩⟩
 done:=by intro X hP hw hK hc i pins s σ H E I hf st hg;subst hP hw hK;obtain⟨xs,hq,hx⟩:=hg;obtain⟨TH,rv,p,hz⟩:=I.list hq;obtain⟨f0,f1,f2,f3,f4,f5⟩:=hf it (by simp);have hl:=rv.length;exact wpAny_pyNext_list_end (I.ok.hd hc) st p.isList (by simp;lia) λh' eb=>⟨rfl,I.turned (t':=s.toks) (λb o hb e=>eb b o hb e) f0 f1 f3 f4 f5⟩
 self:=λ_ _ _ _ _ st h=>wpAny_pyIter_listiter st h
def FI (a it:Xl):Turn P w K tg (zN K a) [it] it (λi h=>h.IsTupleIter it a i) where
 mem:=by simp
 obj:=λi h st b hb=>by
  have e:b=it:=by simpa using hb
  subst e;obtain⟨o,e,c,d⟩:=st;exact⟨o,e,λv z=>by rw[d]at z;cases z⟩
 keep:=λi h h' st k=>st.at λo e=>k it (by simp) o e
 item:=by intro X hP hw hK hc i pins s σ H E I hf st hg;subst hP hw hK;obtain⟨xs,x,hq,hx⟩:=hg;obtain⟨TH,rv,p,hz⟩:=I.tuple hq;obtain⟨u,hu,ru⟩:=rv.get hx;obtain⟨f0,f1,f2,f3,f4,f5⟩:=hf it (by simp);refine wpAny_pyNext_tuple_item st (show s.heap.IsTuple a TH.toArray from p) (x:=u) (by simpa using hu) λh' V0 sb=>?_;have I1:Inv X pins σ H {s with heap:=h'}:=I.turned (t':=s.toks) (λb o hb e=>(sb.2 b hb).trans e) f0 f1 f3 f4 f5;obtain⟨o,e,c,d⟩:=id V0;exact⟨u,rfl,tR (s:={s with heap:=h'}) e c d (by decide) ⟨x,H,I1,ru,⟨rfl,λys hy=>by rw[I.zb6 hy hq];exact hx⟩,V0,λb hb=>(hf b hb).1⟩⟩
 done:=by intro X hP hw hK hc i pins s σ H E I hf st hg;subst hP hw hK;obtain⟨xs,hq,hx⟩:=hg;obtain⟨TH,rv,p,hz⟩:=I.tuple hq;obtain⟨f0,f1,f2,f3,f4,f5⟩:=hf it (by simp);have hl:=rv.length;exact wpAny_pyNext_tuple_end (I.ok.hd hc) st (show s.heap.IsTuple a TH.toArray from p) (by simp;lia) λh' eb=>⟨rfl,I.turned (t':=s.toks) (λb o hb e=>eb b o hb e) f0 f1 f3 f4 f5⟩
 self:=λ_ _ _ _ _ st h=>wpAny_pyIter_tupleiter st h
def FJ (it:Xl)(lo:Int)(n:Nat):Turn P w K tg (kM lo n) [it] it (λi h=>IsRangeIter h it (lo+(i:Nat)*1) ((n:Int)-(i:Nat)) 1) where
 mem:=by simp
 obj:=λi h st b hb=>by
  have e:b=it:=by simpa using hb
  subst e;exact⟨_,st,λv z=>by
   have z':Data.fields _=Data.cell v:=z;cases z'⟩
 keep:=λi h h' st k=>k it (by simp) _ st
 item:=by intro X hP hw hK hc i pins s σ H E I hf st hg;subst hP hw hK;obtain⟨f0,f1,f2,f3,f4,f5⟩:=hf it (by simp);have W:=Walks.range (prog:=X.prog) (w:=X.w) (I.ok.hd hc) it lo 1 n;refine W.item i s _ _ hg st λv h' tk hv V0 kk=>?_;obtain⟨t,rfl⟩:=hv;have I1:Inv X pins σ H {s with heap:=h',toks:=tk}:=I.turned (λb o hb e=>kk b o (by simpa using hb) e) f0 f1 f3 f4 f5;refine⟨_,rfl,tR (s:={s with heap:=h',toks:=tk}) (n:= "range_iterator") V0 rfl rfl (by decide) ⟨.int (lo+i),H,I1,⟨t,?_⟩,⟨rfl,rfl⟩,V0,λb hb=>(hf b hb).1⟩⟩;rw[Vm]
 done:=by intro X hP hw hK hc i pins s σ H E I hf st hg;subst hP hw hK;obtain⟨f0,f1,f2,f3,f4,f5⟩:=hf it (by simp);exact wpAny_pyNext_range_end (I.ok.hd hc) st (by have:n<=i:=hg;lia) λh' eb=>⟨rfl,I.turned (t':=s.toks) (λb o hb e=>eb b o hb e) f0 f1 f3 f4 f5⟩
 self:=λ_ _ _ _ _ st h=>wpAny_pyIter_rangeiter st h
end L2
variable{gt:L2.TG}{J:L2.It}
namespace L2
open PySem.Spec
def MB(K:Ou)(tl:TE):TI:=λσ H R=>tl σ H λx H1=>∃a,x=.ref a/\(∃xs,TZ K H1 a xs)/\R (zO K a) H1
def My(K:Ou)(tl:TE):TI:=λσ H R=>tl σ H λx H1=>∃a,x=.ref a/\(∃xs,UA K H1 a xs)/\R (zN K a) H1
def sD{l:Xn}{tl:TE}(hl:PE X l tl):PI X tg l (MB X.K tl):=by
 intro pins s σ H R I h;refine aE (hl pins s σ H _ I h) λv s1 ⟨x,H1,I1,r1,q1⟩=>?_;obtain⟨a,e,⟨xs,hq⟩,q⟩:=q1;subst e;cases r1;obtain⟨TH,rv,p,hz⟩:=I1.list hq;refine wpAny_pyIter_list p.isList ?_;refine⟨s1.heap.objs.size,[s1.heap.objs.size],_,_,H1,rfl,I1.kept (t':=s1.toks) λb o e=>OA _ e,FK a _,⟨_,OU _ rfl,rfl,rfl⟩,λb hb=>?_,q⟩;have e:b=s1.heap.objs.size:=by simpa using hb
 subst e;exact I1.YF (OL _) (I1.TY.fresh (OL _))
def Jr{l:Xn}{tl:TE}(hl:PE X l tl):PI X tg l (My X.K tl):=by
 intro pins s σ H R I h;refine aE (hl pins s σ H _ I h) λv s1 ⟨x,H1,I1,r1,q1⟩=>?_;obtain⟨a,e,⟨xs,hq⟩,q⟩:=q1;subst e;cases r1;obtain⟨TH,rv,p,hz⟩:=I1.tuple hq;refine wpAny_pyIter_tuple (show s1.heap.IsTuple a TH.toArray from p) ?_;refine⟨s1.heap.objs.size,[s1.heap.objs.size],_,_,H1,rfl,I1.kept (t':=s1.toks) λb o e=>OA _ e,FI a _,⟨_,OU _ rfl,rfl,rfl⟩,λb hb=>?_,q⟩;have e:b=s1.heap.objs.size:=by simpa using hb
 subst e;exact I1.YF (OL _) (I1.TY.fresh (OL _))
def AY{σ:St}{R:It->Hp->Prop}{hi:Int}{t u v:Tok}{tk:Nat}(I:Inv X pins σ H s)(h1:-(2^62)<=lo)(h2:lo<2^62)(h3:-(2^62)<=hi)(h4:hi<2^62) (q:R (kM lo (hi-lo).toNat) H):wpAny (model X.prog X.w) X.A (pyIter (.ref s.heap.objs.size)) (zK X pins σ tg R) E {s with heap:=s.heap.push {cls:=.type "range",data:=.fields #[.int lo t,.int hi u,.int 1 v]},toks:=tk}:=by
 refine wpAny_pyIter_range (IsRange.new ..) (small_one h1 h2 h3 h4) ?_;have I1:Inv X pins σ H {s with heap:=s.heap.push {cls:=.type "range",data:=.fields #[.int lo t,.int hi u,.int 1 v]},toks:=tk}:=I.kept λb o e=>OA _ e;refine⟨(s.heap.push {cls:=.type "range",data:=.fields #[.int lo t,.int hi u,.int 1 v]}).objs.size,[(s.heap.push {cls:=.type "range",data:=.fields #[.int lo t,.int hi u,.int 1 v]}).objs.size],_,_,H,rfl,I1.kept (t':=tk) λb o e=>OA _ e,FJ _ lo (hi-lo).toNat,?_,λb hb=>?_,q⟩
 .have e1:lo+((0:Nat):Int)*1=lo:=by simp
  have e2:(((hi-lo).toNat:Nat):Int)-((0:Nat):Int)=Builtin.Range.rangeSize lo hi 1:=by rw[rangeSize_one];split<;>lia
  show IsRangeIter _ _ (lo+((0:Nat):Int)*1) ((((hi-lo).toNat:Nat):Int)-((0:Nat):Int)) 1;rw[e1,e2];exact OU _ rfl
 .have e:b=(s.heap.push {cls:=.type "range",data:=.fields #[.int lo t,.int hi u,.int 1 v]}).objs.size:=by simpa using hb
  subst e;exact I1.YF (OL _) (I1.TY.fresh (OL _))
def MA(ta:TA):TI:=λσ H R=>ta σ H λvs H1=>∃j:Int,vs=[.int j]/\-(2^62)<=j/\j<2^62/\R (kM 0 j.toNat) H1
def Mz(ta:TA):TI:=λσ H R=>ta σ H λvs H1=>∃i j:Int,vs=[.int i,.int j]/\(-(2^62)<=i/\i<2^62/\-(2^62)<=j/\j<2^62)/\R (kM i (j-i).toNat) H1
def Bz{ta:TA}{p:Pos}(hg:Gl X "range")(hm:X.mg "range"=Qn)(ha:PA X [a] ta)(hs:OP [a] X.env=[(Qf,eval a X.env)]:=by rfl):PI X tg (.Call (.Name "range" p) [a] [] pos) (MA ta):=by
 intro pins s σ H R I h;refine Call_ (iR I hg hm boot_range (PyProof.Rows.callWith_type1 (aE (ha pos pins s σ H _ I h) λus s1 ⟨vs,H1,I1,r1,q1⟩=>?_) hs rfl));obtain⟨j,e,q1,q2,q⟩:=q1;subst e;cases r1 with
 |cons r rr=>cases rr;obtain⟨t,rfl⟩:=r;exact call_range_1 (AY I1 (by lia) (by lia) q1 q2 (by simpa using q))
def Js{ta:TA}{p:Pos}(hg:Gl X "range")(hm:X.mg "range"=Qn)(ha:PA X [a,b] ta)(hs:OP [a,b] X.env=[(Qf,eval a X.env),(Qf,eval b X.env)]:=by rfl)(W6:OP [b] X.env=[(Qf,eval b X.env)]:=by rfl):PI X tg (.Call (.Name "range" p) [a,b] [] pos) (Mz ta):=by
 intro pins s σ H R I h;refine Call_ (iR I hg hm boot_range (PyProof.Rows.callWith_type1 (aE (ha pos pins s σ H _ I h) λus s1 ⟨vs,H1,I1,r1,q1⟩=>?_) (by rw[hs,W6]) (by rw[W6];rfl)));obtain⟨i,j,e,⟨q1,q2,q3,q4⟩,q⟩:=q1;subst e;cases r1 with
 |cons r rr=>
  cases rr with
  |cons r' rr=>cases rr;obtain⟨t,rfl⟩:=r;obtain⟨t',rfl⟩:=r';exact call_range_2 (AY I1 q1 q2 q3 q4 q)
def Gu(wi:TI)(g:TG)(tb:TS):TS:=λD σ H=>wi σ H λJ H1=>∃W:Nat->Nat->St->Hp->Prop,(∃m,W 0 m σ H1)/\∀i m σ H,W i m σ H->(J.stop i H/\D.nx σ H)\/(J.go i H/\∃N:St->Hp->Prop,(∀σ' H',N σ' H'->∃m',m'<m/\W (i+1) m' σ' H')/\∀x H',J.Vw i H x H'->g x σ H' λσ2 H2=>tb {D with nx:=N,ct:=N,bk:=D.nx} σ2 H2)
def mB(fp:Ql Xl)(h:Xm):Ql (Xl×Obj):=fp.filterMap λb=>(h.get? b).map λo=>(b,o)
def sS{fp:Ql Xl}{b:Xl}{o:Obj}(hb:b∈fp)(e:h.get? b=Qs o):(b,o)∈mB fp h:=RM.mpr ⟨b,hb,by rw[e];rfl⟩
def KU{fp:Ql Xl}{p:Xl×Obj}(hp:p∈mB fp h):p.1∈fp/\h.get? p.1=Qs p.2:=by
 obtain⟨b,hb,e⟩:=RM.mp hp;rcases q:h.get? b with _|o
 .rw[q]at e;cases e
 rw[q]at e;have e':(b,o)=p:=O4 e;subst e';exact⟨hb,q⟩
def Inv.pinned{σ:St}{fp:Ql Xl}(I:Inv X pins σ H s)(hf:∀b∈fp,gb X pins H b)(ho:∀b∈fp,∃o,s.heap.get? b=Qs o/\∀v,o.data≠.cell v):Inv X (pins++mB fp s.heap) σ H s:=I.zcy λp hp=>(Ow.mp hp).elim (λz=>I.pin p (Oq _ z)) λz=>by obtain⟨hb,e⟩:=KU z;obtain⟨f0,f1,f2,_⟩:=hf p.1 hb;obtain⟨o,e',d⟩:=ho p.1 hb;rw[e]at e';cases e';exact⟨e,f0,f1,f2,d⟩
def Inv.zaa{pl:Ql (Xl×Obj)}{σ:St}(I:Inv X (pins++pl) σ H s):Inv X pins σ H s:=I.zcy λp hp=>I.pin p (Oq _ (Ot _ hp))
def kX{wi:TI}{g:TG}{tb:TS}(hp:PassesOwn (model X.prog X.w) X.A X.env X.xe)(hc:X.calm=Qt)(hi:PI X tg iter wi)(hg:PG X tg g)(hb:Uu X body tb) (hs:∀x,foldedSetIterable iter X.env x=pure x:=by intro _;rfl):PS X (.For tg iter body [] pos) (Gu wi g tb):=by
 intro pins s σ H D I h;refine wpAny_For (aE (hi pins s σ H _ I h) λv s1 h1=>aE h1 λYt s2 h2=>?_) hs;obtain⟨it,fp,tn,J,H2,e,I2,T,Yn,f2,W,⟨m0,w0⟩,turn⟩:=h2;subst e
 -- zd4 stays Qt of XA zi3 objects through XA loop
 have Yl:∀{H':Hp},(∀b∈fp,H' b=Qn)->∀b∈fp,gb X pins H' b:=λhn b hb=>⟨hn b hb,(f2 b hb).2⟩;refine codeAny_forLoop_any (λn s'=>∃i σ' H',Inv X pins σ' H' s'/\tn i s'.heap/\(∀b∈fp,H' b=Qn)/\W i n σ' H') ?_ m0 ⟨0,σ,H2,I2,Yn,λb hb=>(f2 b hb).1,w0⟩;rintro n s3 ⟨i,σ3,H3,I3,Zs,ZV,w3⟩;rcases turn i n σ3 H3 w3 with⟨stop,qn⟩|⟨go,N,hN,step⟩
 .refine wpAny_passesOwn hp (aE (T.done X rfl rfl rfl hc i pins s3 σ3 H3 X.xe I3 (Yl ZV) Zs stop) λr s4 ⟨hr,I4⟩=>?_);subst hr;exact wpAny_execs_nil ⟨σ3,H3,I4,qn⟩
 .refine wpAny_passesOwn hp (aE (T.item X rfl rfl rfl hc i pins s3 σ3 H3 X.xe I3 (Yl ZV) Zs go) λr s4 ⟨u,hr,h4⟩=>?_);subst hr;refine wpAny_passesOwn hp (aE h4 λ_ s5 ⟨x,H5,I5,r5,y5,Ym,fr5⟩=>?_);have I5':=I5.pinned (Yl fr5) (T.obj _ _ Ym);refine wpAny_passesOwn hp (aE (hg _ s5 σ3 H5 x u _ I5' r5 (step x H5 y5)) λ_ s6 ⟨σ6,H6,I6,q6⟩=>?_);refine wpAny_passesOwn hp (aE (hb _ s6 σ6 H6 _ I6 q6) λf s7 q7=>?_);have again:∀{σ7:St}{H7:Hp},Inv X (pins++mB fp s5.heap) σ7 H7 s7->N σ7 H7->∃m,m<n/\∃i σ' H',Inv X pins σ' H' s7/\tn i s7.heap/\(∀b∈fp,H' b=Qn)/\W i m σ' H':=λ{σ7 H7} I7 n7=>by obtain⟨m',hm,w7⟩:=hN σ7 H7 n7;refine⟨m',hm,i+1,σ7,H7,I7.zaa,T.keep _ _ _ Ym λb hb o e=>(I7.pin (b,o) (Oq _ (Oq _ (sS hb e)))).1,λb hb=>?_,w7⟩;obtain⟨o,e,d⟩:=T.obj _ _ Ym b hb;exact(I7.pin (b,o) (Oq _ (Oq _ (sS hb e)))).2.1
  cases f with
  |next=>obtain⟨σ7,H7,I7,n7⟩:=q7;exact again I7 n7
  |cont=>obtain⟨σ7,H7,I7,n7⟩:=q7;exact again I7 n7
  |brk=>obtain⟨σ7,H7,I7,q7⟩:=q7;exact⟨σ7,H7,I7.zaa,q7⟩
  |ret v=>obtain⟨x7,σ7,H7,I7,r7,q7⟩:=q7;exact⟨x7,σ7,H7,I7.zaa,r7,q7⟩
abbrev R2:=V->V->Hp->VK->Prop
def eh(X:Cx)(f:OM->OM->Sem OM)(r:R2):Prop:=∀(pins:Ql (Xl×Obj)) (s:OJ) (σ:St) (H:Hp) (x y:V) (v u:OM) (Q:VK),Inv X pins σ H s->RelV x v->RelV y u->r x y H Q->wpAny (model X.prog X.w) X.A (f v u) (EP X pins σ Q) X.xe s
def zF(X:Cx)(f:OM->Sem OM)(r:V->Hp->VK->Prop):Prop:=∀(pins:Ql (Xl×Obj)) (s:OJ) (σ:St) (H:Hp) (x:V) (v:OM) (Q:VK),Inv X pins σ H s->RelV x v->r x H Q->wpAny (model X.prog X.w) X.A (f v) (EP X pins σ Q) X.xe s
def gc(X:Cx)(f:OM)(r:Ql V->Hp->VK->Prop):Prop:=∀(pins:Ql (Xl×Obj)) (s:OJ) (σ:St) (H:Hp) (xs:Ql V) (us:Ql OM) (Q:VK),Inv X pins σ H s->Vals xs us->r xs H Q->wpAny (model X.prog X.w) X.A (call f us) (EP X pins σ Q) X.xe s
def Oe(X:Cx)(r:V->Hp->(Bool->Hp->Prop)->Prop):Prop:=∀(pins:Ql (Xl×Obj)) (s:OJ) (σ:St) (H:Hp) (x:V) (v:OM) (Q:Bool->Hp->Prop),Inv X pins σ H s->RelV x v->r x H Q->wpAny (model X.prog X.w) X.A (truthy v) (TP X pins σ Q) X.xe s
def Gk(r:R2)(ta tb:TE):TE:=λσ H Q=>ta σ H λx H1=>tb σ H1 λy H2=>r x y H2 Q
def Gd(r:V->Hp->VK->Prop)(ta:TE):TE:=λσ H Q=>ta σ H λx H1=>r x H1 Q
def rI(C:Int->Int->Prop)(g:Int->Int->V):R2:=λx y H Q=>∃i j,x=.int i/\y=.int j/\C i j/\Q (g i j) H
def kd(g:Int->Int->V):R2:=λx y H Q=>∃i j,x=.int i/\y=.int j/\Q (g i j) H
def rU(g:Int->V):V->Hp->VK->Prop:=λx H Q=>∃i,x=.int i/\Q (g i) H
section
variable {tc:TE}
def N1(ha:PE X a ta)(hb:PE X b tb){σ:St}{R:V->V->Hp->Prop}(I:Inv X pins σ H s) (h:ta σ H λx H1=>tb σ H1 λy H2=>R x y H2){Q:OM->OJ->Prop}{f:OM->OM->Sem OM} (hf:∀v u s2 x y H2,Inv X pins σ H2 s2->RelV x v->RelV y u->R x y H2->wpAny (model X.prog X.w) X.A (f v u) Q X.xe s2):wpAny (model X.prog X.w) X.A (eval a X.env) (λv s₁=>wpAny (model X.prog X.w) X.A (eval b X.env) (λu s₂=>wpAny (model X.prog X.w) X.A (f v u) Q X.xe s₂) X.xe s₁) X.xe s:=by refine aE (ha pins s σ H _ I h) λv s1 ⟨x,H1,I1,r1,q1⟩=>?_;refine aE (hb pins s1 σ H1 _ I1 q1) λu s2 ⟨y,H2,I2,r2,q2⟩=>?_;exact hf v u s2 x y H2 I2 r1 r2 q2
def JM{op:UnaryOp}{r:V->Hp->VK->Prop}(ho:zF X (unaryOp op) r)(ha:PE X a ta):PE X (.UnaryOp op a pos) (Gd r ta):=by intro pins s σ H Q I h;exact UnaryOp_ (aE (ha pins s σ H _ I h) λv s1 ⟨x,H1,I1,r1,q1⟩=>ho pins s1 σ H1 x v Q I1 r1 q1)
def ou{f:OM->OM->Sem OM}{C:Int->Int->Prop}{g:Int->Int->Int}
  (rule:∀(i j:Int) (t u:Tok) (s:OJ) (Q:OM->OJ->Prop) (E:OM->OJ->Prop),C i j->Q (.int (g i j) s.toks) { s with toks:=s.toks+1 }->wpAny (model X.prog X.w) X.A (f (.int i t) (.int j u)) Q E s) :eh X f (rI C λi j=>.int (g i j)):=by intro pins s σ H x y v u Q I rx ry h;obtain⟨i,j,rfl,rfl,hc,q⟩:=h;obtain⟨t,rfl⟩:=rx;obtain⟨t',rfl⟩:=ry;exact rule i j t t' s _ _ hc ⟨.int (g i j),H,I.tok _,⟨_,rfl⟩,q⟩
def BN{f:OM->OM->Sem OM}{g:Int->Int->Int}
  (rule:∀(i j:Int) (t u:Tok) (s:OJ) (Q:OM->OJ->Prop) (E:OM->OJ->Prop),Q (.int (g i j) s.toks) { s with toks:=s.toks+1 }->wpAny (model X.prog X.w) X.A (f (.int i t) (.int j u)) Q E s) :eh X f (kd λi j=>.int (g i j)):=by intro pins s σ H x y v u Q I rx ry h;obtain⟨i,j,rfl,rfl,q⟩:=h;obtain⟨t,rfl⟩:=rx;obtain⟨t',rfl⟩:=ry;exact rule i j t t' s _ _ ⟨.int (g i j),H,I.tok _,⟨_,rfl⟩,q⟩
def wL{f:OM->OM->Sem OM}{g:Int->Int->Bool} (rule:∀(i j:Int) (t u:Tok) (s:OJ) (Q:OM->OJ->Prop) (E:OM->OJ->Prop),Q (.bool (g i j)) s->wpAny (model X.prog X.w) X.A (f (.int i t) (.int j u)) Q E s):eh X f (kd λi j=>.bl (g i j)):=by intro pins s σ H x y v u Q I rx ry h;obtain⟨i,j,rfl,rfl,q⟩:=h;obtain⟨t,rfl⟩:=rx;obtain⟨t',rfl⟩:=ry;exact rule i j t t' s _ _ ⟨.bl (g i j),H,I,rfl,q⟩
def Oj(i j:Int):Prop:=0<=j/\j<=1000000/\i.natAbs<2^64
def zbW(i j:Int):Prop:=(-(2^64)<i/\i<2^64)\/(-(2^64)<j/\j<2^64)
def zbW.ok{i j:Int}(h:zbW i j):IntMulOk i j:=by
 rcases h with⟨h1,h2⟩|⟨h1,h2⟩
 .exact .of_left (intBits_le_64 h1 h2)
 .exact .of_right (intBits_le_64 h1 h2)
def Kc:eh X (binaryOp .Add) (kd λi j=>.int (i+j)):=BN λ_ _ _ _ _ _ _ q=>add_int q
def JZ:eh X (binaryOp .Sub) (kd λi j=>.int (i-j)):=BN λ_ _ _ _ _ _ _ q=>sub_int q
def J6:eh X (binaryOp .Mod) (rI (λ_ j=>j≠0) λi j=>.int (i.fmod j)):=ou λ_ _ _ _ _ _ _ hc q=>mod_int' hc q
def J3:eh X (binaryOp .Pow) (rI Oj λi j=>.int (i^j.toNat)):=ou λ_ _ _ _ _ _ _ hc q=>pow_int_small hc.1 hc.2.1 hc.2.2 q
def Mo:eh X (inplaceOp .Mult) (rI zbW λi j=>.int (i*j)):=ou λ_ _ _ _ _ _ _ hc q=>imul_int q hc.ok
def FG{f:OM->Sem OM}{g:Int->Int}
  (rule:∀(i:Int) (t:Tok) (s:OJ) (Q:OM->OJ->Prop) (E:OM->OJ->Prop),Q (.int (g i) s.toks) { s with toks:=s.toks+1 }->wpAny (model X.prog X.w) X.A (f (.int i t)) Q E s) :zF X f (rU λi=>.int (g i)):=by intro pins s σ H x v Q I rx h;obtain⟨i,rfl,q⟩:=h;obtain⟨t,rfl⟩:=rx;exact rule i t s _ _ ⟨.int (g i),H,I.tok _,⟨_,rfl⟩,q⟩
def FF:zF X (unaryOp .USub) (rU λi=>.int (-i)):=FG λ_ _ _ _ _ q=>neg_int q
end
noncomputable def j7(x y:V):Bool:=match x with
 |.TX=>(match y with|.TX=>Qt|.int _=>Qt|.bl _=>Qt|.str _=>Qt|_=>Qf)
 |.bl _=>(match y with|.TX=>Qt|.bl _=>Qt|.str _=>Qt|_=>Qf)
 |.int _=>(match y with|.TX=>Qt|.int _=>Qt|.str _=>Qt|_=>Qf)
 |.str _=>(match y with|.TX=>Qt|.int _=>Qt|.bl _=>Qt|.str _=>Qt|_=>Qf)
 |.Wt _=>(match y with|.Wt _=>Qt|_=>Qf)
 |_=>Qf
def Ig:R2:=λx y H Q=>j7 x y=Qt/\Q (.bl (decide (x=y))) H
def Ic:R2:=λx y H Q=>j7 x y=Qt/\Q (.bl (!decide (x=y))) H
def En{i j:Int}:decide (V.int i=V.int j)=(i==j):=by rw[PR];simp
def Ep{i j:Bool}:decide (V.bl i=V.bl j)=(i==j):=by rw[PR];simp
def Em{i j:Str}:decide (V.str i=V.str j)=(i==j):=by rw[PR];simp
def Eo{i j:Array UInt8}:decide (V.Wt i=V.Wt j)=(i.toList==j.toList):=by rw[PR];cases i;cases j;simp
section
variable {tc:TE}
def cx{σ:St}{k k':Bool}(I:Inv X pins σ H s)(q:Q (.bl k) H)(e:k=k'):EP X pins σ Q (.bool k') s:=by subst e;exact⟨.bl k,H,I,rfl,q⟩
def Kb:eh X (compareOp .Eq) Ig:=by
 intro pins s σ H x y v u Q I rx ry h;obtain⟨hs,q⟩:=h;cases x with
 |TX=>
  cases rx;cases y with
  |TX=>cases ry;exact PySem.EqNone.eq_none_none (cx I q (by simp))
  |bl j=>cases ry;exact PySem.EqNone.eq_none_bool (cx I q (by simp))
  |int j=>obtain⟨t',rfl⟩:=ry;exact PySem.EqNone.eq_none_int (cx I q (by simp))
  |str j=>obtain⟨t',rfl⟩:=ry;exact PySem.EqNone.eq_none_str (cx I q (by simp))
  |_=>exact absurd (show Qf=Qt from hs) OD
 |bl i=>
  cases rx;cases y with
  |TX=>cases ry;exact PySem.EqNone.eq_bool_none (cx I q (by simp))
  |bl j=>cases ry;exact eq_bool (cx I q Ep)
  |str j=>obtain⟨t',rfl⟩:=ry;exact PySem.EqMixed.eq_bool_str (cx I q (by simp))
  |_=>exact absurd (show Qf=Qt from hs) OD
 |int i=>
  obtain⟨t,rfl⟩:=rx;cases y with
  |TX=>cases ry;exact PySem.EqNone.eq_int_none (cx I q (by simp))
  |int j=>obtain⟨t',rfl⟩:=ry;exact eq_int (cx I q En)
  |str j=>obtain⟨t',rfl⟩:=ry;exact PySem.EqMixed.eq_int_str (cx I q (by simp))
  |_=>exact absurd (show Qf=Qt from hs) OD
 |str i=>
  obtain⟨t,rfl⟩:=rx;cases y with
  |TX=>cases ry;exact PySem.EqNone.eq_str_none (cx I q (by simp))
  |bl j=>cases ry;exact PySem.EqMixed.eq_str_bool (cx I q (by simp))
  |int j=>obtain⟨t',rfl⟩:=ry;exact PySem.EqMixed.eq_str_int (cx I q (by simp))
  |str j=>obtain⟨t',rfl⟩:=ry;exact eq_str (cx I q Em)
  |_=>exact absurd (show Qf=Qt from hs) OD
 |Wt i=>
  obtain⟨t,rfl⟩:=rx;cases y with
  |Wt j=>obtain⟨t',rfl⟩:=ry;exact PySem.W.eq_bytes (cx I q Eo)
  |_=>exact absurd (show Qf=Qt from hs) OD
 |_=>cases y<;>exact absurd (show Qf=Qt from hs) OD
def J5:eh X (compareOp .NotEq) Ic:=by
 intro pins s σ H x y v u Q I rx ry h;obtain⟨hs,q⟩:=h;cases x with
 |TX=>
  cases rx;cases y with
  |TX=>cases ry;exact PySem.EqNone.ne_none_none (cx I q (by simp))
  |bl j=>cases ry;exact PySem.EqNone.ne_none_bool (cx I q (by simp))
  |int j=>obtain⟨t',rfl⟩:=ry;exact PySem.EqNone.ne_none_int (cx I q (by simp))
  |str j=>obtain⟨t',rfl⟩:=ry;exact PySem.EqNone.ne_none_str (cx I q (by simp))
  |_=>exact absurd (show Qf=Qt from hs) OD
 |bl i=>
  cases rx;cases y with
  |TX=>cases ry;exact PySem.EqNone.ne_bool_none (cx I q (by simp))
  |bl j=>cases ry;exact ne_bool (cx I q (congrArg not Ep))
  |str j=>obtain⟨t',rfl⟩:=ry;exact PySem.EqMixed.ne_bool_str (cx I q (by simp))
  |_=>exact absurd (show Qf=Qt from hs) OD
 |int i=>
  obtain⟨t,rfl⟩:=rx;cases y with
  |TX=>cases ry;exact PySem.EqNone.ne_int_none (cx I q (by simp))
  |int j=>obtain⟨t',rfl⟩:=ry;exact ne_int (cx I q (congrArg not En))
  |str j=>obtain⟨t',rfl⟩:=ry;exact PySem.EqMixed.ne_int_str (cx I q (by simp))
  |_=>exact absurd (show Qf=Qt from hs) OD
 |str i=>
  obtain⟨t,rfl⟩:=rx;cases y with
  |TX=>cases ry;exact PySem.EqNone.ne_str_none (cx I q (by simp))
  |bl j=>cases ry;exact PySem.EqMixed.ne_str_bool (cx I q (by simp))
  |int j=>obtain⟨t',rfl⟩:=ry;exact PySem.EqMixed.ne_str_int (cx I q (by simp))
  |str j=>obtain⟨t',rfl⟩:=ry;exact ne_str (cx I q (congrArg not Em))
  |_=>exact absurd (show Qf=Qt from hs) OD
 |Wt i=>
  obtain⟨t,rfl⟩:=rx;cases y with
  |Wt j=>obtain⟨t',rfl⟩:=ry;exact PySem.W.ne_bytes (cx I q (congrArg not Eo))
  |_=>exact absurd (show Qf=Qt from hs) OD
 |_=>cases y<;>exact absurd (show Qf=Qt from hs) OD
def J7:eh X (compareOp .Lt) (kd λi j=>.bl (decide (i<j))):=wL λ_ _ _ _ _ _ _ q=>lt_int q
def J8:eh X (compareOp .LtE) (kd λi j=>.bl (decide (i<=j))):=wL λ_ _ _ _ _ _ _ q=>le_int q
def Ka:eh X (compareOp .Gt) (kd λi j=>.bl (decide (j<i))):=wL λ_ _ _ _ _ _ _ q=>gt_int q
def J9:eh X (compareOp .Is) (λx y H Q=>y=.TX/\Q (.bl (decide (x=.TX))) H):=by
 intro pins s σ H x y v u Q I rx ry h;obtain⟨rfl,q⟩:=h;cases ry;refine is_none_gen (cx I q ?_);cases x<;>first
  |(cases rx;rfl)
  |(obtain⟨t,rfl⟩:=rx;rfl)
def J4:eh X (compareOp .IsNot) (λx y H Q=>y=.TX/\Q (.bl (!decide (x=.TX))) H):=by
 intro pins s σ H x y v u Q I rx ry h;obtain⟨rfl,q⟩:=h;cases ry;refine isnot_none_gen (cx I q ?_);cases x<;>first
  |(cases rx;rfl)
  |(obtain⟨t,rfl⟩:=rx;rfl)
def wV(b:Xn){op:CmpOp}(h:op≠.In:=by decide)(h2:op≠.NotIn:=by decide):behindInMarks op b=Qf:=by
 have e1:(op==CmpOp.In)=Qf:=by cases op<;>first|rfl|exact absurd rfl h
 have e2:(op==CmpOp.NotIn)=Qf:=by cases op<;>first|rfl|exact absurd rfl h2
 cases b<;>simp[behindInMarks,e1,e2]
def zG(K:Ou)(x:V)(H:Hp)(k:Bool):Prop:=match x with
 |.TX=>k=Qf
 |.bl b=>k=b
 |.int i=>k=(i !=0)
 |.str y=>y.length<=O3/\k=((y.length:Int) !=0)
 |.Wt y=>y.size<=O3/\k=((y.size:Int) !=0)
 |.ref p=>(∃xs,TZ K H p xs/\k=!xs.isEmpty)\/(∃xs,UA K H p xs/\k=!xs.isEmpty)\/∃kvs,H p=Qs (.dK kvs)/\k=!kvs.isEmpty
 |_=>False
def C9{κ:Type}{kvs:Ql (κ×V)}{vs:Ql (κ×OM)}(r:KV kvs vs):(!vs.isEmpty)=!kvs.isEmpty:=by cases r<;>rfl
def C8 (r:Vals xs TH):(!TH.toArray.isEmpty)=!xs.isEmpty:=by cases r<;>simp
def lu:(O3:Nat)<2^63:=by rw[sizeLine_eq];decide
def FT:Oe X (λx H Q=>∃k,zG X.K x H k/\Q k H):=by
 intro pins s σ H x v Q I rx h;obtain⟨k,e,q⟩:=h;have hl:=lu;have hs:O3=16777216:=sizeLine_eq;cases x with
 |TX=>cases rx;have e':k=Qf:=e;subst e';exact truthy_none ⟨H,I,q⟩
 |bl b=>cases rx;have e':k=b:=e;subst e';exact wpAny_truthy_bool ⟨H,I,q⟩
 |int i=>obtain⟨t,rfl⟩:=rx;have e':k=(i !=0):=e;subst e';exact PySem.P.truthy_int ⟨H,I,q⟩
 |str y=>obtain⟨t,rfl⟩:=rx;obtain⟨hy,e'⟩:y.length<=O3/\k=((y.length:Int) !=0):=e;subst e';exact PySem.P.truthy_str (by lia) ⟨H,I.tok _,q⟩
 |Wt y=>obtain⟨t,rfl⟩:=rx;obtain⟨hy,e'⟩:y.size<=O3/\k=((y.size:Int) !=0):=e;subst e';exact PySem.W.truthy_bytes (by lia) ⟨H,I.tok _,q⟩
 |ref p=>
  cases rx;have e':(∃xs,TZ X.K H p xs/\k=!xs.isEmpty)\/(∃xs,UA X.K H p xs/\k=!xs.isEmpty)\/∃kvs,H p=Qs (.dK kvs)/\k=!kvs.isEmpty:=e;rcases e' with⟨xs,hx,e'⟩|⟨xs,hx,e'⟩|⟨kvs,hx,e'⟩
  .subst e';obtain⟨TH,r,pl,hz⟩:=I.list hx;have hlen:=r.length;exact wpAny_truthy_list pl.isList (by simp only[OV];lia) ⟨H,I.tok _,by rw[C8 r];exact q⟩
  .subst e';obtain⟨TH,r,pl,hz⟩:=I.tuple hx;have hlen:=r.length;exact truthy_tuple pl (by simp only[OV];lia) ⟨H,I.tok _,by rw[C8 r];exact q⟩
  .subst e';obtain⟨hz,hS,vs,r,m⟩:kvs.length<=O3/\(p==sysModules)=Qf/\∃vs,KV kvs vs/\s.heap.DictOf (dO X.prog X.w) p vs:=I.TY p _ hx;have hlen:kvs.length=vs.length:=Paired.length r;exact wpAny_truthy_dict hS m (by lia) ⟨H,I.tok _,by rw[C9 r];exact q⟩
 |_=>exact(show False from e).elim
def IA(ha:PE X a ta)(he:∀whole,isTrue a X.env whole=(do let v<-whole;standAt a.pos;holding [v] (truthy v))):PT X a (λσ H Q=>ta σ H λx H'=>∃k,zG X.K x H' k/\Q k H'):=by intro pins s σ H Q I h;exact isTrue_plain (aE (ha pins s σ H _ I h) λv s1 ⟨x,H1,I1,r1,q1⟩=>FT pins s1 σ H1 x v Q I1 r1 q1) (he _)
def j3{x:V}(r:Vals [x] us):∃u,us=[u]/\RelV x u:=by
 cases r with
 |cons r1 r2=>cases r2;exact⟨_,rfl,r1⟩
def uG{x:V}(r:Vals [x,y] us):∃u w',us=[u,w']/\RelV x u/\RelV y w':=by
 cases r with
 |cons r1 r2=>
  cases r2 with
  |cons r3 r4=>cases r4;exact⟨_,_,rfl,r1,r3⟩
def NQ:gc X (.builtin "abs") (λxs H Q=>∃i,xs=[.int i]/\Q (.int (if i<0 then-i else i)) H):=by intro pins s σ H xs us Q I r h;obtain⟨i,rfl,q⟩:=h;obtain⟨u,rfl,t,rfl⟩:=j3 r;exact call_abs_int λu tk=>⟨.int (if i<0 then-i else i),H,I.tok _,⟨_,rfl⟩,q⟩
def NN(hc:X.calm=Qt):gc X (.builtin "max") (λxs H Q=>∃i j,xs=[.int i,.int j]/\Q (.int (if j>i then j else i)) H):=by
 intro pins s σ H xs us Q I r h;obtain⟨i,j,rfl,q⟩:=h;obtain⟨u,w',rfl,⟨t,rfl⟩,⟨t',rfl⟩⟩:=uG r;refine max_two_ints (I.ok.hd hc) λh' tk k=>⟨_,H,I.kept k,?_,q⟩;by_cases hj:j>i
 .rw[S9 hj,S9 hj];exact⟨_,rfl⟩
 .rw[Tr hj,Tr hj];exact⟨_,rfl⟩
def NM(hc:X.calm=Qt):gc X (.builtin "min") (λxs H Q=>∃i j,xs=[.int i,.int j]/\Q (.int (if j<i then j else i)) H):=by
 intro pins s σ H xs us Q I r h;obtain⟨i,j,rfl,q⟩:=h;obtain⟨u,w',rfl,⟨t,rfl⟩,⟨t',rfl⟩⟩:=uG r;refine min_two_ints (I.ok.hd hc) λh' tk k=>⟨_,H,I.kept k,?_,q⟩;by_cases hj:j<i
 .rw[S9 hj,S9 hj];exact⟨_,rfl⟩
 .rw[Tr hj,Tr hj];exact⟨_,rfl⟩
end
structure YM(h:Xm)(x dx C:Xl)(mA:Str->Option OM):Prop where
 obj:h.get? x=Qs (Qv C dx)
 ns:h.Ns1 dx mA
 ne:dx≠x
def LH{mA:Str->Qo OM}(n:h.Ns1 dx mA):∃od,h.get? dx=Qs od/\∀name,RQ name od=Qs (mA name):=by
 obtain⟨o,es,ep,ho,hd,hk,_,hm⟩:=n;refine⟨o,ho,λname=>?_⟩;have e:=hm name;unfold nsFind findBy at e;rw[<-Array.find?_toList]at e;unfold RQ;rw[hd];dsimp only;split
 .rename_i y q;rw[q]at e;exact congrArg Qs e
 .rename_i q;rw[q]at e;have a:es.toList.any (·.refKey)=Qf:=by rw[List.any_eq_false];intro y hy;obtain⟨z,t,zfU⟩:=hk y (Array.mem_toList_iff.mp hy);simp[DictEntry.refKey,zfU]
  have a':¬es.toList.any (·.refKey)=Qt:=by rw[a];exact OD
  rw[Tr a'];exact congrArg Qs e
def YM.look{x:Xl}{mA:Str->Qo OM}(I:YM h x dx C mA):∃od,PySem.W.InstAt h x (Qv C dx) C (Qs od)/\∀name,RQ name od=Qs (mA name):=let ⟨od,ho,hl⟩:=LH I.ns
 ⟨od,⟨I.obj,rfl,rfl,ho⟩,hl⟩
section
variable {A:Qq}{x f:Xl}{mA:Str->Qo OM}{v:OM}
def get_map{expr:Bool}{Q:OM->OJ->Prop}(X:K.In s.heap)(I:YM s.heap x dx C mA)(hg:Q2 K C name=Qt)(hh:Rc K C=Qt) (ha:PU K (.ref C) name=Qs Qn) (hv:mA name=Qs v) (hv':Tu v=Qt) (h:Q v {s with toks:=s.toks+1}):wpAny (model prog w) A (getAttr (.ref x) name expr) Q E s:=by obtain⟨od,J,hl⟩:=I.look;exact PySem.W.get_value X J (RC hg).1 (PySem.W.findObj_own hh ha rfl (by rw[hl,hv])) hv' h
def ML{Q:OM×Ql OM->OJ->Prop}(X:K.In s.heap)(I:YM s.heap x dx C mA)(hg:Q2 K C name=Qt) (hf:PU K (.ref C) name=Qs (Qs (.ref f))) (ht:SE K (.ref f)=Qt) (hv:mA name=Qn) (h:Q (.ref f,[.ref x]) s):wpAny (model prog w) A (getMethod (.ref x) name pl) Q E s:=by obtain⟨od,J,hl⟩:=I.look;exact PySem.W.method_fn X J (RC hg).1 (RC hg).2 hf (beq_iff_eq.mp ht) (by show(RQ name od).map (·.isSome)=Qs Qf;rw[hl,hv];rfl) h
def GX{Q:Unit->OJ->Prop}(X:K.In s.heap)(I:YM s.heap x dx C mA)
  (hs:PU K (.ref C) "__setattr__"=Qs (Qs (.builtin "object.__setattr__"))) (hp:RV K C=Qt) (ht:Sw K C name=Qs Qn) (hh:Rc K C=Qt)
  (hw:PySem.Within mA ns) (hsz:ns.length<=O3)
  (h:∀h',YM h' x dx C (λy=>if y=name then Qs v else mA y)->Heap.SameBut dx s.heap h'->Q () { s with heap:=h',toks:=s.toks+2 }) :wpAny (model prog w) A (setAttr (.ref x) name v) Q E s:=by obtain⟨od,J,hl⟩:=I.look;refine PySem.W.set_plain X J hs (PySem.W.osa_open (s:={ s with toks:=s.toks+1 }) (r:=Qn) X J hp ht λb=>?_);obtain⟨cd,hc,Wi⟩:=PySem.W.any_some hh;have hx:s.heap.get? x=Qs ⟨.ref C,Qs dx,.plain, #[]⟩:=I.obj;refine OB (OQ (OB (OB (wpAny_loadPart hx (OB (PySem.W.Looks.here (s:={ s with toks:=s.toks+1 }) (PySem.W.looks_clsIn X hc) ?_))))));rw[Wi];refine OQ (a:=Qs dx) (OB (OQ (OB ?_)));refine wpAny_nsSet1 (s:={ s with toks:=s.toks+1 }) I.ns λh' Y8 W6=>?_;obtain⟨oD,esD,epD,hoD,hdD,hcD⟩:=Y8.count (PySem.Within.cons name v hw);refine OB (wpAny_lookBehind hoD (by rw[hdD];exact pastItsLine_dict (Pr hcD (by rw[OX];lia))) ?_);exact OQ (h _ ⟨(W6.2 _ (Ne.symm I.ne)).trans I.obj,Y8,I.ne⟩ W6)
def Lx{R:Result->OJ->Prop}{vs:Ql OM}{kw:Ql (Str×OM)}(X:K.In s.heap)(hm:RD K C=Qt) (hi:PU K (.ref C) "__init__"=Qs (Qs (.ref f))) (hf:PySem.W.typeIn K (.ref f)=Qs (.type "function")) (h:codeAny (model prog w) (A.under (.builtin "type.__call__" ⟨.ref C::vs,kw⟩)) (.call (.ref f) ⟨.ref (s.heap.objs.size+1)::vs,kw⟩) (PySem.W.InitBack (s.heap.objs.size+1) R)
   {s with heap:=(s.heap.push P4).push (Qv C s.heap.objs.size)}):codeAny (model prog w) A (.call (.ref C) ⟨vs,kw⟩) R s:=by obtain⟨hh,g,d,t,os⟩:=s;exact PySem.W.make_core (PySem.W.makes_of X hm) (PySem.W.looks_findIn X hi) (λself=>PySem.W.bind_fn X self hf) (.inl rfl) h
end
def cS(f:Str)(v:V):Ql (Str×V)->Ql (Str×V)
 |[]=>[(f,v)]
 |(g,x)::r=>if g=f then(g,v)::r else(g,x)::cS f v r
def Cv(f g:Str)(v:V):∀fs:Ql (Str×V),(cS f v fs).lookup g=if g=f then Qs v else fs.lookup g
 |[]=>by
  show QQ g [(f,v)]=_;by_cases h:g=f
  .have hb:(g==f)=Qt:=beq_iff_eq.mpr h;simp only[QQ,hb,S9 h]
  .have hb:(g==f)=Qf:=beq_eq_false_iff_ne.mpr h;simp only[QQ,hb,Tr h]
 |(k,x)::r=>by
  have ih:=Cv f g v r;rw[show cS f v ((k,x)::r)=(if k=f then(k,v)::r else(k,x)::cS f v r) from rfl];by_cases hk:k=f
  .rw[S9 hk];by_cases h:g=k
   .have hb:(g==k)=Qt:=beq_iff_eq.mpr h;simp only[QQ,hb,S9 (h.trans hk)]
   .have hb:(g==k)=Qf:=beq_eq_false_iff_ne.mpr h;simp only[QQ,hb,Tr (λe:g=f=>h (e.trans hk.symm))]
  .rw[Tr hk];by_cases h:g=k
   .have hb:(g==k)=Qt:=beq_iff_eq.mpr h;simp only[QQ,hb,Tr (λe:g=f=>hk (h.symm.trans e))]
   .have hb:(g==k)=Qf:=beq_eq_false_iff_ne.mpr h;simp only[QQ,hb];exact ih
def xt(f:Str)(v:V):∀fs:Ql (Str×V),f∈(cS f v fs).map (·.1)/\∀g,g∈fs.map (·.1)->g∈(cS f v fs).map (·.1)
 |[]=>⟨by simp[cS],λg h=>by simp at h⟩
 |(k,x)::r=>by
  obtain⟨i1,i2⟩:=xt f v r;rw[show cS f v ((k,x)::r)=(if k=f then(k,v)::r else(k,x)::cS f v r) from rfl];by_cases hk:k=f
  .rw[S9 hk];subst hk;exact⟨by simp,λg h=>by simpa using h⟩
  .rw[Tr hk];refine⟨?_,λg h=>?_⟩
   .rw[OF];exact Ov _ i1
   .rw[OF]at h ⊢;rcases OC.mp h with e|e
    .exact OC.mpr (.inl e)
    .exact Ov _ (i2 g e)
def CB(f:Str)(v:V):∀fs:Ql (Str×V),(cS f v fs).length<=fs.length+1
 |[]=>by simp[cS]
 |(k,x)::r=>by
  have ih:=CB f v r;rw[show cS f v ((k,x)::r)=(if k=f then(k,v)::r else(k,x)::cS f v r) from rfl];by_cases hk:k=f
  .rw[S9 hk,OX,OX];lia
  .rw[Tr hk,OX,OX];lia
def VY.some_of{o:Qo OM}(r:VY (Qs v) o):∃u,o=Qs u/\RelV v u:=by
 cases o with
 |none=>exact(show False from r).elim
 |some u=>exact⟨u,rfl,r⟩
def VY.none_of{o:Qo OM}(r:VY Qn o):o=Qn:=by
 cases o with
 |none=>rfl
 |some u=>exact(show False from r).elim
def MH (r:RelV v u):Tu u=Qt:=by
 cases v with
 |TX=>cases(show u=QS from r);rfl
 |bl b=>cases(show u=Tt b from r);rfl
 |int i=>obtain⟨t,e⟩:=(show ∃t,u=SU i t from r);cases e;rfl
 |str x=>obtain⟨t,e⟩:=(show ∃t,u=Tq x t from r);cases e;rfl
 |Wt b=>obtain⟨t,e⟩:=(show ∃t,u=Vj b t from r);cases e;rfl
 |flt b=>obtain⟨t,e⟩:=(show ∃t,u=Vk b t from r);cases e;rfl
 |ref a=>cases(show u=OY a from r);rfl
 |ty n=>cases(show u=Se n from r);rfl
section
variable {a:Xl}{fs Zc:Ql (Str×V)}
def xG(TY:U7 P w H h)(e:H a=Qs (.ins C dx fs)):∃mA,YM h a dx C mA/\(∀f,VY (fs.lookup f) (mA f))/\PySem.Within mA (fs.map (·.1))/\fs.length<=1000/\H dx=Qs (.own a):=by obtain⟨d,z,ne,ob,mA,n,r,q⟩:=(show U5 P w H h a (.ins C dx fs) from TY a _ e);exact⟨mA,⟨ob,n,ne⟩,r,q,z,d⟩
end
structure UL(K:Ou)(C:Xl):Prop where
 pg:Q2 K C Str.empty=Qt
 hd:Rc K C=Qt
 po:RV K C=Qt
 sa:PU K (.ref C) "__setattr__"=Qs (Qs (.builtin "object.__setattr__"))
def UL.get (c:UL K C)(f:Str):Q2 K C f=Qt:=c.pg
def Ue(K:Ou)(C:Xl)(f:Str):Prop:=PU K (.ref C) f=Qs Qn
def Ue.zek (n:Ue K C f):Sw K C f=Qs Qn:=by unfold Sw;rw[show PU K (.ref C) f=Qs Qn from n];rfl
structure Meth(K:Ou)(C:Xl)(m:Str)(f:Xl):Prop where
 at_:PU K (.ref C) m=Qs (Qs (.ref f))
 fn:SE K (.ref f)=Qt
 kp:PV K (.ref f)=Qt
section
variable {σ:St}{a:Xl}{fs:Ql (Str×V)}{A:Qq}
def Du{b:Bool}{Q:OM->OJ->Prop}(I:Inv X pins σ H s)(e:H a=Qs (.ins C dx fs))(c:UL X.K C)(n:Ue X.K C f)(l:fs.lookup f=Qs v) (h:∀u s',Inv X pins σ H s'->RelV v u->Q u s'):wpAny (model X.prog X.w) A (getAttr (.ref a) f b) Q E s:=by obtain⟨mA,O,r,_,_,_⟩:=xG I.TY e;obtain⟨u,hu,ru⟩:=VY.some_of (v:=v) (o:=mA f) (by rw[<-l];exact r f);exact get_map I.Vf O (c.get f) c.hd n hu (MH ru) (h u _ (I.tok _) ru)
def Dt{g:Xl}{Q:OM×Ql OM->OJ->Prop}(I:Inv X pins σ H s)(e:H a=Qs (.ins C dx fs))(c:UL X.K C)(k:Meth X.K C m g)(l:fs.lookup m=Qn) (h:Q (.ref g,[.ref a]) s):wpAny (model X.prog X.w) A (getMethod (.ref a) m pl) Q E s:=by obtain⟨mA,O,r,_,_,_⟩:=xG I.TY e;have hn:mA m=Qn:=VY.none_of (by rw[<-l];exact r m);exact ML I.Vf O (c.get m) k.at_ k.fn hn h
def AB{Q:Unit->OJ->Prop}(I:Inv X pins σ H s)(e:H a=Qs (.ins C dx fs))(c:UL X.K C)(n:Ue X.K C f)(hl:fs.length<1000)(ry:RelV y u) (h:∀s',Inv X pins σ (upd H a (.ins C dx (cS f y fs))) s'->Q () s'):wpAny (model X.prog X.w) A (setAttr (.ref a) f u) Q E s:=by
 obtain⟨mA,O,r,wi,_,ho⟩:=xG I.TY e;have hz:(fs.map (·.1)).length<=O3:=by rw[OI,sizeLine_eq];lia
 refine GX I.Vf O c.sa c.po n.zek c.hd wi hz λh' O' sb=>h _ ?_;have hd:∃o,h'.get? dx=Qs o:=let ⟨o,_,_,e',_⟩:=O'.ns;⟨o,e'⟩
 refine I.write (x:=a) (e:=dx) (by rw[e];exact True.intro) (.inr ho) (λb q hb z=>(sb.2 b hb).trans z) hd ?_;refine⟨by rw[aS O.ne];exact ho,?_,O.ne,O'.obj,_,O'.ns,λg=>?_,λg hg=>?_⟩
 .have:=CB f y fs;lia
 .show VY ((cS f y fs).lookup g) (if g=f then Qs u else mA g);rw[Cv];by_cases q:g=f
  .rw[S9 q,S9 q];exact ry
  .rw[Tr q,Tr q];exact r g
 .by_cases q:g=f
  .rw[q];exact(xt f y fs).1
  .refine(xt f y fs).2 g (wi g λz=>hg ?_);show(if g=f then Qs u else mA g)=Qn;rw[Tr q];exact z
def Inv.made(I:Inv X pins σ H s):Inv X pins σ (upd (upd H s.heap.objs.size (.own (s.heap.objs.size+1))) (s.heap.objs.size+1) (.ins C s.heap.objs.size []))
  {s with heap:=(s.heap.push P4).push (Qv C s.heap.objs.size)}:=by
 have e1:(s.heap.push P4).get? s.heap.objs.size=Qs P4:=OU s.heap rfl;have e2:((s.heap.push P4).push (Qv C s.heap.objs.size)).get? (s.heap.objs.size+1)=Qs (Qv C s.heap.objs.size):=by
  have:=OU (s.heap.push P4) (o:=Qv C s.heap.objs.size) rfl
  rwa [Rm]at this
 have e3:(s.heap.push P4).Ns s.heap.objs.size (λ_=>Qn):=⟨P4,#[],_,e1,rfl,(λe he=>absurd he (by simp)),λ_=>rfl⟩;have I1:=I.laid (a:=s.heap.objs.size) (o:=.own (s.heap.objs.size+1)) (h':=s.heap.push P4) (t':=s.toks) (λb u q=>OA _ q) (OL _) ⟨_,e1⟩;refine I1.laid (a:=s.heap.objs.size+1) (o:=.ins C s.heap.objs.size []) (t':=s.toks) (λb u q=>OA _ q) (UZ (Rm _ _)) ?_;have ne:s.heap.objs.size≠s.heap.objs.size+1:=Ph (PB _);refine⟨by rw[aS ne,bB],QD _,ne,e2,λ_=>Qn,(Heap.Ns1.of_empty e3).at λo q=>OA _ q,λ_=>True.intro,λy hy=>absurd rfl hy⟩
def N3{f:Str}{s:OJ}{Q:OM->OJ->Prop}(hb:attributeBase e f env (eval e env)=eval e env) (h:wpAny (model prog w) A (eval e env) (λo s₁=>wpAny (model prog w) A (getAttr o f Qt) Q E s₁) E s):wpAny (model prog w) A (eval (.Attribute e f pos) env) Q E s:=Attribute_any_ h (by rw[arm_eval_Attribute,hb])
end
def Gv(K:Ou)(ta:TE)(f:Str):TE:=λσ H Q=>ta σ H λx H1=>∃a C dx fs v,x=.ref a/\H1 a=Qs (.ins C dx fs)/\UL K C/\Ue K C f/\fs.lookup f=Qs v/\Q v H1
def HF(K:Ou)(ta tv:TE)(f:Str):TS:=λD σ H=>tv σ H λy H1=>ta σ H1 λx H2=>∃a C dx fs,x=.ref a/\H2 a=Qs (.ins C dx fs)/\UL K C/\Ue K C f/\fs.length<1000/\D.nx σ (upd H2 a (.ins C dx (cS f y fs)))
def Fh(X:Cx)(op:Operator)(rd:V->V->Hp->VK->Prop):Prop:=∀(pins:Ql (Xl×Obj)) (s:OJ) (σ:St) (H:Hp) (x y:V) (u v:OM) (Q:VK),Inv X pins σ H s->RelV x u->RelV y v->rd x y H Q->wpAny (model X.prog X.w) X.A (inplaceOp op u v) (EP X pins σ Q) X.xe s
def HE(K:Ou)(ta tv:TE)(rd:V->V->Hp->VK->Prop)(f:Str):TS:=λD σ H=>ta σ H λx H1=>∃a C dx fs v,x=.ref a/\H1 a=Qs (.ins C dx fs)/\UL K C/\Ue K C f/\fs.lookup f=Qs v/\tv σ H1 λy H2=>rd v y H2 λz H3=>∃dx' Zc,H3 a=Qs (.ins C dx' Zc)/\Zc.length<1000/\D.nx σ (upd H3 a (.ins C dx' (cS f z Zc)))
def kZ(he:PE X e ta)(hb:attributeBase e f X.env (eval e X.env)=eval e X.env):PE X (.Attribute e f pos) (Gv X.K ta f):=by intro pins s σ H Q I h;refine N3 hb (aE (he pins s σ H _ I h) λu s1 ⟨x,H1,I1,rx,a,C,dx,fs,v,ex,ea,c,n,l,q⟩=>?_);subst ex;obtain rfl:u=OY a:=rx;exact Du I1 ea c n l λu' s2 I2 ru=>⟨v,H1,I2,ru,q⟩
def IS(ha:PE X o ta)(hv:PE X value tv)(hs:swapsWith value (Qs (.Attribute o f pos')) pos.line X.env=pure Qf):PS X (.Assign [.Attribute o f pos'] value pos) (HF X.K ta tv f):=by intro pins s σ H D I h;refine plainObj_wpAny_Assign_Attribute (aE (hv pins s σ H _ I h) λu s1 ⟨y,H1,I1,ry,q⟩=>aE (ha pins s1 σ H1 _ I1 q) λov s2 ⟨x,H2,I2,rx,a,C,dx,fs,ex,ea,c,n,l,q2⟩=>?_) hs;subst ex;obtain rfl:ov=OY a:=rx;exact AB I2 ea c n l ry λs3 I3=>⟨σ,_,I3,q2⟩
def IQ{rd:V->V->Hp->VK->Prop}(ha:PE X o ta)(hv:PE X value tv)(hop:Fh X op rd):PS X (.AugAssign (.Attribute o f Vx) op value pos) (HE X.K ta tv rd f):=by intro pins s σ H D I h;refine wpAny_AugAssign_AttributeAny (aE (ha pins s σ H _ I h) λov s1 ⟨x,H1,I1,rx,a,C,dx,fs,v,ex,ea,c,n,l,q⟩=>?_);subst ex;obtain rfl:ov=OY a:=rx;refine Du I1 ea c n l λu s2 I2 ru=>aE (hv pins s2 σ H1 _ I2 q) λw3 s3 ⟨y,H2,I3,ry,q3⟩=>aE (hop pins s3 σ H2 v y u w3 _ I3 ru ry q3) λw4 s4 ⟨z,H3,I4,rz,dx',Zc,ea',l',q4⟩=>?_;exact AB I4 ea' c n l' rz λs5 I5=>⟨σ,_,I5,q4⟩
structure UP(k:Nat)(A:Qq):Prop where
 hd:A.handled=Qn
 dp:A.depth+3*k+5<recursionLimit
 un:A.units+16*k+200<cLine
def UP.mono{k:Nat}{A:Qq}(r:UP k A)(h:j<=k:=by decide):UP j A:=⟨r.hd,by have:=r.dp;lia,by have:=r.un;lia⟩
def UP.deeper{k:Nat}{A:Qq}(r:UP (k+1) A)(env:Env):UP k (A.deeper env):=⟨r.hd,by have:=r.dp;show A.depth+1+3*k+5<_;lia,by have:=r.un;show A.units+3+16*k+200<_;lia⟩
def Ly{A:Qq}{kw:Ql (Str×OM)}:(A.under (.builtin "type.__call__" ⟨.ref C::us,kw⟩)).depth=A.depth+1:=by
 first|rfl|simp[Around.under,Code.weight,Code.isCreation,Code.isGuard,Code.isCaller,Code.frames,Code.isFrame,guardIds]
def Lw{A:Qq}{kw:Ql (Str×OM)}:(A.under (.builtin "type.__call__" ⟨.ref C::us,kw⟩)).units=A.units+1:=by
 first|rfl|simp[Around.under,Code.cUnits,Code.frames,Code.isFrame]
def UP.make{k:Nat}{A:Qq}(r:UP (k+1) A)(C:Xl)(us:Ql OM)(kw:Ql (Str×OM)):UP k (A.under (.builtin "type.__call__" ⟨.ref C::us,kw⟩)):=⟨r.hd,by have:=r.dp;rw[Ly];lia,by have:=r.un;rw[Lw];lia⟩
def UP.depth{k:Nat}{A:Qq}(r:UP k A):A.depth<recursionLimit:=by have:=r.dp;lia
def UP.units{k:Nat}{A:Qq}(r:UP k A):A.units+64<cLine:=by have:=r.un;lia
def uQ:TA:=λ_ H Q=>Q [] H
def Ai(ta:TE)(tr:TA):TA:=λσ H Q=>ta σ H λx H1=>tr σ H1 λxs H2=>Q (x::xs) H2
section
variable {t:TA}
def gF:PA X [] uQ:=λ_ _ _ _ H Q I h=>Calls.spliced_nil ⟨[],H,I,.nil,h⟩
def gm(ha:PE X e te)(hr:PA X es t)(hs:OP (e::es) X.env=(Qf,eval e X.env)::OP es X.env:=by rfl):PA X (e::es) (Ai te t):=by intro pos pins s σ H Q I h;rw[hs];show wpAny _ _ (spliced ((Qf,eval e X.env)::QJ pos (OP es X.env))) _ _ s;refine Calls.spliced_cons (aE (ha pins s σ H _ I h) λu s1 ⟨x,H1,I1,r1,q1⟩=>?_);exact aE (hr pos pins s1 σ H1 _ I1 q1) λus s2 ⟨xs,H2,I2,r2,q2⟩=>⟨x::xs,H2,I2,.cons r1 r2,q2⟩
def Ge(t:TA):TE:=λσ H Q=>t σ H λxs H1=>xs.length<=O3/\∀p,H1 p=Qn->Q (.ref p) (upd H1 p (.tup xs))
def Gp(t:TA):TE:=λσ H Q=>t σ H λxs H1=>xs.length<=O3/\∀p,H1 p=Qn->Q (.ref p) (upd H1 p (.lst xs))
def wG{x1}(h:PA X es t):PE X (.Tuple es x1 pos) (Ge t):=by intro pins s σ H Q I hq;refine wpAny_Tuple_spliced (aE (h pos pins s σ H _ I hq) λus s1 ⟨xs,H1,I1,r,z,q⟩=>⟨by rw[<-r.length];exact z,?_⟩);have hf:H1 s1.heap.objs.size=Qn:=I1.TY.fresh (OL _);refine⟨.ref s1.heap.objs.size,upd H1 s1.heap.objs.size (.tup xs),I1.laid (t':=s1.toks) (λb u e=>OA _ e) (OL _) ?_,rfl,q _ hf⟩;exact⟨z,us,r,⟨_,OU _ rfl,rfl,_,rfl⟩⟩
def JP(h:PA X es t):PE X (.List es pos) (Gp t):=by intro pins s σ H Q I hq;refine wpAny_List_spliced (aE (h pos pins s σ H _ I hq) λus s1 ⟨xs,H1,I1,r,z,q⟩=>⟨by rw[<-r.length];exact z,?_⟩);have hf:H1 s1.heap.objs.size=Qn:=I1.TY.fresh (OL _);refine⟨.ref s1.heap.objs.size,upd H1 s1.heap.objs.size (.lst xs),I1.laid (t':=s1.toks) (λb u e=>OA _ e) (OL _) ?_,rfl,q _ hf⟩;exact⟨z,us,0,r,OU _ rfl⟩
end
abbrev Sp:=Ql V->Hp->VK->XK->Prop
abbrev iG:=Ql Env->Hp->OJ->XK->OM->OJ->Prop
structure YR(P:Pe)(w:QI)(K:Ou)(mg:Str->Option OM)(base:VZ)(A:Qq)(outer:List Env)(s:OJ)(H:Hp):Prop where
 frames:A.frames=Qs outer
 mod:Mod K mg base
 bs:∀b o,base.get? b=Qs o->s.heap.get? b=Qs o/\H b=Qn
 Xw:base.objs.size<=s.heap.objs.size
 WB:s.heap.FunFrames base outer
 Yh:∀b∈gW outer,H b=Qn
 TY:U7 P w H s.heap
 bare:AllBare s.gens
 tabs:∀p∈base.tabs,H p.1=Qs (.Wa p.2)
inductive CE(outer:List Env)(P:Pe)(w:QI)(H:Hp)(s:OJ)(Q:VK)(u:OM)(s':OJ):Prop
 |mk (v:V) (H':Hp) (_:s'.os=s.os) (_:AllBare s'.gens) (_:Un (gW outer) [] H H' s.heap s'.heap) (_:U7 P w H' s'.heap) (_:RelV v u) (_:Q v H')
def CR(CX:iG)(outer:Ql Env)(P:Pe)(w:QI)(H:Hp)(s:OJ)(Q:VK)(E:XK)(r:Result)(s':OJ):Prop:=match r with
 |.ok (.ret u)=>CE outer P w H s Q u s'
 |.ok _=>False
 |.error e=>CX outer H s E e s'
structure Um(P:Pe)(w:QI)(K:Ou)(mg:Str->Option OM)(base:VZ)(CX:iG)(k:Nat)(f:Xl)(fd:PX)(ps:List Str)(sp:Sp):Prop where
 len:∀vs H Q E,sp vs H Q E->vs.length=ps.length
 run:∀(A:Qq) (outer:List Env) (s:OJ) (H:Hp) (args:Args) (us:List OM) (vs:List V) (Q:VK) (E:XK),UP k A->YR P w K mg base A outer s H->BindsTo s fd args (ps.zip us)->Vals vs us->sp vs H Q E->codeAny (model P w) A (.call (.ref f) args) (CR CX outer P w H s Q E) s
def Um.imp{mg:Str->Qo OM}{CX:iG}{k:Nat}{f:Xl}{sp sp':Sp}(F:Um P w K mg base CX k f fd ps sp) (h:∀vs H Q E,sp' vs H Q E->sp vs H Q E):Um P w K mg base CX k f fd ps sp':=⟨λvs H Q E q=>F.len vs H Q E (h _ _ _ _ q),λA outer s H args us vs Q E hr he hb hv hs=>F.run A outer s H args us vs Q E hr he hb hv (h _ _ _ _ hs)⟩
def YR.make{mg:Str->Qo OM}{A:Qq}{outer:Ql Env}(e:YR P w K mg base A outer s H)(C:Xl)(us:Ql OM)(kw:Ql (Str×OM)):YR P w K mg base (A.under (.builtin "type.__call__" ⟨.ref C::us,kw⟩)) outer s H:=⟨by first|exact e.frames|(simpa[Around.under,Code.envs,Code.isFrame,pushEnvs] using e.frames),e.mod,e.bs,e.Xw,e.WB,e.Yh,e.TY,e.bare,e.tabs⟩
section
variable {σ:St}{s':OJ}
def Inv.zdp(I:Inv X pins σ H s):YR X.prog X.w X.K X.mg X.base X.A X.stack s H:=⟨I.ok.frames,I.ok.mod,I.bs,Pr I.ok.Xw I.sz,I.stack,I.zch,I.TY,I.bare,λp hp=>I.base.Wv _ _ (I.ok.tabs p hp)⟩
def Inv.after (I:Inv X pins σ H s)(h:CE X.stack X.prog X.w H s Q u s'):EP X pins σ Q u s':=by obtain⟨v,H',os,bare,un,TY,r,q⟩:=h;obtain⟨hh,g,d,t,os'⟩:=s';obtain rfl:os'=s.os:=os;exact⟨v,H',I.call (h':=hh) (g':=g) (d':=d) (t':=t) (ch:=[]) un TY bare (λb z=>absurd z (by simp)),r,q⟩
end
def GB(sp:Sp)(VG:Ql V)(E:XK)(t:TA):TE:=λσ H Q=>t σ H λvs H1=>sp (vs++VG) H1 Q E
def rf(C:Xl)(m:Str)(sp:Sp)(VG:Ql V)(E:XK)(ta:TE)(t:TA):TE:=λσ H Q=>ta σ H λx H1=>∃a dx fs,x=.ref a/\H1 a=Qs (.ins C dx fs)/\fs.lookup m=Qn/\t σ H1 λvs H2=>sp (x::(vs++VG)) H2 Q E
def Gn(C:Xl)(sp:Sp)(VG:Ql V)(E:XK)(t:TA):TE:=λσ H Q=>t σ H λvs H1=>∀x dx,H1 x=Qn->H1 dx=Qn->dx≠x->sp (.ref x::(vs++VG)) (upd (upd H1 dx (.own x)) x (.ins C dx [])) (λv H2=>v=.TX/\Q (.ref x) H2) E
def Binds(K:Ou)(fd:PX)(ps:Ql Str)(ds:Ql OM):Prop:=∀(s:OJ) (us:Ql OM),K.In s.heap->(us++ds).length=ps.length->BindsTo s fd ⟨us,[]⟩ (ps.zip (us++ds))
def Binds.all (h:∀us:Ql OM,us.length=ps.length->bindArgs fd ⟨us,[]⟩=pure (ps.zip us)):Binds K fd ps []:=λs us _ hl=>by rw[Po]at hl ⊢;exact .of_eq (h us hl)
def lU(CX:iG)(X:Cx)(E:XK):Prop:=∀(pins:Ql (Xl×Obj)) (σ:St) (H:Hp) (s:OJ) (e:OM) (s':OJ),Inv X pins σ H s->CX X.stack H s E e s'->X.xe e s'
section
variable {CX:iG}{k:Nat}{f:Xl}{sp:Sp}{VG:Ql V}{ds:Ql OM}{E:XK}{p:Pos}{t:TA}
def vO{σ:St}(F:Um X.prog X.w X.K X.mg X.base CX k f fd ps sp)(hr:UP k X.A)(hb:Binds X.K fd ps ds)(hd:Vals VG ds)(hx:lU CX X E) (I:Inv X pins σ H s) (r:Vals vs us) (h:sp (vs++VG) H Q E):wpAny (model X.prog X.w) X.A (call (.ref f) us) (EP X pins σ Q) X.xe s:=by
 have r2:Vals (vs++VG) (us++ds):=r.append hd;have hl:(us++ds).length=ps.length:=by rw[<-r2.length];exact F.len _ _ _ _ h
 refine wpAny_call (codeAny_mono (F.run X.A X.stack s H ⟨us,[]⟩ (us++ds) (vs++VG) Q E hr I.zdp (hb s us I.Vf hl) r2 h) λr s' hq=>?_);cases r with
 |error e=>exact hx pins σ H s e s' I hq
 |ok fl=>
  cases fl with
  |ret u=>exact I.after hq
  |next=>exact False.elim hq
  |brk=>exact False.elim hq
  |cont=>exact False.elim hq
def BJ(F:Um X.prog X.w X.K X.mg X.base CX k f fd ps sp)(hr:UP k X.A)(hg:Gl X x)(hm:X.mg x=Qs (.ref f))(hk:PV X.K (.ref f)=Qt)(hb:Binds X.K fd ps ds)(hd:Vals VG ds)(hx:lU CX X E) (ha:PA X (e::es) t) (V3:UR x:=by decide) (he:OP (e::es) X.env=(Qf,eval e X.env)::OP es X.env:=by rfl) (Vl:(QJ pos (OP es X.env)).any (·.1)=Qf:=by rfl):PE X (.Call (.Name x p) (e::es) [] pos) (GB sp VG E t):=by intro pins s σ H Q I h;refine wpAny_Call_Name_kw (CF I hg hm ?_ V3);refine RN (h₀:=X.base) I.ok.mod.ZF hk (aE (ha pos pins s σ H _ I h) λus s1 ⟨vs,H1,I1,r,q⟩=>⟨I1.Vf,?_⟩) he Vl;exact vO F hr hb hd hx I1 r q
def BI (he:PE X o ta)(c:UL X.K C)(hm:Meth X.K C m f)(F:Um X.prog X.w X.K X.mg X.base CX k f fd ps sp)(hr:UP k X.A)(hb:Binds X.K fd ps ds)(hd:Vals VG ds)(hx:lU CX X E)(ha:PA X (e::es) t) (UT:OP (e::es) X.env=(Qf,eval e X.env)::OP es X.env:=by rfl) (Vl:(QJ pos (OP es X.env)).any (·.1)=Qf:=by rfl) (ht:eval (.Call (.Attribute o m apos) (e::es) [] pos) X.env=(do
   let ov<-eval o X.env
   standAt apos.atName
   let (f,first)<-holding [ov] (getMethod ov m pl)
   callWith pos f first (QJ pos (OP (e::es) X.env)) (backToKw pos (keywordEach [] X.env))):=by rfl):PE X (.Call (.Attribute o m apos) (e::es) [] pos) (rf C m sp VG E ta t):=by intro pins s σ H Q I h;refine So (pl:=pl) (aE (he pins s σ H _ I h) λu s1 ⟨x,H1,I1,rx,a,dx,fs,ex,ea,l,q⟩=>?_) ht;subst ex;obtain rfl:u=OY a:=rx;refine Dt I1 ea c hm l ?_;refine RN (first:=[.ref a]) (h₀:=X.base) I.ok.mod.ZF hm.kp (aE (ha pos pins s1 σ H1 _ I1 q) λus s2 ⟨vs,H2,I2,r,q2⟩=>⟨I2.Vf,?_⟩) UT Vl;exact vO (us:=.ref a::us) (vs:=.ref a::vs) F hr hb hd hx I2 (.cons rfl r) q2
def BH (he:PE X o ta)(c:UL X.K C)(hm:Meth X.K C m f)(F:Um X.prog X.w X.K X.mg X.base CX k f fd ps sp)(hr:UP k X.A)(hb:Binds X.K fd ps ds)(hd:Vals VG ds)(hx:lU CX X E) (ht:eval (.Call (.Attribute o m apos) [] [] pos) X.env=(do
   let ov<-eval o X.env
   standAt apos.atName
   let (f,first)<-holding [ov] (getMethod ov m pl)
   callWith pos f first (QJ pos (OP [] X.env)) (backToKw pos (keywordEach [] X.env))):=by rfl):PE X (.Call (.Attribute o m apos) [] [] pos) (rf C m sp VG E ta uQ):=by intro pins s σ H Q I h;refine So (pl:=pl) (aE (he pins s σ H _ I h) λu s1 ⟨x,H1,I1,rx,a,dx,fs,ex,ea,l,q⟩=>?_) ht;subst ex;obtain rfl:u=OY a:=rx;refine Dt I1 ea c hm l ?_;exact PySem.W.callWith_K0 (first:=[.ref a]) I1.Vf hm.kp (vO (us:=[.ref a]) (vs:=[.ref a]) F hr hb hd hx I1 (.cons rfl .nil) q)
structure Mk(K:Ou)(C f:Xl):Prop where
 makes:RD K C=Qt
 init:PU K (.ref C) "__init__"=Qs (Qs (.ref f))
 fn:SE K (.ref f)=Qt
 kp:PV K (.ref C)=Qt
def HI{σ:St}(M:Mk X.K C f)(F:Um X.prog X.w X.K X.mg X.base CX k f fd ps sp)(hr:UP (k+1) X.A)(hb:Binds X.K fd ps ds)(hd:Vals VG ds) (hx:lU CX X E) (I:Inv X pins σ H s) (r:Vals vs us) (h:∀x dx,H x=Qn->H dx=Qn->dx≠x->sp (.ref x::(vs++VG)) (upd (upd H dx (.own x)) x (.ins C dx [])) (λv H2=>v=.TX/\Q (.ref x) H2) E):wpAny (model X.prog X.w) X.A (call (.ref C) us) (EP X pins σ Q) X.xe s:=by
 have hq:=h (s.heap.objs.size+1) s.heap.objs.size (I.TY.fresh (S4 _)) (I.TY.fresh (OL _)) (Ph (PB _));have I2:=Inv.made (C:=C) I;have r2:Vals (V.ref (s.heap.objs.size+1)::(vs++VG)) (OY (s.heap.objs.size+1)::(us++ds)):=.cons rfl (r.append hd);have hl:(OY (s.heap.objs.size+1)::us++ds).length=ps.length:=by have e:=r2.length;rw[F.len _ _ _ _ hq]at e;exact e.symm
 refine wpAny_call (Lx (f:=f) I.Vf M.makes M.init (beq_iff_eq.mp M.fn) (codeAny_mono (F.run _ X.stack _ _ ⟨OY (s.heap.objs.size+1)::us,[]⟩ (OY (s.heap.objs.size+1)::(us++ds)) _ _ E (hr.make C us []) (I2.zdp.make C us []) (hb _ (OY (s.heap.objs.size+1)::us) I2.Vf hl) r2 hq) λr s' ZK=>?_))
 cases r with
 |error e=>exact hx pins σ _ _ e s' I2 ZK
 |ok fl=>
  cases fl with
  |ret u=>obtain⟨v,H',I3,rv,ev,q3⟩:=I2.after ZK;subst ev;exact⟨rv,⟨V.ref (s.heap.objs.size+1),H',I3,rfl,q3⟩⟩
  |next=>exact False.elim ZK
  |brk=>exact False.elim ZK
  |cont=>exact False.elim ZK
def JO(M:Mk X.K C f)(F:Um X.prog X.w X.K X.mg X.base CX k f fd ps sp)(hr:UP (k+1) X.A)(hg:Gl X x)(hm:X.mg x=Qs (.ref C))(hb:Binds X.K fd ps ds)(hd:Vals VG ds)(hx:lU CX X E) (ha:PA X (e::es) t) (V3:UR x:=by decide) (he:OP (e::es) X.env=(Qf,eval e X.env)::OP es X.env:=by rfl) (Vl:(QJ pos (OP es X.env)).any (·.1)=Qf:=by rfl):PE X (.Call (.Name x p) (e::es) [] pos) (Gn C sp VG E t):=by intro pins s σ H Q I h;refine wpAny_Call_Name_kw (CF I hg hm ?_ V3);refine RN (h₀:=X.base) I.ok.mod.ZF M.kp (aE (ha pos pins s σ H _ I h) λus s1 ⟨vs,H1,I1,r,q⟩=>⟨I1.Vf,?_⟩) he Vl;exact HI M F hr hb hd hx I1 r q
end
structure UN(N P:List Str)(sc:SV):Prop where
 kind:sc.kind=.function
 co:sc.isCoroutine=Qf
 gen:sc.isGenerator=Qf
 nd:N.Nodup
 pre:N.take P.length=P
 par:∀x∈P,sc.names.lookup x=Qs .local\/sc.names.lookup x=Qs .cell
 zeT:∀y∈sc.names,y.2≠.free
def EL{kindOf:Str->Qo Qk}{x:Str}:∀{binds:Ql (Str×OM)}{m:Str->Qo OM},(∀v,(x,v)∉binds)->bindL kindOf binds m x=m x
 |[],_,_=>rfl
 |(n,v)::r,m,h=>by
  unfold bindL;rw[EL λw hw=>h w (Ov _ hw)];split
  .have:x≠n:=by rintro rfl;exact h v Ox
   simp[this]
  .rfl
def EN{kindOf:Str->Qo Qk}{x:Str}:∀{binds:Ql (Str×OM)}{m:Str->Qo OM},(∀v,(x,v)∉binds)->bindC kindOf binds m x=m x
 |[],_,_=>rfl
 |(n,v)::r,m,h=>by
  unfold bindC;rw[EN λw hw=>h w (Ov _ hw)];split
  .rfl
  .have:x≠n:=by rintro rfl;exact h v Ox
   simp[this]
def EM{kindOf:Str->Qo Qk}{x:Str}{v:OM}:∀{P:Ql Str}{vs:Ql OM}{i:Nat}{m:Str->Qo OM},P.Nodup->P[i]?=Qs x->vs[i]?=Qs v->kindOf x=Qs .local->bindL kindOf (P.zip vs) m x=Qs v
 |[],_,_,_,_,h,_,_=>by simp at h
 |_::_,[],_,_,_,_,h,_=>by simp at h
 |p::P,w::vs,0,m,nd,h1,h2,hk=>by simp at h1 h2;subst h1;subst h2;show bindL kindOf ((p,w)::P.zip vs) m p=_;unfold bindL;rw[EL λv hv=>(OO.mp nd).1 (Sx hv).1,S9 hk];simp
 |p::P,w::vs,i+1,m,nd,h1,h2,hk=>by show bindL kindOf ((p,w)::P.zip vs) m x=_;unfold bindL;exact EM (i:=i) (OO.mp nd).2 (by simpa using h1) (by simpa using h2) hk
def EO{kindOf:Str->Qo Qk}{x:Str}{v:OM}:∀{P:Ql Str}{vs:Ql OM}{i:Nat}{m:Str->Qo OM},P.Nodup->P[i]?=Qs x->vs[i]?=Qs v->kindOf x≠Qs .local->bindC kindOf (P.zip vs) m x=Qs v
 |[],_,_,_,_,h,_,_=>by simp at h
 |_::_,[],_,_,_,_,h,_=>by simp at h
 |p::P,w::vs,0,m,nd,h1,h2,hk=>by simp at h1 h2;subst h1;subst h2;show bindC kindOf ((p,w)::P.zip vs) m p=_;unfold bindC;rw[EN λv hv=>(OO.mp nd).1 (Sx hv).1,Tr hk];simp
 |p::P,w::vs,i+1,m,nd,h1,h2,hk=>by show bindC kindOf ((p,w)::P.zip vs) m x=_;unfold bindC;exact EO (i:=i) (OO.mp nd).2 (by simpa using h1) (by simpa using h2) hk
def start(N:Ql Str)(vs:Ql V):St:=vs.map Qs++OR (N.length-vs.length) Qn
noncomputable def jd(CX:iG)(P:Pe)(w:QI)(K:Ou)(mg:Str->Qo OM)(base:VZ)(N:Ql Str)(qual:Str)(scope:SV)(f:Xl)(cd:OM)(A:Qq)(outer:Ql Env)(s:OJ)(H:Hp)(E:XK):Cx where
 prog:=P
 w:=w
 K:=K
 mg:=mg
 base:=base
 A:=A.deeper (envOfC qual scope s.heap.objs.size f cd)
 N:=N
 s₀:=s
 H₀:=H
 env:=envOfC qual scope s.heap.objs.size f cd
 outer:=outer
 stack:=envOfC qual scope s.heap.objs.size f cd::outer
 ex:=[]
 calm:=Qt
 fn:=λ_=>Qt
 pn:=[]
 xe:=λe s'=>wpAny (model P w) (A.deeper (envOfC qual scope s.heap.objs.size f cd)) (leaving (envOfC qual scope s.heap.objs.size f cd) e) (λ_ s''=>CX outer H s E e s'') (λe' s''=>CX outer H s E e' s'') s'
def ED{sc:SV}(h:sc.names.lookup x=Qs .cell):∃c,(cellsFrom n sc.names []).lookup x=Qs c:=by have q:=Sf sc.names n [] (.inl h);exact Option.isSome_iff_exists.mp q
def Mp{CX:iG}{mg:Str->Qo OM}{f:Xl}{cd:OM}{A:Qq}{outer:Ql Env}{s1:OJ}{E:XK} (S:UN N ps scope) (hd:A.handled=Qn) (e0:YR P w K mg base A outer s H) (hl:vs.length=ps.length) (r:Vals vs us) (x:InCallC s s.heap.objs.size (bindL (envOfC qual scope s.heap.objs.size f cd).kindOf (ps.zip us) λ_=>Qn) (cellsFrom (s.heap.objs.size+1) scope.names []) (bindC (envOfC qual scope s.heap.objs.size f cd).kindOf (ps.zip us) λ_=>Qn) s1):Inv (jd CX P w K mg base N qual scope f cd A outer s H E) [] (start N vs) H s1:=by
 have Vl:ps.length<=N.length:=by have:=congrArg List.length S.pre;rw[List.length_take]at this;lia
 obtain⟨h1,tk,rfl,hk⟩:=x.done;have noA:∀b:Xl,b∉(jd CX P w K mg base N qual scope f cd A outer s H E).ex:=λb z=>absurd (show b∈([]:Ql Xl) from z) (by simp);refine⟨⟨e0.mod,S.kind,rfl,rfl,OL _,λy z c h1 h2=>?_,λy hy=>?_,λy c _ h=>?_,λ_=>hd,Around.frames_deeper e0.frames,.inr ⟨rfl,rfl⟩,λb z=>absurd z (noA b),e0.bs,e0.Xw,λb _ _=>noA b,λb z=>absurd z (noA b),e0.WB,e0.Yh,e0.tabs⟩,rfl,e0.bare,Un.kept hk,⟨_,x.toInCall.ns,λi y v h1 h2 h3=>?_⟩,λy c h=>⟨_,x.cell y c h⟩,e0.TY.fresh (OL _),λy c h=>?_,λp hp=>absurd (show p∈([]:Ql (Xl×Obj)) from hp) (by simp),e0.TY.kept hk,?_⟩
 .exact name_of_addr x.apart (PySem.mem_of_lookup h1) (PySem.mem_of_lookup h2)
 .have hy:scope.names.lookup y=Qs .cell\/scope.names.lookup y=Qs .free:=hy;rcases hy with hy|hy
  .exact ED hy
  .exact absurd rfl (S.zeT _ (PySem.mem_of_lookup hy))
 .exact Q7 (x.above y c (PySem.mem_of_lookup h))
 .have hi:i<vs.length:=by
   unfold start at h2;by_cases hi:i<vs.length
   .exact hi
   .rw[RE (by simpa using hi)]at h2;rw[R6]at h2;split at h2<;>cases h2
  have ha:vs[i]?=Qs v:=by
   unfold start at h2;rw[Qx (by simpa using hi),O1]at h2;cases e:vs[i]? with
   |none=>rw[e]at h2;cases h2
   |some a=>rw[e]at h2;cases h2;rfl
  obtain⟨u,hu,rv⟩:=r.get ha;have hp:ps[i]?=Qs y:=by rw[<-S.pre,List.getElem?_take_of_lt (by lia)];exact h1
  have ndP:ps.Nodup:=by rw[<-S.pre];exact S.nd.sublist (List.take_sublist _ _)
  refine⟨u,rv,?_⟩;rcases S.par y (Rp hp) with k|k
  .exact .inl ⟨k,EM ndP hp hu k⟩
  .obtain⟨c,e⟩:=ED (n:=s.heap.objs.size+1) k;refine .inr ⟨.inl k,c,e,?_⟩;have q:=x.cell y c e;rw[EO ndP hp hu (by show scope.names.lookup y≠_;rw[k];decide)]at q;exact q
 .exact e0.TY.fresh (Q7 (x.above y c (PySem.mem_of_lookup h)))
 .unfold start;show _=N.length;rw[O8,OI,Sr];lia
def MZ{CX:iG}{mg:Str->Qo OM}{k:Nat}{f:Xl}{params:Arguments}{dV kV doc pm T9 ct oc:OM}{an od:Qo Xl}
  {W0:Array (Qo OM)}{sp:Sp} (lk:K.lookup f=Qs ⟨oc,od,.func (PY name qual params body scope dV kV doc pm an T9 ct),W0⟩) (UI:Rn K T9 qual=Qt) (S:UN N ps scope) (len:∀vs H Q E,sp vs H Q E->vs.length=ps.length) (W9:∀(A:Qq) (outer:Ql Env) (s:OJ) (H:Hp) (vs:Ql V) (Q:VK) (E:XK),UP k (A.deeper (envOfC qual scope s.heap.objs.size f T9))->sp vs H Q E->∃t,Uu (jd CX P w K mg base N qual scope f T9 A outer s H E) body t/\t {nx:=λ_ H'=>Q .TX H',rt:=Q} (start N vs) H):Um P w K mg base CX (k+1) f (PY name qual params body scope dV kV doc pm an T9 ct) ps sp:=by
 refine⟨len,λA outer s H args us vs Q E hr e0 hb r X8=>?_⟩;have hl:=len _ _ _ _ X8;have KX:K.In s.heap:=e0.mod.ZF.keeps λb o e=>(e0.bs b o e).1;have lim:s.heap.NoLimit:=e0.mod.nolimit.keeps λb o e=>(e0.bs b o e).1;have zfT:∀y∈ps.zip us,scope.names.lookup y.1=Qs .local\/(scope.names.lookup y.1=Qs .cell/\((cellsFrom (s.heap.objs.size+1) scope.names []).lookup y.1).isSome=Qt):=λ⟨n,v⟩ hy=>by
  rcases S.par n (Sx hy).1 with q|q
  .exact .inl q
  .exact .inr ⟨q,Sf _ _ _ (.inl q)⟩
 refine codeAny_call_function hr.depth (KX _ _ lk) rfl S.co S.gen rfl (PySem.W.codeRec_of KX UI) (hb _ _ _ _ ?_);refine wpAny_newFunctionEnv_cells S.kind zfT λenv he s1 x=>?_;subst he;refine⟨lim.keeps x.toInCall.keep,codeAny_func ?_⟩;obtain⟨t,ht,hq⟩:=W9 A outer s H vs Q E (hr.deeper _) X8;have I:Inv (jd CX P w K mg base N qual scope f T9 A outer s H E) [] (start N vs) H s1:=Mp S hr.hd e0 hl r x;refine wpAny_mono (ht [] s1 (start N vs) H _ I hq) (λfl s' hs=>?_) λe s' hs=>hs;have fin:∀{σ':St}{H':Hp}{v:V}{u:OM},Inv (jd CX P w K mg base N qual scope f T9 A outer s H E) [] σ' H' s'->RelV v u->Q v H'->CE outer P w H s Q u s':=λ{σ' H' v u} J rv q=>⟨v,H',J.os,J.bare,J.base,J.TY,rv,q⟩
 cases fl with
 |ret u=>obtain⟨v,σ',H',J,rv,q⟩:=hs;exact fin J rv q
 |next=>obtain⟨σ',H',J,q⟩:=hs;exact fin (v:=V.TX) (u:=QS) J rfl q
 |brk=>obtain⟨_,_,_,q⟩:=hs;exact False.elim q
 |cont=>obtain⟨_,_,_,q⟩:=hs;exact False.elim q
end L2
variable{CX:L2.iG}{sp:L2.Sp}
namespace L2
open PySem.Spec
section
variable {p:Pos}{t:TA}{id:String}{r:Ql V->Hp->VK->Prop}
def GC(r:Ql V->Hp->VK->Prop)(t:TA):TE:=λσ H Q=>t σ H λvs H1=>r vs H1 Q
def JV(hc:gc X (.builtin id) r)(hg:Gl X x)(hm:X.mg x=Qn)(hv:bootBuiltins x=Qs (.builtin id))(ha:PA X (e::es) t)(hn:x≠"__name__":=by decide)(V3:UR x:=by decide) (he:OP (e::es) X.env=(Qf,eval e X.env)::OP es X.env:=by rfl) (Vl:(QJ pos (OP es X.env)).any (·.1)=Qf:=by rfl):PE X (.Call (.Name x p) (e::es) [] pos) (GC r t):=by intro pins s σ H Q I h;refine wpAny_Call_Name_kw (iR I hg hm hv ?_ hn V3);exact PyProof.Rows.callWith_builtin1 (aE (ha pos pins s σ H _ I h) λus s1 ⟨vs,H1,I1,r1,q1⟩=>hc pins s1 σ H1 vs us Q I1 r1 q1) he Vl
end
abbrev TO:=St->Hp->(Qo Int->Hp->Prop)->Prop
def tL{ns:Ql Int}:∀{us:Ql OM},Vals (ns.map V.int) us->IntsAre us ns:=by
 induction ns with
 |nil=>intro us r;rw[Rq]at r;cases r;exact .nil
 |cons n ns ih=>
  intro us r;rw[OF]at r;cases r with
  |cons r1 r2=>obtain⟨t,e⟩:=r1;subst e;exact .cons n t (ih r2)
def Vn(n:Nat)(i:Int):Qo Nat:=if 0<=i then(if i<n then Qs i.toNat else Qn) else if-(n:Int)<=i then Qs (i+n).toNat else Qn
def UO{α:Type}(xs:Ql α)(i:Int):Qo α:=(Vn xs.length i).bind λj=>xs[j]?
def C5{i:Int}(h:Vn n i=Qs j):seqIndex? i n=Qs j/\j<n/\-(n:Int)<=i/\i<n:=by
 unfold Vn at h;by_cases h0:0<=i
 .rw[S9 h0]at h;by_cases h1:i<n
  .rw[S9 h1]at h;have e:i.toNat=j:=O4 h;exact⟨by rw[seqIndex_of h0 h1,e],by lia,by lia,h1⟩
  .rw[Tr h1]at h;cases h
 .rw[Tr h0]at h;by_cases h1:-(n:Int)<=i
  .rw[S9 h1]at h;have e:(i+n).toNat=j:=O4 h;exact⟨by rw[seqIndex_neg (by lia) h1,e],by lia,h1,by lia⟩
  .rw[Tr h1]at h;cases h
def zx{α:Type}{xs:Ql α}{i:Int}{v:α}(h:UO xs i=Qs v):∃j,seqIndex? i xs.length=Qs j/\xs[j]?=Qs v/\j<xs.length/\-(xs.length:Int)<=i/\i<xs.length:=by
 unfold UO at h;rcases e:Vn xs.length i with _|j
 .rw[e]at h;cases h
 rw[e]at h;obtain⟨h1,h2,h3,h4⟩:=C5 e;exact⟨j,h1,h,h2,h3,h4⟩
def pY(b:Xn):Prop:=∀o i,subscripted b Qf o i=operate [o,i] (getItem o i)
def YO(X:Cx)(r:R2):Prop:=∀(value slice:Xn) (pins:Ql (Xl×Obj)) (s:OJ) (σ:St) (H:Hp) (x y:V) (v u:OM) (Q:VK),Inv X pins σ H s->RelV x v->RelV y u->r x y H Q->subscripted slice Qf v u=operate [v,u] (getItem v u)->wpAny (model X.prog X.w) X.A (subscriptTail value slice v u) (EP X pins σ Q) X.xe s
def Of(X:Cx)(id:String)(r:V->Ql V->Hp->VK->Prop):Prop:=∀(pins:Ql (Xl×Obj)) (s:OJ) (σ:St) (H:Hp) (x:V) (xs:Ql V) (v:OM) (us:Ql OM) (Q:VK),Inv X pins σ H s->RelV x v->Vals xs us->r x xs H Q->wpAny (model X.prog X.w) X.A (call (.builtin id) (v::us)) (EP X pins σ Q) X.xe s
section
def YO.or{r r':R2}(h:YO X r)(h':YO X r'):YO X (λx y H Q=>r x y H Q\/r' x y H Q):=by
 intro value slice pins s σ H x y v u Q I rx ry q hs;rcases q with q|q
 .exact h value slice pins s σ H x y v u Q I rx ry q hs
 .exact h' value slice pins s σ H x y v u Q I rx ry q hs
def sH{r:R2}(hr:YO X r)(ha:PE X a ta)(hb:PE X b tb)(hs:pY b):PE X (.Subscript a b pos) (Gk r ta tb):=by intro pins s σ H Q I h;exact Subscript_ (N1 ha hb I h λv u s2 x y H2 I2 rx ry q=>hr a b pins s2 σ H2 x y v u Q I2 rx ry q (hs _ _))
def oj(K:Ou):R2:=λx y H Q=>∃p xs i v,x=.ref p/\y=.int i/\TZ K H p xs/\UO xs i=Qs v/\Q v H
def rX(K:Ou):R2:=λx y H Q=>∃p xs i v,x=.ref p/\y=.int i/\UA K H p xs/\UO xs i=Qs v/\Q v H
def zaq:YO X (oj X.K):=by
 intro value slice pins s σ H x y v u Q I rx ry h hs;obtain⟨p,xs,i,z,rfl,rfl,hq,he,q⟩:=h;cases rx;obtain⟨t,rfl⟩:=ry;obtain⟨TH,r,pl,hz⟩:=I.list hq;obtain⟨j,h1,h2,h3,h4,h5⟩:=zx he;obtain⟨w,ew,VI⟩:=r.get h2;have hl:=r.length;have hn:=lu;have fin:EP X pins σ Q w s:=⟨z,H,I,VI,q⟩;by_cases h0:0<=i
 .have hj:i.toNat=j:=by rw[seqIndex_of h0 h5]at h1;exact O4 h1
  exact item_listR pl.isList h0 (by lia) (by rw[hj];simpa using ew) fin hs
 .have hj:(i+(TH.toArray.size:Int)).toNat=j:=by rw[seqIndex_neg (by lia) h4]at h1;rw[OV,<-hl];exact O4 h1
  exact subscriptTail_builtinR (x:=w) pl.isList.typeIs slot_list_getitem.lookup (wpAny_getItem_list_neg (Q:=λr s'=>r=w/\EP X pins σ Q r s') pl.isList (by lia) (by rw[OV]<;>lia) (by lia) (by rw[hj];simpa using ew) ⟨rfl,fin⟩) hs
def xA:YO X (rX X.K):=by
 intro value slice pins s σ H x y v u Q I rx ry h hs;obtain⟨p,xs,i,z,rfl,rfl,hq,he,q⟩:=h;cases rx;obtain⟨t,rfl⟩:=ry;obtain⟨TH,r,pl,hz⟩:=I.tuple hq;obtain⟨j,h1,h2,h3,h4,h5⟩:=zx he;obtain⟨w,ew,VI⟩:=r.get h2;have hl:=r.length;have hn:=lu;have fin:EP X pins σ Q w s:=⟨z,H,I,VI,q⟩;exact subscriptTail_builtinR (x:=w) pl.typeIs slot_tuple_getitem.lookup (getItem_tuple (j:=j) (Q:=λr s'=>r=w/\EP X pins σ Q r s') pl (by lia) (by lia) (by rw[OV,<-hl];exact h1) (by simpa using ew) ⟨rfl,fin⟩) hs
def Lv(TH:Ql OM)(n j:Nat)(u:OM):Obj.mapSeq (·.setIfInBounds j u) { cls:=.type "list",data:=.seq TH.toArray n }={ cls:=.type "list",data:=.seq (TH.set j u).toArray n }:=by simp[Obj.mapSeq]
def Inv.lst{pins:Ql (Xl×Obj)}{σ:St}{H:Hp}{s:OJ}{p:Xl}{xs:Ql V}(I:Inv X pins σ H s)(h:H p=Qs (.lst xs)):∃(TH:Ql OM) (n:Nat),Vals xs TH/\s.heap.get? p=Qs {cls:=.type "list",data:=.seq TH.toArray n}/\xs.length<=O3:=by obtain⟨z,TH,n,r,e⟩:=I.TY p _ h;exact⟨TH,n,r,e,z⟩
def Inv.ze6{σ:St}{its':Ql OM}{n':Nat}{f:Obj->Obj}(I:Inv X pins σ H s)(h:H p=Qs (.lst xs))
  (ho:s.heap.get? p=Qs { cls:=.type "list",data:=.seq TH.toArray n }) (hf:f { cls:=.type "list",data:=.seq TH.toArray n }={ cls:=.type "list",data:=.seq its'.toArray n' }) (r:Vals ys its') (hz:ys.length<=O3) (t:Nat) :Inv X pins σ (upd H p (.lst ys)) { s with heap:=s.heap.update p f,toks:=t }:=by
 have e:(s.heap.update p f).get? p=Qs { cls:=.type "list",data:=.seq its'.toArray n' }:=by rw[Rk f ho (by rw[hf]<;>rfl),hf]
 refine I.write (x:=p) (e:=p) (by rw[h];trivial) (.inl rfl) (λb u hb q=>(PD _ _ (Ne.symm hb)).trans q) ⟨_,e⟩ ?_;exact⟨hz,its',n',r,e⟩
def Ia:V->V->V->Hp->(Hp->Prop)->Prop:=λo i v H Q=>∃p xs k j,o=.ref p/\i=.int k/\H p=Qs (.lst xs)/\Vn xs.length k=Qs j/\Q (upd H p (.lst (xs.set j v)))
def rG:uA X Ia:=by
 intro pins s σ H o i v ov iv u Q I ro ri rv h;obtain⟨p,xs,k,j,rfl,rfl,hp,hj,q⟩:=h;cases ro;obtain⟨t,rfl⟩:=ri;obtain⟨TH,n,r,ho,hz⟩:=I.lst hp;obtain⟨h1,h2,h3,h4⟩:=C5 hj;have hl:=r.length;have hn:=lu;have I':Inv X pins σ (upd H p (.lst (xs.set j v))) { s with heap:=s.heap.update p (Obj.mapSeq (·.setIfInBounds j u)) } :=I.ze6 hp ho (Lv TH n j u) (r.set rv j) (by rw[RF];exact hz) s.toks
 by_cases h0:0<=k
 .have hk:k.toNat=j:=by rw[seqIndex_of h0 h4]at h1;exact O4 h1
  exact PySem.W.ki_setAt ho h0 (by lia) (by rw[OV, <-hl];exact h4) (by rw[hk];exact⟨_,I',q⟩)
 .have hk:(k+(TH.toArray.size:Int)).toNat=j:=by rw[seqIndex_neg (by lia) h3]at h1;rw[OV, <-hl];exact O4 h1
  exact PySem.W.ki_setBack ho (by lia) (by rw[OV, <-hl];exact h3) (by lia) (by rw[hk];exact⟨_,I',q⟩)
def dv:V->Bool
 |.TX=>Qt
 |.bl _=>Qt
 |.int _=>Qt
 |.str _=>Qt
 |_=>Qf
def gw(x y:V):Bool:=match x with
 |.TX=>(match y with|.TX=>Qt|_=>Qf)
 |.bl a=>(match y with|.bl b=>a==b|.int b=>(if a then 1 else 0)==b|_=>Qf)
 |.int a=>(match y with|.bl b=>a==(if b then 1 else 0)|.int b=>a==b|_=>Qf)
 |.str a=>(match y with|.str b=>a==b|_=>Qf)
 |_=>Qf
def yO{A:Qq}{x:V}{v:OM}(ry:RelV y u)(rx:RelV x v)(fy:dv y=Qt)(fx:dv x=Qt):SeqAt.EqAt A s u v (gw y x):=by
 cases y with
 |TX=>
  cases ry;cases x with
  |TX=>cases rx;exact SeqAt.EqAt.same _
  |bl b=>cases rx;exact SeqAt.EqAt.none_bool b
  |int b=>obtain⟨t,rfl⟩:=rx;exact SeqAt.EqAt.none_int b t
  |str b=>obtain⟨t,rfl⟩:=rx;exact SeqAt.EqAt.none_str b t
  |_=>exact absurd (show Qf=Qt from fx) OD
 |bl a=>
  cases ry;cases x with
  |TX=>cases rx;exact SeqAt.EqAt.bool_none a
  |bl b=>cases rx;exact SeqAt.EqAt.bool_bool a b
  |int b=>obtain⟨t,rfl⟩:=rx;exact SeqAt.EqAt.bool_int a b t
  |str b=>obtain⟨t,rfl⟩:=rx;exact SeqAt.EqAt.bool_str a b t
  |_=>exact absurd (show Qf=Qt from fx) OD
 |int a=>
  obtain⟨t',rfl⟩:=ry;cases x with
  |TX=>cases rx;exact SeqAt.EqAt.int_none a t'
  |bl b=>cases rx;exact SeqAt.EqAt.int_bool a t' b
  |int b=>obtain⟨t,rfl⟩:=rx;exact SeqAt.EqAt.int_int a t' b t
  |str b=>obtain⟨t,rfl⟩:=rx;exact SeqAt.EqAt.int_str a t' b t
  |_=>exact absurd (show Qf=Qt from fx) OD
 |str a=>
  obtain⟨t',rfl⟩:=ry;cases x with
  |TX=>cases rx;exact SeqAt.EqAt.str_none a t'
  |bl b=>cases rx;exact SeqAt.EqAt.str_bool a t' b
  |int b=>obtain⟨t,rfl⟩:=rx;exact SeqAt.EqAt.str_int a t' b t
  |str b=>obtain⟨t,rfl⟩:=rx;exact SeqAt.EqAt.str_str a t' b t
  |_=>exact absurd (show Qf=Qt from fx) OD
 |_=>exact absurd (show Qf=Qt from fy) OD
def jN(x:V)(u:OM):Bool:=match u with
 |.none=>gw .TX x
 |.bool b=>gw (.bl b) x
 |.int i _=>gw (.int i) x
 |.str z _=>gw (.str z) x
 |_=>Qf
def D8{x:V}(r:RelV y u)(f:dv y=Qt):jN x u=gw y x:=by
 cases y with
 |TX=>cases r;rfl
 |bl b=>cases r;rfl
 |int i=>obtain⟨t,rfl⟩:=r;rfl
 |str z=>obtain⟨t,rfl⟩:=r;rfl
 |_=>exact absurd (show Qf=Qt from f) OD
def zB{x:V}:∀{xs:Ql V}{us:Ql OM},Vals xs us->xs.all dv=Qt->us.any (jN x)=xs.any λy=>gw y x
 |_,_,.nil,_=>rfl
 |y::xs,u::us,.cons r t,f=>by rw[PN,OH]at f;rw[Qh,Qh,D8 r f.1,zB t f.2]
def xc{A:Qq}{s:OJ}{x:V}{v:OM}(rx:RelV x v)(fx:dv x=Qt):∀{xs:Ql V}{us:Ql OM},Vals xs us->xs.all dv=Qt->∀u∈us,SeqAt.EqAt A s u v (jN x u)
 |_,_,.nil,_=>λu hu=>by cases hu
 |y::xs,u::us,.cons r t,f=>λu' hu=>by
  rw[PN,OH]at f;rcases OC.mp hu with rfl|hu
  .rw[D8 r f.1];exact yO r rx f.1 fx
  .exact xc rx fx t f.2 u' hu
def jH(x:V)(xs:Ql V):Bool:=xs.any λy=>gw y x
def Ie(K:Ou)(neg:Bool):R2:=λx y H Q=>∃p xs,y=.ref p/\(TZ K H p xs\/UA K H p xs)/\dv x=Qt/\xs.all dv=Qt/\Q (.bl (if neg then !jH x xs else jH x xs)) H
def BM:eh X (compareOp .NotIn) (Ie X.K Qt):=by
 intro pins s σ H x y v u Q I rx ry h;obtain⟨p,xs,rfl,hq,fx,fs,q⟩:=h;cases ry;rcases hq with hq|hq
 .obtain⟨TH,r,pl,hz⟩:=I.list hq;refine SeqAt.notIn_listAt (jN x) pl.isList (λw hw=>xc rx fx r fs w (by simpa using hw)) ⟨.bl _,H,I,rfl,?_⟩;rw[show TH.toArray.any (jN x)=TH.any (jN x) by simp,zB r fs];exact q
 .obtain⟨TH,r,pl,hz⟩:=I.tuple hq;refine SeqAt.notIn_tupleAt (jN x) pl (λw hw=>xc rx fx r fs w (by simpa using hw)) ⟨.bl _,H,I,rfl,?_⟩;rw[show TH.toArray.any (jN x)=TH.any (jN x) by simp,zB r fs];exact q
def NP:gc X (.builtin "len") (λxs H Q=>∃p ys,xs=[.ref p]/\(TZ X.K H p ys\/UA X.K H p ys)/\Q (.int ys.length) H):=by
 intro pins s σ H xs us Q I r h;obtain⟨p,ys,rfl,hq,q⟩:=h;obtain⟨u,rfl,rx⟩:=j3 r;cases rx;have hn:=lu;rcases hq with hq|hq
 .obtain⟨TH,r',pl,hz⟩:=I.list hq;have hlen:=r'.length;exact Calls.call_len_list pl.isList (by simp only[OV]<;>lia) ⟨.int ys.length,H,I.tok _,⟨s.toks+1,by rw[OV,hlen]⟩,q⟩
 .obtain⟨TH,r',pl,hz⟩:=I.tuple hq;have hlen:=r'.length;exact len_tuple pl (by simp only[OV]<;>lia) ⟨.int ys.length,H,I.tok _,⟨s.toks+1,by rw[OV,hlen]⟩,q⟩
def NO:gc X (.type "list") (λxs H Q => ∃p ys,xs=[.ref p]/\(TZ X.K H p ys\/UA X.K H p ys)/\∀l,H l=Qn->Q (.ref l) (upd H l (.lst ys))):=by
 intro pins s σ H xs us Q I r h;obtain⟨p,ys,rfl,hq,q⟩:=h;obtain⟨u,rfl,rx⟩:=j3 r;cases rx;have fin:∀(TH:Ql OM),Vals ys TH->ys.length<=O3->∀(h':Xm) (c':Nat),(∀b o',s.heap.get? b=Qs o'->h'.get? b=Qs o') ->h'.get? s.heap.objs.size=Qs { cls:=.type "list",dict:=Qn,data:=.seq TH.toArray c',slots := #[] }->EP X pins σ Q (.ref s.heap.objs.size) { s with heap:=h' }:=λTH r' hz h' c' kp e =>
  ⟨.ref s.heap.objs.size,_,I.laid (t':=s.toks) kp (OL _) (show U5 X.prog X.w _ h' _ (.lst ys) from⟨hz,TH,c',r',e⟩),rfl,q _ (I.TY.fresh (OL _))⟩
 rcases hq with hq | hq
 .obtain⟨TH,r',pl,hz⟩:=I.list hq;have hlen:=r'.length;obtain⟨o,ho,hc,n,hd⟩:=pl.isList;exact call_list_seq p (.inl rfl) ho hc hd (λh' c' kp e=>fin TH r' hz h' c' kp e) (by simp only[OV]<;>lia)
 .obtain⟨TH,r',pl,hz⟩:=I.tuple hq;have hlen:=r'.length;obtain⟨o,ho,hc,n,hd⟩:=pl;exact call_list_seq p (.inr rfl) ho hc hd (λh' c' kp e=>fin TH r' hz h' c' kp e) (by simp only[OV]<;>lia)
def Aa(K:Ou)(T:String)(x:V)(H:Hp):Prop:=match x with
 |.str _=>T= "str"
 |.int _=>T= "int"
 |.ref p=>(T= "list"/\∃xs,TZ K H p xs)\/(T= "tuple"/\∃o,K.lookup p=Qs o/\o.cls=.type "tuple"/\o.dict=Qn) \/ (T= "dict"/\((∃kvs,H p=Qs (.dK kvs))\/∃kvs,H p=Qs (.dT kvs)))\/(T= "set"/\∃S n,H p=Qs (.set S n))
 |_=>False
def FH{σ:St}{x:V}{v:OM}(I:Inv X pins σ H s)(r:RelV x v)(ty:Aa X.K T x H):s.TypeIs v T/\∀a,v=.ref a->∃ob,s.heap.get? a=Qs ob/\ob.dict=Qn:=by
 cases x with
 |str z=>obtain⟨t,rfl⟩:=r;cases(show T= "str" from ty);exact⟨typeIs_str s z t,λ_ e=>nomatch e⟩
 |int i=>obtain⟨t,rfl⟩:=r;cases(show T= "int" from ty);exact⟨typeIs_int s i t,λ_ e=>nomatch e⟩
 |ref p=>
  cases r;rcases ty with⟨rfl,xs,hq⟩|⟨rfl,o,hk,hc,hd⟩|⟨rfl,hk⟩|⟨rfl,S,n,hk⟩
  .obtain⟨TH,_,pl,_⟩:=I.list hq;refine⟨pl.isList.typeIs,λa e=>?_⟩;cases e;obtain⟨o,n,e,c,hd,_⟩:=pl;exact⟨o,e,hd⟩
  .refine⟨⟨o,I.Vf p o hk,hc⟩,λa e=>?_⟩;cases e;exact⟨o,I.Vf _ o hk,hd⟩
  .have z:∃o,s.heap.get? p=Qs o/\o.ExactDict:=by
    rcases hk with⟨kvs,hk⟩|⟨kvs,hk⟩
    .obtain⟨_,_,_,_,o,_,_,e,ex,_⟩:=I.TY p _ hk;exact⟨o,e,ex⟩
    .obtain⟨_,_,_,_,o,_,_,e,ex,_⟩:=I.TY p _ hk;exact⟨o,e,ex⟩
   obtain⟨o,e,ex⟩:=z;refine⟨⟨o,e,ex.1⟩,λa e2=>?_⟩;cases e2;exact⟨o,e,ex.2.1⟩
  .obtain⟨o,_,_,_,e,ex,_⟩:=I.TY p _ hk;refine⟨⟨o,e,ex.1⟩,λa e2=>?_⟩;cases e2;exact⟨o,e,ex.2.1⟩
 |_=>exact False.elim ty
def GD(K:Ou)(T:String)(r:V->Ql V->Hp->VK->Prop)(to:TE)(t:TA):TE:=λσ H Q=>to σ H λx H1=>Aa K T x H1/\t σ H1 λxs H2=>r x xs H2 Q
variable {to:TE}{t:TA}{id:String}{r:V->Ql V->Hp->VK->Prop}
def wK(pa:PlainAttrs T)(slot:Slot T name id)(hty:typeOf (.builtin id)=pure (.type "method_descriptor"))(hm:Of X id r)(ho:PE X o to)(ha:PA X (e::es) t) (YC:attributeBase o name X.env (eval o X.env)=eval o X.env:=by rfl) (Yy:((QJ Uw (OP (e::es) X.env)).all (λx=>!x.1)&&(backToKw Uw (keywordEach [] X.env)).all (λx=>x.1.isSome)
   && decide ((e::es).length+([]:Ql SW).length+(if([]:Ql SW).isEmpty then 0 else 1)<30))=Qt:=by rfl) (Yw:(apos.endLine==Uw.line)=Qt:=by rfl) (hs:OP (e::es) X.env=(Qf,eval e X.env)::OP es X.env:=by rfl) (Yu:(QJ Uw (OP es X.env)).any (·.1)=Qf:=by rfl):PE X (.Call (.Attribute o name apos) (e::es) [] Uw) (GD X.K T r to t):=by intro pins s σ H Q I h;refine wpAny_Call_method_late YC Yy Yw rfl (aE (ho pins s σ H _ I h) λv s1 ⟨x,H1,I1,r1,ty,q1⟩=>?_);obtain⟨h1,h2⟩:=FH I1 r1 ty;refine⟨T,id,pa,slot,hty,h1,h2,?_⟩;have hA:=ha Uw pins s1 σ H1 _ I1 q1;rw[hs]at hA ⊢;refine Calls.callWith_builtin (by show(Qf||(QJ Uw (OP es X.env)).any (·.1))=Qf;rw[Yu]<;>rfl) (Calls.evalArgs_plain ?_);exact aE hA λus s2 ⟨vs,H2,I2,r2,q2⟩=>hm pins s2 σ H2 x vs v us Q I2 r1 r2 q2
end
def Og(X:Cx)(id:String)(r:V->Ql V->Hp->VK->Prop):Prop:=∀(pins:Ql (Xl×Obj)) (s:OJ) (σ:St) (H:Hp) (x:V) (xs:Ql V) (v:OM) (us:Ql OM) (Q:VK),Inv X pins σ H s->RelV x v->Vals xs us->r x xs H Q->wpAny (model X.prog X.w) X.A (call (.builtin id) (v::us)) (EP X pins σ Q) X.xe s
def Vals.one:∀{x:V}{us:Ql OM},Vals [x] us->∃u,us=[u]/\RelV x u
 |_,_,.cons r .nil=>⟨_,rfl,r⟩
def Vals.two:∀{x y:V}{us:Ql OM},Vals [x,y] us->∃u v,us=[u,v]/\RelV x u/\RelV y v
 |_,_,_,.cons r (.cons q .nil)=>⟨_,_,rfl,r,q⟩
def Vals.reverse{xs:Ql V}{us:Ql OM}(h:Vals xs us):Vals xs.reverse us.reverse:=by
 induction h with
 |nil=>exact .nil
 |cons r t ih=>rw[Rf,Rf];exact Vals.append ih (.cons r .nil)
def Vals.rep{xs:Ql V}{us:Ql OM}(h:Vals xs us):∀k:Nat,Vals (OR k xs).flatten (OR k us).flatten
 |0=>.nil
 |k+1=>by rw[PZ,PZ,QV,QV];exact Vals.append h (Vals.rep h k)
def D1(TH:Ql OM):∀(k:Nat) (acc:Ql OM),Ut (λx1 x2=>x1++x2) acc.toArray (OR k TH.toArray)=(acc++(OR k TH).flatten).toArray
 |0,acc=>by simp
 |k+1,acc=>by
  have e:acc.toArray++TH.toArray=(acc++TH).toArray:=by simp
  have e2:(acc++TH)++(OR k TH).flatten=acc++(OR (k+1) TH).flatten:=by rw[PZ,QV,Pm]
  rw[<-e2,<-D1 TH k (acc++TH),<-e,PZ,RG]
section
variable {σ:St}{b:Xl}{zs:Ql V}
def Inv.ze7{its':Ql OM}{f:Array OM->Array OM}(I:Inv X pins σ H s)(hH:H l=Qs (.lst xs))
  (e:s.heap.get? l=Qs { cls:=.type "list",data:=.seq TH.toArray n }) (hf:f TH.toArray=its'.toArray) (hv:Vals ys its') (hz:ys.length<=O3) :Inv X pins σ (upd H l (.lst ys)) { s with heap:=s.heap.update l (Obj.mapSeq f),toks:=t' }:=by have q:=PySem.IsL.update e f;rw[hf]at q;refine I.write (x:=l) (e:=l) (by rw[hH];exact trivial) (.inl rfl) (λb' u hb hu=>(PD s.heap (Obj.mapSeq f) (Ne.symm hb)).trans hu) ⟨_,q⟩ ?_;exact⟨hz,its',_,hv,q⟩
def Inv.za7 (I:Inv X pins σ H s)(hv:Vals ys TH)(hz:ys.length<=O3) :Inv X pins σ (upd H s.heap.objs.size (.lst ys)) { s with heap:=s.heap.push { cls:=.type "list",data:=.seq TH.toArray },toks:=t' } :=I.laid (λ_ _ q=>OA _ q) (OL _) ⟨hz,TH,0,hv,OU _ rfl⟩
def Inv.fresh(I:Inv X pins σ H s):H s.heap.objs.size=Qn:=I.TY.fresh (OL _)
def Inv.zcP(I:Inv X pins σ H s)(hH:H l=Qs (.lst xs)):xs.length<=O3/\∃(TH:Ql OM) (n:Nat),Vals xs TH/\xs.length=TH.length/\s.heap.get? l=Qs {cls:=.type "list",data:=.seq TH.toArray n}:=by obtain⟨z,TH,n,r,e⟩:=I.TY l _ hH;exact⟨z,TH,n,r,r.length,e⟩
def K8 (h:n<=O3):Builtin.List.listTooLong n=Qf:=by unfold Builtin.List.listTooLong;exact UJ (by lia)
end
def Ih:V->Ql V->Hp->VK->Prop:=λx vs H Q=>∃l xs y,x=.ref l/\vs=[y]/\H l=Qs (.lst xs)/\xs.length<O3/\Q .TX (upd H l (.lst (xs++[y])))
def sQ:Og X "list.append" Ih:=by intro pins s σ H x vs v us Q I rx rv h;obtain⟨l,xs,y,rfl,rfl,hH,hz,q⟩:=h;cases rx;obtain⟨u,rfl,ru⟩:=rv.one;obtain⟨z,TH,n,r,hl,e⟩:=I.zcP hH;refine call_meets QB ⟨_,e,rfl⟩ PySem.F.entry_list_append (PySem.F.args_list_append_2 _ _) (PySem.list_append l TH.toArray n u (by rw[OV];lia)) ⟨e,?_⟩;refine⟨.TX,_,I.ze7 (its':=TH++[u]) hH e (by simp) (r.append (.cons ru .nil)) ?_,rfl,q⟩;rw[O8,Qd];lia
def Ib:R2:=λx y H Q=>∃l k xs,x=.ref l/\y=.int k/\H l=Qs (.lst xs)/\-(2^63)<=k/\k<2^63/\xs.length*k.toNat<=O3/\∀p,H p=Qn->Q (.ref p) (upd H p (.lst (OR k.toNat xs).flatten))
def LO{α:Type}(xs:Ql α)(k:Nat):(OR k xs).flatten.length=k*xs.length:=by
 induction k with
 |zero=>simp
 |succ k ih=>rw[PZ,QV,O8,ih,U0,Nat.add_comm]
def J2:eh X (binaryOp .Mult) Ib:=by
 intro pins s σ H x y v u Q I rx ry h;obtain⟨l,k,xs,rfl,rfl,hH,h1,h2,hz,q⟩:=h;cases rx;obtain⟨t,rfl⟩:=ry;obtain⟨z,TH,n,r,hl,e⟩:=I.zcP hH;have hlen:TH.toArray.size*k.toNat<=O3:=by rw[OV,<-hl];exact hz
 have Vo:¬TH.toArray.size*k.toNat>(2^63-1)/8:=by
  have:(O3:Nat)<=(2^63-1)/8:=by decide
  lia
 have zf4:¬(!Builtin.List.listFitsIndex k)=Qt:=by rw[fitsIndex_both h1 h2];exact OD
 have zfP:¬Builtin.List.listTooLong (TH.toArray.size*k.toNat)=Qt:=by rw[K8 hlen];exact OD
 have zfG:Ut (λx1 x2=>x1++x2) #[] (OR (if TH.toArray.isEmpty=Qt then 0 else k.toNat) TH.toArray)=(OR k.toNat TH).flatten.toArray:=by
  have f0:∀m:Nat,Ut (λx1 x2=>x1++x2) #[] (OR m TH.toArray)=(OR m TH).flatten.toArray:=λm=>by have:=D1 TH m [];rw[RH]at this;exact this
  rw[f0];cases TH with
  |nil=>simp
  |cons a r'=>rw[Tr (by simp)]
 refine wpAny_binaryOp_repeat_ref (T:= "list") (U:= "int") (by decide) ⟨_,e,rfl⟩ (λs'=>typeIs_int s' k t) noFill_list_mul PySem.F.fills_int_mul Ss repeat_list PySem.F.slot_int_index.lookup (call_meets Ss (typeIs_int s k t) PySem.F.entry_int_rmul (PySem.F.args_int_rmul_2 _ _) (int___rmul___int_list k t l TH.toArray n)
   ⟨e,rfl,⟨_,e,rfl⟩,call_meets PySem.F.slot_list_mul ⟨_,e,rfl⟩ PySem.F.entry_list_mul (PySem.F.args_list_mul_2 _ _) (AutoListH.list___mul___list_int_3 l TH.toArray n k t zf4 Vo zfP) ⟨e,?_⟩⟩)
 rw[zfG];exact⟨.ref _,_,I.za7 (t':=s.toks) (r.rep k.toNat) (by rw[LO,SF];exact hz),rfl,q _ I.fresh⟩
end L2
namespace Att
open PySem.W PySem.Calls
theorem Mq{P:Params}:∀(ns:Ql Int) (vs:Ql OM),WellAll P h vs (ns.map WData.int)->IntsAre vs ns:=by
 intro ns
 induction ns with
 |nil=>intro vs w;rw[Rq]at w;cases w;exact .nil
 |cons n ns ih=>
  intro vs w;rw[OF]at w;cases w with
  |cons a b=>cases a;exact .cons _ _ (ih _ b)
theorem zer{l:OpenLaw}(hn:l.most=Qs n){P:Params}{args:Ql WData}{vals:Ql OM}
  (zau:l.row.toRowW.claim.pre args=Qt) (Y7:WellAll P h vals args) :∃a vs ns,vals=[OY a]/\args=[WData.list (ns.map WData.int)]/\h.get? a=Qs { cls:=.type "list",data:=.seq vs.toArray }/\IntsAre vs ns/\ns.length<=n:=by
 have hsh:WShape.hasAll [] args [.list .int]=Qt:=(pre_splitW zau).1;have hc:l.pre.holds [] { args:=args }=Qt:=(pre_splitW zau).2;obtain⟨d,r,rfl,h1,h2⟩:=hasAllW_cons hsh;obtain rfl:=hasAllW_nil h2;obtain⟨xs,rfl,h3⟩:=hasW_list h1;obtain⟨ns,rfl⟩:=items_int h3;have hlen:ns.length<=n:=by
  unfold OpenLaw.pre at hc;have h4:(WTm.not (.lt (.lit (.int (n:Int))) (.len (.arg 0)))).holds [] { args:=[.list (ns.map .int)] }=Qt:=by have h4:=(holds_andW hc).1;rw[hn]at h4;exact h4
  have h5:=condW_of h4 (w_not (w_lt w_lit (w_len_list (w_arg rfl))));rw[OI]at h5;refine Nat.le_of_not_lt λq=>?_;have q':(n:Int)<((ns.length:Nat):Int):=by lia
  first
   |(rw[Uc q']at h5;exact absurd h5 (by decide))
   |(simp at h5;lia)
 cases Y7 with
 |cons w1 w2 =>
  cases w2;cases w1 with
  |list ho Yg=>exact⟨_,_,ns,rfl,rfl,ho,Mq ns _ Yg,hlen⟩
theorem zeL(l:OpenLaw)(args:Ql WData):l.row.toRowW.claim.post args (.bool Qt) args=Qt :=postW_of (r:=l.row.toRowW) (X:=(Qt == Qt))
  (show WShape.has [] (.bool Qt) .bool=Qt by first | rfl | decide | simp[WShape.has,WShape.arms,WShape.armsAll])
  (show(WTm.eq .res (.lit (.bool Qt))).value [] { args:=args,res:=Qs (.bool Qt),after:=args }=Qs (.bool (Qt == Qt)) from w_eq_bool (w_res rfl) w_lit) rfl
end Att
namespace L2
open PySem.Spec
def qZ:∀{vs:Ql OM}{ns:Ql Int},IntsAre vs ns->Vals (ns.map V.int) vs
 |_,_,.nil=>.nil
 |_,_,.cons n t h=>.cons ⟨t,rfl⟩ (qZ h)
def gJ(s:Xo):Arguments:=match s with
 |.FunctionDef _ a _ _ _ _ _ _ _ _=>a
 |_=>{posonlyargs:=[],args:=[],vararg:=Qn,kwonlyargs:=[],kw_defaults:=[],kwarg:=Qn,defaults:=[]}
def eQ(s:Xo):Ql Xo:=match s with
 |.FunctionDef _ _ b _ _ _ _ _ _ _=>b
 |_=>[]
def aY(s:Xo):SV:=match s with
 |.FunctionDef _ _ _ _ _ _ sc _ _ _=>sc
 |_=>{kind:=.function,names:=[],isGenerator:=Qf,isCoroutine:=Qf}
abbrev bg:iG:=λ_ _ _ _ _ _=>False
abbrev E0:XK:=λ_ _ _=>False
def k6:lU bg X E0:=λ_ _ _ _ _ _ _ h=>h.elim
structure UB(K:Ou)(x qual:Str)(st:Xo)(f:Xl)(fd:PX):Prop where
 ex:∃(oc:OM) (od:Option Xl) (kV doc pm:OM) (an:Option Xl) (T9 ct:OM) (W0:Array (Option OM)),fd=PY x qual (gJ st) (eQ st) (aY st) .none kV doc pm an T9 ct/\K.lookup f=Qs ⟨oc,od,.func fd,W0⟩/\Rn K T9 qual=Qt
 kp:PV K (.ref f)=Qt
section
variable {mg:Str->Qo OM}
def UB.ok{f:Xl}{k:Nat}(F:UB K x qual st f fd)(S:UN N ps (aY st))(len:∀vs H Q E,sp vs H Q E->vs.length=ps.length) (W9:∀(T9:OM) (A:Qq) (outer:Ql Env) (s:OJ) (H:Hp) (vs:Ql V) (Q:VK) (E:XK),UP k (A.deeper (envOfC qual (aY st) s.heap.objs.size f T9))->sp vs H Q E->∃t,Uu (jd bg P w K mg base N qual (aY st) f T9 A outer s H E).X5 (eQ st) t/\t {nx:=λ_ H'=>Q .TX H',rt:=Q} (start N vs) H):Um P w K mg base bg (k+1) f fd ps sp:=by obtain⟨oc,od,kV,doc,pm,an,T9,ct,W0,rfl,lk,UI⟩:=F.ex;refine MZ lk UI S len λA outer s H vs Q E hr X8=>?_;obtain⟨t,h,q⟩:=W9 T9 A outer s H vs Q E hr X8;exact⟨t,h.X5,q⟩
def UB.binds{f:Xl}(F:UB K x qual st f fd) (h:∀(kV doc pm:OM) (an:Qo Xl) (T9 ct:OM) (us:Ql OM),us.length=ps.length->bindArgs (PY x qual (gJ st) (eQ st) (aY st) .none kV doc pm an T9 ct) ⟨us,[]⟩=pure (ps.zip us)):Binds K fd ps []:=by obtain⟨oc,od,kV,doc,pm,an,T9,ct,W0,rfl,lk,UI⟩:=F.ex;exact .all (h kV doc pm an T9 ct)
def DK{f:Xl}{oc:OM}{od an:Qo Xl}{W0:Array (Qo OM)}{kV doc pm T9 ct:OM}(l:K.lookup f=Qs ⟨oc,od,.func (PY x qual (gJ st) (eQ st) (aY st) .none kV doc pm an T9 ct),W0⟩) (c:Rn K T9 qual=Qt) (k:PV K (.ref f)=Qt):UB K x qual st f (PY x qual (gJ st) (eQ st) (aY st) .none kV doc pm an T9 ct):=⟨⟨oc,od,kV,doc,pm,an,T9,ct,W0,rfl,l,c⟩,k⟩
end
def oW{A B:Prop}(h:B):if Qf=Qt then A else B:=by rw[Tr OD];exact h
def oV{A B:Prop}(h:A):if Qt=Qt then A else B:=by rw[S9 rfl];exact h
def Tj(H H':Hp):Prop:=∀b o,H b=Qs o->H' b=Qs o
def Tj.refl(H:Hp):Tj H H:=λ_ _ h=>h
def Tj.trans (a:Tj H H1)(b:Tj H1 H2):Tj H H2:=λc o h=>b c o (a c o h)
def Tj.free (e:Tj H H') (h:H' l=Vq):H l=Vq:=by
 cases q:H l with
 |none=>rfl
 |some o=>rw[e l o q]at h;cases h
def Tj.seq{a:Xl}(e:Tj H H')(h:TZ K H a xs):TZ K H' a xs:=by
 rcases h with(h|⟨o,h⟩)|h
 .exact .inl (.inl (e _ _ h))
 .exact .inl (.inr ⟨o,e _ _ h⟩)
 .exact .inr h
end L2
set_option maxHeartbeats 4000000
namespace L2
open PySem.Spec
section
variable {κ:Type}[DecidableEq κ]
def fS(kvs:Ql (κ×V))(k:κ):Qo V:=(kvs.find? λkv=>decide (kv.1=k)).map (·.2)
def fg(kvs:Ql (κ×V))(k:κ)(v:V):Ql (κ×V):=if(kvs.any λkv=>decide (kv.1=k))=Qt then kvs.map (λkv=>if kv.1=k then(kv.1,v) else kv) else kvs++[(k,v)]
def ma{p:κ×V}{r:Ql (κ×V)}{k:κ}(e:p.1=k):fS (p::r) k=Qs p.2:=by simp[fS,QE,e]
def md{p:κ×V}{r:Ql (κ×V)}{k:κ}(e:¬p.1=k):fS (p::r) k=fS r k:=by simp[fS,QE,e]
def uI(k:κ):∀kvs:Ql (κ×V),(kvs.any λkv=>decide (kv.1=k))=(fS kvs k).isSome
 |[]=>rfl
 |p::r=>by
  rw[Qh];by_cases e:p.1=k
  .simp only[ma e,Uc e,SG,S5]
  .rw[md e,UJ e,Q8];exact uI k r
def xk(kvs:Ql (κ×V))(k:κ)(v:V):(fg kvs k v).length<=kvs.length+1:=by
 unfold fg;split
 .rw[OI];lia
 .rw[O8,OX,Sy];lia
def VY.zbb{o:Qo V}{u:Qo OM}(r:VY o u):o.isSome=u.isSome:=by
 cases o with
 |none=>cases u with
  |none=>rfl
  |some _=>exact(show False from r).elim
 |some _=>cases u with
  |none=>exact(show False from r).elim
  |some _=>rfl
def VY.getD{o:Qo V}{u:Qo OM}{d:V}{d':OM}(r:VY o u)(rd:RelV d d'):RelV (o.getD d) (u.getD d'):=by
 cases o with
 |none=>cases u with
  |none=>exact rd
  |some _=>exact(show False from r).elim
 |some _=>cases u with
  |none=>exact(show False from r).elim
  |some _=>exact r
def KV.val{kvs:Ql (κ×V)}{vs:Ql (κ×OM)}(r:KV kvs vs)(k:κ):VY (fS kvs k) (valueAt vs k):=by
 unfold KV at r
 induction r with
 |nil=>exact True.intro
 |@cons p q ps qs h t ih=>
  obtain⟨h1,h2⟩:=h;by_cases e:p.1=k
  .have e':q.1=k:=h1.symm.trans e;have b:valueAt (q::qs) k=Qs q.2:=by simp[valueAt,QE,e']
   rw[ma e,b];exact h2
  .have e':¬q.1=k:=λz=>e (h1.trans z);have b:valueAt (q::qs) k=valueAt qs k:=by simp[valueAt,QE,e']
   rw[md e,b];exact ih
def KV.any{kvs:Ql (κ×V)}{vs:Ql (κ×OM)}(r:KV kvs vs)(k:κ):(kvs.any λkv=>decide (kv.1=k))=vs.any λkv=>decide (kv.1=k):=by
 unfold KV at r
 induction r with
 |nil=>rfl
 |cons h t ih=>rw[Qh,Qh,ih,h.1]
def KV.zaQ{kvs:Ql (κ×V)}{vs:Ql (κ×OM)}(r:KV kvs vs)(k:κ) (ry:RelV y u):KV (kvs.map λkv=>if kv.1=k then(kv.1,y) else kv) (vs.map λkv=>if kv.1=k then(kv.1,u) else kv):=by
 unfold KV at r ⊢
 induction r with
 |nil=>exact .nil
 |@cons p q ps qs h t ih=>
  rw[OF,OF];refine .cons ?_ ih;obtain⟨h1,h2⟩:=h;by_cases e:p.1=k
  .rw[S9 e,S9 (h1.symm.trans e)];exact⟨h1,ry⟩
  .rw[Tr e,Tr (λz=>e (h1.trans z))];exact⟨h1,h2⟩
def KV.put{kvs:Ql (κ×V)}{vs:Ql (κ×OM)}(r:KV kvs vs)(k:κ) (ry:RelV y u):KV (fg kvs k y) (stored vs k u):=by
 unfold fg stored;rw[r.any k];by_cases e:(vs.any λkv=>decide (kv.1=k))=Qt
 .rw[S9 e,S9 e];exact r.zaQ k ry
 .rw[Tr e,Tr e];exact Paired.snoc r ⟨rfl,ry⟩
def KV.length{kvs:Ql (κ×V)}{vs:Ql (κ×OM)}(r:KV kvs vs):kvs.length=vs.length:=Paired.length r
end
def mW{k:aD}(r:RelV (kV k) u):(dO P w).is k u=Qt:=by
 cases k with
 |inl i=>obtain⟨t,e⟩:=(show ∃t,u=SU i t from r);subst e;exact Ls P w i t
 |inr x=>obtain⟨t,e⟩:=(show ∃t,u=Tq x t from r);subst e;exact Lq P w x t
def C6{P:Pe}{w:QI}:∀{ks:Ql aD}{us:Ql OM},Vals (ks.map kV) us->ItemsAre (dO P w) ks us
 |[],_,r=>by rw[Rq]at r;cases r;exact .nil
 |k::ks,_,r=>by
  rw[OF]at r;cases r with
  |cons h t=>exact .cons (mW h) (C6 t)
abbrev KT(H:Hp):Ql (Ql aD×V)->Ql (Ql aD×Xl×OM)->Prop:=Paired λp q=>p.1=q.1/\H q.2.1=Qs (.tup (p.1.map kV))/\RelV p.2 q.2.2
def KT.val{H:Hp}{kvs:Ql (Ql aD×V)}{xs:Ql (Ql aD×Xl×OM)}(r:KT H kvs xs)(k:Ql aD):VY (fS kvs k) ((atKey xs k).map (·.2)):=by
 induction r with
 |nil=>exact True.intro
 |@cons p q ps qs h t ih=>
  obtain⟨h1,_,h2⟩:=h;by_cases e:p.1=k
  .have e':q.1=k:=h1.symm.trans e;have b:atKey (q::qs) k=Qs q.2:=by simp[atKey,QE,e']
   rw[ma e,b];exact h2
  .have e':¬q.1=k:=λz=>e (h1.trans z);have b:atKey (q::qs) k=atKey qs k:=by simp[atKey,QE,e']
   rw[md e,b];exact ih
def KT.zaQ{xs:Ql (Ql aD×Xl×OM)}(r:KT H kvs xs)(k:Ql aD) (ry:RelV y u):KT H (kvs.map λkv=>if kv.1=k then(kv.1,y) else kv) (xs.map (putAt k u)):=by
 induction r with
 |nil=>exact .nil
 |@cons p q ps qs h t ih=>
  rw[OF,OF];refine .cons ?_ ih;obtain⟨h1,h2,h3⟩:=h;unfold putAt;by_cases e:p.1=k
  .rw[S9 e,S9 (h1.symm.trans e)];exact⟨h1,h2,ry⟩
  .rw[Tr e,Tr (λz=>e (h1.trans z))];exact⟨h1,h2,h3⟩
def KT.put{xs:Ql (Ql aD×Xl×OM)}(r:KT H kvs xs)(k:Ql aD){b:Xl}(hb:H b=Qs (.tup (k.map kV)))(ry:RelV y u):KT H (fg kvs k y) (storedH xs k b u):=by
 have e:(kvs.any λkv=>decide (kv.1=k))=(atKey xs k).isSome:=by rw[uI,(r.val k).zbb,Tc]
 unfold fg storedH;rw[e];by_cases q:(atKey xs k).isSome=Qt
 .rw[S9 q,S9 q];exact r.zaQ k ry
 .rw[Tr q,Tr q];exact Paired.snoc r ⟨rfl,hb,ry⟩
def KT.keeps{xs:Ql (Ql aD×Xl×OM)}(r:KT H kvs xs)(ht:∀b ys,H b=Qs (.tup ys)->H' b=Qs (.tup ys)):KT H' kvs xs:=Paired.za3 r λ_ _ z=>⟨z.1,ht _ _ z.2.1,z.2.2⟩
section
variable {a:Xl}
def AV{u:HO}(ok:U7 P w H h)(e:Rd H a u):U5 P w H h a u:=e.ok ok
def lK{kvs:Ql (aD×V)}(ok:U7 P w H h)(e:Rd H a (.dK kvs)):kvs.length<=O3/\(a==sysModules)=Qf/\∃vs,KV kvs vs/\h.DictOf (dO P w) a vs:=show U5 P w H h a (.dK kvs) from AV ok e
def yT{kvs:Ql (aD×V)}(ok:U7 P w H h)(e:H a=Qs (.dK kvs)):kvs.length<=O3/\(a==sysModules)=Qf/\∃vs,KV kvs vs/\h.DictOf (dO P w) a vs:=lK ok (.inl e)
def oK (ok:U7 P w H h)(e:H a=Qs (.tup (ks.map kV))):(tupleKind (dO P w)).is h ks a:=by obtain⟨_,TH,r,o,h1,h2,n,h3⟩:=(show U5 P w H h a (.tup (ks.map kV)) from ok a _ e);exact⟨o,TH.toArray,n,h1,h2,h3,by simpa using C6 r⟩
def m4 (ok:U7 P w H h)(e:Rd H a (.dT kvs)):kvs.length<=O3/\(a==sysModules)=Qf/\∃xs,KT H kvs xs/\h.DictOfH (tupleKind (dO P w)) a xs:=by
 obtain⟨z,y,xs,r,o,es,ep,h1,h2,h3,h4,h5⟩:=(show U5 P w H h a (.dT kvs) from AV ok e);refine⟨z,y,xs,r,o,es,ep,h1,h2,h3,h4,λx hx=>?_,h5⟩;have all:∀{l:Ql (Ql aD×V)}{m:Ql (Ql aD×Xl×OM)},KT H l m->∀x∈m,(tupleKind (dO P w)).is h x.1 x.2.1:=by
  intro l m q
  induction q with
  |nil=>intro x hx;exact nomatch hx
  |@cons p q ps qs hq t ih=>
   intro x hx;rcases OC.mp hx with e|hx
   .subst e;exact oK ok (by rw[<-hq.1];exact hq.2.1)
   .exact ih x hx
 exact all r x hx
def Nf (ok:U7 P w H h)(e:H a=Qs (.dT kvs)):kvs.length<=O3/\(a==sysModules)=Qf/\∃xs,KT H kvs xs/\h.DictOfH (tupleKind (dO P w)) a xs:=m4 ok (.inl e)
end
def WZ(H:Hp)(a:Xl)(y:V)(r:Qo V):Prop:=(∃kvs k,Rd H a (.dK kvs)/\y=kV k/\r=fS kvs k)\/∃kvs k b,Rd H a (.dT kvs)/\y=.ref b/\H b=Qs (.tup (k.map kV))/\r=fS kvs k
def YS(H:Hp)(a:Xl)(y v:V)(H':Hp):Prop:=(∃kvs k,H a=Qs (.dK kvs)/\y=kV k/\kvs.length<O3/\H'=upd H a (.dK (fg kvs k v))) \/
 ∃kvs k b,H a=Qs (.dT kvs)/\y=.ref b/\H b=Qs (.tup (k.map kV))/\kvs.length<O3/\H'=upd H a (.dT (fg kvs k v))
def WZ.k{H:Hp}{a:Xl}{kvs:Ql (aD×V)}{k:aD}(e:H a=Qs (.dK kvs)):WZ H a (kV k) (fS kvs k):=.inl ⟨kvs,k,.inl e,rfl,rfl⟩
def YS.k{H:Hp}{a:Xl}{kvs:Ql (aD×V)}{k:aD}{v:V}(e:H a=Qs (.dK kvs))(hl:kvs.length<O3):YS H a (kV k) v (upd H a (.dK (fg kvs k v))):=.inl ⟨kvs,k,e,rfl,hl,rfl⟩
section
variable {σ:St}{a:Xl}{r:OM}{o:Qo V}{A:Qq}
def Inv.big(I:Inv X pins σ H s):sysModules<s.heap.objs.size:=by have h:mainGlobals<s.heap.objs.size:=(I.mod.glob.keeps I.bk).lt;exact SH (by decide) h
def Nl{Q:OM->OJ->Prop}(hu:A.units+1<cLine)(I:Inv X pins σ H s)(g:WZ H a y (Qs v))(ry:RelV y u)(h:∀w' s',Inv X pins σ H s'->RelV v w'->Q w' s'):wpAny (model X.prog X.w) A (getItem (.ref a) u) Q E s:=by
 rcases g with⟨kvs,k,e,ey,l⟩|⟨kvs,k,b,e,ey,eb,l⟩
 .subst ey;obtain⟨z,hd,vs,rel,dd⟩:=lK I.TY e;obtain⟨w',hw,VI⟩:=VY.some_of (v:=v) (o:=valueAt vs k) (by rw[l];exact rel.val k);exact wpAny_getItem_of (mW ry) dd.mapOf hw (h w' _ (I.tok _) VI)
 .subst ey;cases(show u=OY b from ry);obtain⟨z,hd,xs,rel,dd⟩:=m4 I.TY e;obtain⟨w',hw,VI⟩:=VY.some_of (v:=v) (o:=(atKey xs k).map (·.2)) (by rw[l];exact rel.val k);obtain⟨p,hp,hp2⟩:=Q9.mp hw;refine wpAny_getItem_heap (tupleKind_room_in1 hu) (oK I.TY eb) dd hp ?_;rw[hp2];exact h w' _ (I.tok _) VI
def Es{Q:OM->OJ->Prop}(hu:A.units+1<cLine)(I:Inv X pins σ H s)(g:WZ H a y o)(ry:RelV y u)(h:∀s',Inv X pins σ H s'->Q (.bool o.isSome) s'):wpAny (model X.prog X.w) A (compareOp .In u (.ref a)) Q E s:=by
 rcases g with⟨kvs,k,e,ey,l⟩|⟨kvs,k,b,e,ey,eb,l⟩
 .subst ey;obtain⟨z,hd,vs,rel,dd⟩:=lK I.TY e;refine wpAny_in_of (mW ry) hd dd.mapOf ?_;rw[<-(rel.val k).zbb,<-l];exact h _ (I.tok _)
 .subst ey;cases(show u=OY b from ry);obtain⟨z,hd,xs,rel,dd⟩:=m4 I.TY e;refine wpAny_in_heap (tupleKind_room_in1 hu) (oK I.TY eb) hd dd ?_;have q:=(rel.val k).zbb;rw[Tc]at q;rw[<-q,<-l];exact h _ (I.tok _)
def yU{ob:HO}(I:Inv X pins σ H s)(mu:qi (H a))(hs:Heap.SameBut a s.heap h')(he:∃q,h'.get? a=Qs q)(new:U5 X.prog X.w (upd H a ob) h' a ob) :Inv X pins σ (upd H a ob) { s with heap:=h',toks:=t' } :=I.write (x:=a) (e:=a) mu (.inl rfl) (λb q hb z=>(hs.2 b hb).trans z) he new
def Ej{kvs:Ql (aD×V)}{vs:Ql (aD×OM)}(z:kvs.length<=O3)(hd:(a==sysModules)=Qf)(rel:KV kvs vs)(dd:h'.DictOf (dO P w) a vs):U5 P w H' h' a (.dK kvs):=⟨z,hd,vs,rel,dd⟩
def Er{Q:Unit->OJ->Prop}(hu:A.units+1<cLine)(I:Inv X pins σ H s)(g:YS H a y v H')(ry:RelV y u)(rv:RelV v r)(h:∀s',Inv X pins σ H' s'->Q () s'):wpAny (model X.prog X.w) A (setItem (.ref a) u r) Q E s:=by
 rcases g with⟨kvs,k,e,ey,l,eH⟩|⟨kvs,k,b,e,ey,eb,l,eH⟩
 .subst ey eH;obtain⟨z,hd,vs,rel,dd⟩:=yT I.TY e;have hz:vs.length<=O3:=by rw[<-rel.length];exact z
  have hl:(fg kvs k v).length<=O3:=by have:=xk kvs k v;lia
  refine wpAny_setItem_pairs (hsz:=hz) (mW ry) dd λh' YH hs=>h _ ?_;have he:∃q,h'.get? a=Qs q:=let ⟨q,_,_,hq,_⟩:=YH;⟨q,hq⟩
  exact yU I (by rw[e];exact True.intro) hs he (Ej hl hd (rel.put k rv) YH)
 .subst ey eH;cases(show u=OY b from ry);obtain⟨z,hd,xs,rel,dd⟩:=Nf I.TY e;have hz:xs.length<=O3:=by rw[<-Paired.length rel];exact z
  have hl:(fg kvs k v).length<=O3:=by have:=xk kvs k v;lia
  refine wpAny_setItem_heap (hsz:=hz) (tupleKind_room_in1 hu) (oK I.TY eb) dd λh' YH hs=>h _ ?_;obtain⟨q,es,ep,hq,h2,h3,h4,_,h5⟩:=YH;refine yU I (by rw[e];exact True.intro) hs ⟨q,hq⟩ ⟨hl,hd,_,(rel.put k eb rv).keeps λc ys ec=>?_,q,es,ep,hq,h2,h3,h4,h5⟩;rw[aS (sN ec e (λz=>nomatch z))];exact ec
end
def zL(i:Xn):Prop:=∀ov iv,subscripted i Qf ov iv=operate [ov,iv] (getItem ov iv)
def GJ{A:Qq}{slice:Xn}{id:String}{Q:OM->OJ->Prop} (hl:typeLookup (.type T) "__getitem__"=pure (Qs (.builtin id))) (hs:zL slice) (h:wpAny (model prog w) A (eval value env) (λo s₁=>wpAny (model prog w) A (eval slice env) (λi s₂=>s₂.TypeIs o T/\wpAny (model prog w) A (getItem o i) Q E s₂) E s₁) E s):wpAny (model prog w) A (eval (.Subscript value slice pos) env) Q E s:=by
 refine Subscript_ (wpAny_mono h (λo s₁ h₁=>wpAny_mono h₁ (λi s₂ h₂=>?_) λ_ _ x=>x) λ_ _ x=>x);obtain⟨hT,h₂⟩:=h₂;unfold subscriptTail;refine OB ?_;rw[getitemInPython_of_ne hT.not_modules];refine OB (wpAny_specialOf hT hl ?_);have fin:wpAny (model prog w) A (subscripted slice Qf o i) (λr s₃=>wpAny (model prog w) A (letTemporaryGo value o r>>=λ_=>pure r) Q E s₃) E s₂:=by rw[hs o i];exact wpAny_operating (wpAny_mono h₂ (λr s₃ h₃=>OB (wpAny_letTemporaryGo (OQ h₃))) λ_ _ x=>x)
 first
  |exact OQ (OB fin)
  |exact OB (OQ (OB fin))
  |exact OB fin
def Nh{σ:St}{a:Xl}{o:Qo V}(I:Inv X pins σ H s)(g:WZ H a y o):s.TypeIs (.ref a) "dict":=by
 rcases g with⟨kvs,k,e,_,_⟩|⟨kvs,k,b,e,_,_,_⟩
 .obtain⟨_,_,vs,_,dd⟩:=lK I.TY e;exact dd.typeIs
 .obtain⟨_,_,xs,_,dd⟩:=m4 I.TY e;exact dd.typeIs
def GA(td ty:TE):TE:=λσ H Q=>td σ H λx H1=>ty σ H1 λy H2=>∃a v,x=.ref a/\WZ H2 a y (Qs v)/\Q v H2
def HG(td ty tv:TE):TS:=λD σ H=>tv σ H λv H1=>td σ H1 λx H2=>ty σ H2 λy H3=>∃a H4,x=.ref a/\YS H3 a y v H4/\D.nx σ H4
section
variable {i:Xn}{td ty:TE}
def JU(hu:X.A.units+1<cLine)(ho:PE X o td)(hi:PE X i ty)(hs:zL i):PE X (.Subscript o i pos) (GA td ty):=by intro pins s σ H Q I h;refine GJ PySem.F.slot_dict_getitem.lookup hs (aE (ho pins s σ H _ I h) λu s1 ⟨x,H1,I1,rx,q1⟩=>aE (hi pins s1 σ H1 _ I1 q1) λiv s2 ⟨y,H2,I2,ry,a,v,ex,g,q2⟩=>?_);subst ex;obtain rfl:u=OY a:=rx;exact⟨Nh I2 g,Nl hu I2 g ry λw' s3 I3 VI=>⟨v,H2,I3,VI,q2⟩⟩
def IT(hu:X.A.units+1<cLine)(ho:PE X o td)(hi:PE X i ty)(hv:PE X value tv)(hs:swapsWith value (Qs (.Subscript o i pos')) pos.line X.env=pure Qf):PS X (.Assign [.Subscript o i pos'] value pos) (HG td ty tv):=by intro pins s σ H D I h;refine wpAny_Assign_Subscript (aE (hv pins s σ H _ I h) λr s1 ⟨v,H1,I1,rv,q1⟩=>aE (ho pins s1 σ H1 _ I1 q1) λu s2 ⟨x,H2,I2,rx,q2⟩=>aE (hi pins s2 σ H2 _ I2 q2) λiv s3 ⟨y,H3,I3,ry,a,H4,ex,g,q3⟩=>?_) hs;subst ex;obtain rfl:u=OY a:=rx;exact Er hu I3 g ry rv λs4 I4=>⟨σ,H4,I4,q3⟩
end
def Ek (h:Xm)(hb:sysModules<h.objs.size):U5 P w H (h.push {cls:=.type "dict",data:=.dict #[]}) h.objs.size (.dK []):=⟨QD _,beq_eq_false_iff_ne.mpr (Ne.symm (Ph hb)),[],.nil,Heap.DictOf.new h⟩
def Gy:TE:=λ_ H Q=>∀p,H p=Qn->Q (.ref p) (upd H p (.dK []))
def JR:PE X (.Dict [] [] pos) Gy:=λpins s σ H Q I h=>
 wpAny_Dict_empty ⟨.ref s.heap.objs.size,_,I.laid (a:=s.heap.objs.size) (o:=.dK []) (t':=s.toks) (λ_ _ q=>OA _ q) (OL _) (Ek s.heap I.big),rfl,h _ (I.TY.fresh (OL _))⟩
def uP:Ql (TE×TE)->St->Hp->(Ql (V×V)->Hp->Prop)->Prop
 |[],_,H,Q=>Q [] H
 |(tk,tv)::r,σ,H,Q=>tk σ H λx H1=>tv σ H1 λy H2=>uP r σ H2 λps H3=>Q ((x,y)::ps) H3
abbrev VV:Ql (V×V)->Ql (OM×OM)->Prop:=Paired λp q=>RelV p.1 q.1/\RelV p.2 q.2
def uB(X:Cx)(pos:Pos)(keys:Ql (Qo Xn))(values:Ql Xn)(Xz:Ql (TE×TE)):Prop:=∀(pins:Ql (Xl×Obj)) (s:OJ) (σ:St) (H:Hp) (Q:Ql (V×V)->Hp->Prop),Inv X pins σ H s->uP Xz σ H Q->wpAny (model X.prog X.w) X.A (evalPairs (pairTrees keys values X.env pos)) (λvs s'=>∃ps H',Inv X pins σ H' s'/\VV ps vs/\Q ps H') X.xe s
def I0:uB X pos [] [] []:=λpins s σ H Q I h=>pairTrees_nil_walk ⟨[],H,I,.nil,h⟩
def Ja{k v:Xn}{ks:Ql (Qo Xn)}{vs:Ql Xn}{tk:TE}{Xz:Ql (TE×TE)}(hk:PE X k tk)(hv:PE X v tv)(hr:uB X pos ks vs Xz):uB X pos (Qs k::ks) (v::vs) ((tk,tv)::Xz):=λpins s σ H Q I h=>
 pairTrees_cons_walk (aE (hk pins s σ H _ I h) λu s1 ⟨x,H1,I1,rx,q1⟩=>aE (hv pins s1 σ H1 _ I1 q1) λw2 s2 ⟨y,H2,I2,ry,q2⟩=>
  aE (hr pins s2 σ H2 _ I2 q2) λws s3 ⟨ps,H3,I3,rel,q3⟩=>⟨(x,y)::ps,H3,I3,.cons ⟨rx,ry⟩ rel,q3⟩)
def oB(kvs more:Ql (aD×V)):Ql (aD×V):=more.foldl (λacc kv=>fg acc kv.1 kv.2) kvs
def KV.merge:∀{more:Ql (aD×V)}{rs:Ql (aD×OM)}{kvs:Ql (aD×V)}{vs:Ql (aD×OM)},KV more rs->KV kvs vs->KV (oB kvs more) (merged vs rs):=by
 intro more rs kvs vs r;unfold KV at r
 induction r generalizing kvs vs with
 |nil=>intro q;exact q
 |@cons p q ps qs h t ih=>
  intro r0;have e:KV (fg kvs p.1 p.2) (stored vs q.1 q.2):=by have:=r0.put p.1 h.2;rw[<-h.1];exact this
  exact ih e
def CC:∀(more kvs:Ql (aD×V)),(oB kvs more).length<=kvs.length+more.length
 |[],kvs=>by show kvs.length<=kvs.length+0;lia
 |p::r,kvs=>by have h1:=CC r (fg kvs p.1 p.2);have h2:=xk kvs p.1 p.2;show(oB (fg kvs p.1 p.2) r).length<=_;rw[OX];lia
def EH{P:Pe}{w:QI}:∀{kvs:Ql (aD×V)}{ws:Ql (OM×OM)},VV (kvs.map λkv=>(kV kv.1,kv.2)) ws->∃rs,Carries (dO P w) ws rs/\KV kvs rs
 |[],_,r=>by rw[Rq]at r;cases r;exact⟨[],True.intro,.nil⟩
 |p::kvs,_,r=>by
  rw[OF]at r;cases r with
  |@cons a b as bs h t=>obtain⟨rs,c,q⟩:=EH (P:=P) (w:=w) t;obtain⟨b1,b2⟩:=b;exact⟨(p.1,b2)::rs,⟨mW h.1,rfl,c⟩,.cons ⟨rfl,h.2⟩ q⟩
def Gx(Xz:Ql (TE×TE)):TE:=λσ H Q=>∀p,H p=Qn->uP Xz σ (upd H p (.dK [])) λps H2=>H2 p=Qs (.dK [])/\∃kvs:Ql (aD×V),ps=kvs.map (λkv=>(kV kv.1,kv.2))/\kvs.length<=15/\Q (.ref p) (upd H2 p (.dK (oB [] kvs)))
def JS{keys:Ql (Qo Xn)}{values:Ql Xn}{Xz:Ql (TE×TE)}(h:uB X pos keys values Xz)(Yg:keys.all (·.isSome)=Qt)(hl:keys.length=values.length)(h0:keys≠[]) (h15:keys.length<=15):PE X (.Dict keys values pos) (Gx Xz):=by
 intro pins s σ H Q I q;have hn:=I.TY.fresh (OL s.heap.objs.size);have I1:=I.laid (a:=s.heap.objs.size) (o:=.dK []) (h':=s.heap.push {cls:=.type "dict",data:=.dict #[]}) (t':=s.toks) (λ_ _ q=>OA _ q) (OL _) (Ek s.heap I.big);refine wpAny_Dict_walk (knd:=dO X.prog X.w) Yg hl h0 h15 (aE (h pins _ σ _ _ I1 (q _ hn)) λws s2 ⟨ps,H2,I2,rel,e,kvs,ep,lk,q2⟩=>?_);subst ep;obtain⟨rs,c,rk⟩:=EH (P:=X.prog) (w:=X.w) rel;obtain⟨z,hd,vs0,r0,dd⟩:=yT I2.TY e;cases r0;refine⟨rs,c,dd,λh' YH hs=>⟨.ref s.heap.objs.size,_,?_,rfl,q2⟩⟩;have hz:(oB [] kvs).length<=O3:=by have h1:=CC kvs [];rw[Sy]at h1;rw[sizeLine_eq];lia
 have he:∃q,h'.get? s.heap.objs.size=Qs q:=let ⟨q,_,_,hq,_⟩:=YH;⟨q,hq⟩
 exact yU I2 (by rw[e];exact True.intro) hs he (Ej hz hd (rk.merge .nil) YH)
structure M2(X:Cx)(o:Xn)(m:Str)(apos:Pos)(e f:Xn)(Uw:Pos):Prop where
 base:attributeBase o m X.env (eval o X.env)=eval o X.env
 Vs:((QJ Uw (OP [e,f] X.env)).all (λx=>!x.1)&&(backToKw Uw (keywordEach [] X.env)).all (λx=>x.1.isSome)
  && decide (([e,f]:List Xn).length+([]:List SW).length+(if([]:List SW).isEmpty then 0 else 1)<30))=Qt
 line:(apos.endLine==Uw.line)=Qt
 trees:QJ Uw (OP [e,f] X.env)=[(Qf,eval e X.env),(Qf,eval f X.env)]
def Fg(H:Hp)(a:Xl):Prop:=(∃kvs,Rd H a (.dK kvs))\/∃kvs,Rd H a (.dT kvs)
def Mn{σ:St}{a:Xl}(I:Inv X pins σ H s)(d:Fg H a):s.TypeIs (.ref a) "dict"/\(∀b,OY a=.ref b->∃ob,s.heap.get? b=Qs ob/\ob.dict=Qn)/\(a==sysModules)=Qf:=by
 rcases d with⟨kvs,e⟩|⟨kvs,e⟩
 .obtain⟨_,hd,vs,_,dd⟩:=lK I.TY e;refine⟨dd.typeIs,λb q=>?_,hd⟩;cases q;obtain⟨ob,_,_,h1,h2,_⟩:=dd;exact⟨ob,h1,h2.2.1⟩
 .obtain⟨_,hd,xs,_,dd⟩:=m4 I.TY e;refine⟨dd.typeIs,λb q=>?_,hd⟩;cases q;obtain⟨ob,_,_,h1,h2,_⟩:=dd;exact⟨ob,h1,h2.2.1⟩
section
variable {σ:St}{a:Xl}{d:V}{r:OM}{o:Qo V}{A:Qq}
def Nm{Q:OM->OJ->Prop}(hu:A.units+1<cLine)(I:Inv X pins σ H s)(g:WZ H a y o)(ry:RelV y u)(rd:RelV d r)(h:∀w' s',Inv X pins σ H s'->RelV (o.getD d) w'->Q w' s'):wpAny (model X.prog X.w) A (call (.builtin "dict.get") [.ref a,u,r]) Q E s:=by
 rcases g with⟨kvs,k,e,ey,l⟩|⟨kvs,k,b,e,ey,eb,l⟩
 .subst ey;obtain⟨z,hd,vs,rel,dd⟩:=lK I.TY e;refine call_meetsIn Rl dd.typeIs Sg (R7 _ _ _) (meets_dict_get_default (dO X.prog X.w) a (mW ry) hd r) ⟨_,dd.mapOf,h _ _ (I.tok _) ?_⟩;rw[l];exact(rel.val k).getD rd
 .subst ey;cases(show u=OY b from ry);obtain⟨z,hd,xs,rel,dd⟩:=m4 I.TY e;refine call_meetsIn Rl dd.typeIs Sg (R7 _ _ _) (meetsH_dict_get_default (tupleKind (dO X.prog X.w)) a b hd r) ⟨tupleKind_room_in1 hu,k,xs,oK I.TY eb,dd,h _ _ (I.tok _) ?_⟩;rw[l];exact(rel.val k).getD rd
end
def Gz(td ty tx:TE):TE:=λσ H Q=>td σ H λx H1=>∃a,x=.ref a/\Fg H1 a/\ty σ H1 λy H2=>tx σ H2 λz H3=>∃o,WZ H3 a y o/\Q (o.getD z) H3
section
variable {f:Xn}{td ty tx:TE}
def JT(hu:X.A.units+1<cLine)(ho:PE X o td)(he:PE X e ty)(hf:PE X f tx)(m:M2 X o "get" apos e f Uw):PE X (.Call (.Attribute o "get" apos) [e,f] [] Uw) (Gz td ty tx):=by
 intro pins s σ H Q I h;refine wpAny_Call_method m.base m.Vs m.line PySem.F.plainAttrs_dict Rl PySem.F.type_dict_get (aE (ho pins s σ H _ I h) λu s1 ⟨x,H1,I1,rx,a,ex,d,q1⟩=>?_);subst ex;obtain rfl:u=OY a:=rx;obtain⟨t1,t2,_⟩:=Mn I1 d;refine⟨t1,t2,?_⟩;rw[m.trees];refine Calls.callWith_builtin rfl (Calls.evalArgs_plain (Calls.spliced_cons (aE (he pins s1 σ H1 _ I1 q1) λiv s2 ⟨y,H2,I2,ry,q2⟩=>
  Calls.spliced_cons (aE (hf pins s2 σ H2 _ I2 q2) λfv s3 ⟨z,H3,I3,rz,ov,g,q3⟩=>Calls.spliced_nil ?_))))
 exact Nm hu I3 g ry rz λw' s4 I4 VI=>⟨_,H3,I4,VI,q3⟩
end
end L2
namespace DL
open PySem.Spec L2
def aB{α β:Type}{x:Qo α}{f:α->Qo β}{r:β}{G:Prop}(e:x.bind f=Qs r)(h:∀a,x=Qs a->f a=Qs r->G):G:=by
 cases x with
 |none=>cases e
 |some a=>exact h a rfl e
def bW{c:Prop}[Decidable c]{β:Type}{x:Qo β}{r:β}{G:Prop}(e:(if c then x else Qn)=Qs r)(h:c->x=Qs r->G):G:=by
 by_cases z:c
 .exact h z ((S9 z).symm.trans e)
 .cases(Tr z).symm.trans e
inductive D where
 |TX|bl (b:Bool)|int (i:Int)|str (x:Str)|tup (xs:List D)|lst (xs:List D)|Uk (ks:List aD) (ds:List D)|U1 (ps:List (List Int×Int))|VN (ps:List (List Int×Int))|adr (p:Xl)|obj (C:Xl) (ns:List Str) (ds:List D)|T4 (ks:List Int)
def cU(ks:Ql aD)(vs:Ql V):Ql (aD×V):=ks.zip vs
def wm(ps:Ql (Ql Int×Int)):Ql (Ql aD×V):=ps.map λq=>(q.1.map Sum.inl,V.int q.2)
def VR(ks:Ql Int):Ql (aD×V):=ks.map λk=>(Sum.inl k,V.bl Qt)
mutual
inductive Rep(K:Ou)(H:Hp):D->V->Prop
 |TX:Rep K H .TX .TX
 |bl (b:Bool):Rep K H (.bl b) (.bl b)
 |int (i:Int):Rep K H (.int i) (.int i)
 |str (x:Str):Rep K H (.str x) (.str x)
 |tup {ds:List D}{p:Xl}{vs:List V}:UA K H p vs->Ts K H ds vs->Rep K H (.tup ds) (.ref p)
 |lst {ds:List D}{p:Xl}{vs:List V}:TZ K H p vs->Ts K H ds vs->Rep K H (.lst ds) (.ref p)
 |Uk {ks:List aD}{ds:List D}{p:Xl}{vs:List V}:ks.length=vs.length->H p=Qs (.dK (cU ks vs))->Ts K H ds vs->Rep K H (.Uk ks ds) (.ref p)
 |U1 {ps:List (List Int×Int)}{p:Xl}:H p=Qs (.dT (wm ps))->Rep K H (.U1 ps) (.ref p)
 |VN {ps:List (List Int×Int)}{p:Xl}{o:Obj}:H p=Qs (.Vb o (.dT (wm ps)))->Rep K H (.VN ps) (.ref p)
 |adr (p:Xl):Rep K H (.adr p) (.ref p)
 |T4 {ks:List Int}{p:Xl}{o:Obj}:H p=Qs (.Vb o (.dK (VR ks)))->Rep K H (.T4 ks) (.ref p)
 |obj {C dx:Xl}{ns:List Str}{ds:List D}{p:Xl}{vs:List V}:ns.length=vs.length->H p=Qs (.ins C dx (ns.zip vs))->Ts K H ds vs->Rep K H (.obj C ns ds) (.ref p)
inductive Ts(K:Ou)(H:Hp):List D->List V->Prop
 |nil:Ts K H [] []
 |cons {d:D}{v:V}{ds:List D}{vs:List V}:Rep K H d v->Ts K H ds vs->Ts K H (d::ds) (v::vs)
end
def TZ.mono{a:Xl}(e:Tj H H')(h:TZ K H a xs):TZ K H' a xs:=e.seq h
def UA.mono{a:Xl}(e:Tj H H')(h:UA K H a xs):UA K H' a xs:=by exact e _ _ h
mutual
def Rep.mono{K:Ou}{H H':Hp}(e:Tj H H'):∀{d:D}{v:V},Rep K H d v->Rep K H' d v
 |_,_,.TX=>.TX
 |_,_,.bl b=>.bl b
 |_,_,.int i=>.int i
 |_,_,.str x=>.str x
 |_,_,.tup h r=>.tup (UA.mono e h) (Ts.mono e r)
 |_,_,.lst h r=>.lst (TZ.mono e h) (Ts.mono e r)
 |_,_,.Uk l h r=>.Uk l (e _ _ h) (Ts.mono e r)
 |_,_,.U1 h=>.U1 (e _ _ h)
 |_,_,.VN h=>.VN (e _ _ h)
 |_,_,.adr p=>.adr p
 |_,_,.T4 h=>.T4 (e _ _ h)
 |_,_,.obj l h r=>.obj l (e _ _ h) (Ts.mono e r)
def Ts.mono{K:Ou}{H H':Hp}(e:Tj H H'):∀{ds:List D}{vs:List V},Ts K H ds vs->Ts K H' ds vs
 |_,_,.nil=>.nil
 |_,_,.cons h r=>.cons (Rep.mono e h) (Ts.mono e r)
end
def Ts.length{K:Ou}{H:Hp}:∀{ds:Ql D}{vs:Ql V},Ts K H ds vs->vs.length=ds.length
 |_,_,.nil=>rfl
 |_,_,.cons _ r=>by simp[Ts.length r]
def Ts.get{K:Ou}{H:Hp}:∀{ds:Ql D}{vs:Ql V},Ts K H ds vs->∀{i:Nat}{d:D},ds[i]?=Qs d->∃v,vs[i]?=Qs v/\Rep K H d v
 |_,_,.nil,i,d,e=>by simp at e
 |_,_,.cons (v:=v) h r,0,d,e=>by simp at e;subst e;exact⟨v,rfl,h⟩
 |_,_,.cons h r,i+1,d,e=>by obtain⟨v,a,b⟩:=Ts.get r (i:=i) (d:=d) (by simpa using e);exact⟨v,by simpa using a,b⟩
def Ts.Xb{K:Ou}{H:Hp}:∀{ds:Ql D}{vs:Ql V},Ts K H ds vs->∀{i:Nat}{v:V},vs[i]?=Qs v->∃d,ds[i]?=Qs d/\Rep K H d v
 |_,_,.nil,i,d,e=>by simp at e
 |_,_,.cons (d:=d) h r,0,v,e=>by simp at e;subst e;exact⟨d,rfl,h⟩
 |_,_,.cons h r,i+1,v,e=>by obtain⟨d,a,b⟩:=Ts.Xb r (i:=i) (v:=v) (by simpa using e);exact⟨d,by simpa using a,b⟩
def Ts.app{K:Ou}{H:Hp}:∀{ds:Ql D}{vs:Ql V}{es:Ql D}{us:Ql V},Ts K H ds vs->Ts K H es us->Ts K H (ds++es) (vs++us)
 |_,_,_,_,.nil,r=>r
 |_,_,_,_,.cons h r,q=>.cons h (Ts.app r q)
def Ts.set{K:Ou}{H:Hp}{d:D}{v:V}(h:Rep K H d v):∀{ds:Ql D}{vs:Ql V} (i:Nat),Ts K H ds vs->Ts K H (ds.set i d) (vs.set i v)
 |_,_,_,.nil=>.nil
 |_,_,0,.cons _ r=>.cons h r
 |_,_,i+1,.cons q r=>.cons q (Ts.set h i r)
def Ts.one{d:D}(h:Rep K H d v):Ts K H [d] [v]:=.cons h .nil
def Ts.ints{K:Ou}{H:Hp}:∀ns:Ql Int,Ts K H (ns.map D.int) (ns.map V.int)
 |[]=>.nil
 |n::ns=>.cons (.int n) (Ts.ints ns)
mutual
def flat:D->Bool
 |.lst _=>Qf
 |.Uk _ _=>Qf
 |.U1 _=>Qf
 |.obj _ _ _=>Qf
 |.tup xs=>Ui xs
 |_=>Qt
def Ui:List D->Bool
 |[]=>Qt
 |d::ds=>flat d&&Ui ds
end
def ah(P:Ql Xl)(H:Hp):Hp:=λa=>if a∈P then Qn else H a
def aZ(P:Ql Xl)(H:Hp):Tj (ah P H) H:=λb o e=>by
 unfold ah at e;split at e
 .cases e
 .exact e
def bA{P:Ql Xl}{a:Xl}{o:HO}(h:H a=Qs o)(n:a∉P):ah P H a=Qs o:=by unfold ah;rw[Tr n];exact h
def cN{P:Ql Xl}{a:Xl}{o:HO}(h:ah P H a=Qs o):a∉P/\H a=Qs o:=by
 unfold ah at h;split at h
 .cases h
 .exact⟨by assumption,h⟩
def MF(H:Hp):ah [] H=H:=by funext a;simp[ah]
def bf{P P':Ql Xl}(H:Hp)(h:∀a∈P',a∈P):Tj (ah P H) (ah P' H):=λb o e=>by obtain⟨n,e⟩:=cN e;exact bA e λz=>n (h b z)
def sP:HO->Bool
 |.lst _=>Qt
 |.dK _=>Qt
 |.dT _=>Qt
 |.ins _ _ _=>Qt
 |.own _=>Qt
 |_=>Qf
abbrev MO:={o:HO//sP o=Qt}
def mL(vs:Ql V):MO:=⟨.lst vs,rfl⟩
def mD(kvs:Ql (aD×V)):MO:=⟨.dK kvs,rfl⟩
def mI(C dx:Xl)(fs:Ql (Str×V)):MO:=⟨.ins C dx fs,rfl⟩
def mT(kvs:Ql (Ql aD×V)):MO:=⟨.dT kvs,rfl⟩
def Ul(H:Hp)(P:Ql Xl):Prop:=∀p∈P,∃o:MO,H p=Qs o.1
def Ul.mono{P:Ql Xl}(h:Ul H P)(e:Tj H H'):Ul H' P:=λp hp=>let ⟨vs,q⟩:=h p hp;⟨vs,e _ _ q⟩
def UA.UC{P:Ql Xl}{a:Xl}(m:Ul H P)(h:UA K H a xs):UA K (ah P H) a xs:=by have h:H a=Qs (.tup xs):=h;exact bA h λz=>by obtain⟨⟨vs,w⟩,q⟩:=m _ z;rw[q]at h;cases h;cases w
mutual
def Rep.UC{K:Ou}{H:Hp}{P:List Xl}(m:Ul H P):∀{d:D}{v:V},flat d=Qt->Rep K H d v->Rep K (ah P H) d v
 |_,_,_,.TX=>.TX
 |_,_,_,.bl b=>.bl b
 |_,_,_,.int i=>.int i
 |_,_,_,.str x=>.str x
 |_,_,f,.tup h r=>.tup (UA.UC m h) (Ts.UC m (by simpa[flat] using f) r)
 |_,_,f,.lst h r=>by simp[flat]at f
 |_,_,f,.Uk _ h r=>by simp[flat]at f
 |_,_,f,.U1 h=>by simp[flat]at f
 |_,_,f,.obj _ h r=>by simp[flat]at f
 |_,_,_,.adr p=>.adr p
 |_,_,_,.T4 h=>.T4 (bA h λz=>by obtain⟨⟨vs,w⟩,q⟩:=m _ z;rw[q]at h;cases h;cases w)
 |_,_,_,.VN h=>.VN (bA h λz=>by obtain⟨⟨vs,w⟩,q⟩:=m _ z;rw[q]at h;cases h;cases w)
def Ts.UC{K:Ou}{H:Hp}{P:List Xl}(m:Ul H P):∀{ds:List D}{vs:List V},Ui ds=Qt->Ts K H ds vs->Ts K (ah P H) ds vs
 |_,_,_,.nil=>.nil
 |_,_,f,.cons h r=>by simp[Ui]at f;exact .cons (Rep.UC m f.1 h) (Ts.UC m f.2 r)
end
mutual
inductive T6(K:Ou)(H0 H:Hp):D->V->List Xl->Prop
 |flat {d:D}{v:V}:flat d=Qt->Rep K H0 d v->T6 K H0 H d v []
 |tup {ds:List D}{p:Xl}{vs:List V}{B:List Xl}:UA K H0 p vs->TL K H0 H ds vs B->T6 K H0 H (.tup ds) (.ref p) B
 |lst {ds:List D}{p:Xl}{vs:List V}{B:List Xl}:H p=Qs (.lst vs)->TL K H0 H ds vs B->T6 K H0 H (.lst ds) (.ref p) (p::B)
 |Uk {ks:List aD}{ds:List D}{p:Xl}{vs:List V}{B:List Xl}:ks.length=vs.length->H p=Qs (.dK (cU ks vs))->TL K H0 H ds vs B->T6 K H0 H (.Uk ks ds) (.ref p) (p::B)
 |U1 {ps:List (List Int×Int)}{p:Xl}:H p=Qs (.dT (wm ps))->T6 K H0 H (.U1 ps) (.ref p) [p]
 |obj {C dx:Xl}{ns:List Str}{ds:List D}{p:Xl}{vs:List V}{B:List Xl}:ns.length=vs.length->H p=Qs (.ins C dx (ns.zip vs))->TL K H0 H ds vs B->T6 K H0 H (.obj C ns ds) (.ref p) (p::B)
inductive TL(K:Ou)(H0 H:Hp):List D->List V->List Xl->Prop
 |nil:TL K H0 H [] [] []
 |cons {d:D}{v:V}{ds:List D}{vs:List V}{B C:List Xl}:T6 K H0 H d v B->TL K H0 H ds vs C->TL K H0 H (d::ds) (v::vs) (B++C)
end
mutual
def T6.mono{K:Ou}{H0 H Uv H':Hp}(e:Tj H0 Uv):∀{d:D}{v:V}{B:List Xl},T6 K H0 H d v B->(∀p∈B,∀o,H p=Qs o->H' p=Qs o)->T6 K Uv H' d v B
 |_,_,_,.flat f r,_=>.flat f (Rep.mono e r)
 |_,_,_,.tup h r,k=>.tup (UA.mono e h) (TL.mono e r k)
 |_,_,_,.lst h r,k=>.lst (k _ (Ox ..) _ h) (TL.mono e r λp hp=>k p (Ov _ hp))
 |_,_,_,.Uk l h r,k=>.Uk l (k _ (Ox ..) _ h) (TL.mono e r λp hp=>k p (Ov _ hp))
 |_,_,_,.obj l h r,k=>.obj l (k _ (Ox ..) _ h) (TL.mono e r λp hp=>k p (Ov _ hp))
 |_,_,_,.U1 h,k=>.U1 (k _ (Ox ..) _ h)
def TL.mono{K:Ou}{H0 H Uv H':Hp}(e:Tj H0 Uv):∀{ds:List D}{vs:List V}{B:List Xl},TL K H0 H ds vs B->(∀p∈B,∀o,H p=Qs o->H' p=Qs o)->TL K Uv H' ds vs B
 |_,_,_,.nil,_=>.nil
 |_,_,_,.cons h r,k=>.cons (T6.mono e h λp hp=>k p (Ot _ hp)) (TL.mono e r λp hp=>k p (Oq _ hp))
end
mutual
def T6.rep{K:Ou}{H0 H H1:Hp}(e:Tj H0 H1):∀{d:D}{v:V}{B:List Xl},T6 K H0 H d v B->(∀p∈B,∀o,H p=Qs o->H1 p=Qs o)->Rep K H1 d v
 |_,_,_,.flat f r,_=>Rep.mono e r
 |_,_,_,.tup h r,k=>.tup (UA.mono e h) (TL.rep e r k)
 |_,_,_,.lst h r,k=>.lst (TZ.of (k _ (Ox ..) _ h)) (TL.rep e r λp hp=>k p (Ov _ hp))
 |_,_,_,.Uk l h r,k=>.Uk l (k _ (Ox ..) _ h) (TL.rep e r λp hp=>k p (Ov _ hp))
 |_,_,_,.obj l h r,k=>.obj l (k _ (Ox ..) _ h) (TL.rep e r λp hp=>k p (Ov _ hp))
 |_,_,_,.U1 h,k=>.U1 (k _ (Ox ..) _ h)
def TL.rep{K:Ou}{H0 H H1:Hp}(e:Tj H0 H1):∀{ds:List D}{vs:List V}{B:List Xl},TL K H0 H ds vs B->(∀p∈B,∀o,H p=Qs o->H1 p=Qs o)->Ts K H1 ds vs
 |_,_,_,.nil,_=>.nil
 |_,_,_,.cons h r,k=>.cons (T6.rep e h λp hp=>k p (Ot _ hp)) (TL.rep e r λp hp=>k p (Oq _ hp))
end
mutual
def T6.lists{K:Ou}{H0 H:Hp}:∀{d:D}{v:V}{B:List Xl},T6 K H0 H d v B->Ul H B
 |_,_,_,.flat f r=>λp hp=>by cases hp
 |_,_,_,.tup h r=>TL.lists r
 |_,_,_,.lst h r=>λp hp=>by
  rcases OC.mp hp with rfl|hp
  .exact⟨mL _,h⟩
  .exact TL.lists r p hp
 |_,_,_,.obj _ h r=>λp hp=>by
  rcases OC.mp hp with rfl|hp
  .exact⟨mI _ _ _,h⟩
  .exact TL.lists r p hp
 |_,_,_,.Uk _ h r=>λp hp=>by
  rcases OC.mp hp with rfl|hp
  .exact⟨mD _,h⟩
  .exact TL.lists r p hp
 |_,_,_,.U1 h=>λp hp=>by rw[Oy]at hp;subst hp;exact⟨mT _,h⟩
def TL.lists{K:Ou}{H0 H:Hp}:∀{ds:List D}{vs:List V}{B:List Xl},TL K H0 H ds vs B->Ul H B
 |_,_,_,.nil=>λp hp=>by cases hp
 |_,_,_,.cons h r=>λp hp=>(Ow.mp hp).elim (T6.lists h p) (TL.lists r p)
end
mutual
def T6.UC{K:Ou}{H0 H:Hp}{P:List Xl}(m:Ul H P)(e:Tj H0 H):∀{d:D}{v:V}{B:List Xl},T6 K H0 H d v B->T6 K (ah P H) H d v B
 |_,_,_,.flat f r=>.flat f (Rep.UC m f (Rep.mono e r))
 |_,_,_,.tup h r=>.tup (UA.UC m (UA.mono e h)) (TL.UC m e r)
 |_,_,_,.lst h r=>.lst h (TL.UC m e r)
 |_,_,_,.Uk l h r=>.Uk l h (TL.UC m e r)
 |_,_,_,.obj l h r=>.obj l h (TL.UC m e r)
 |_,_,_,.U1 h=>.U1 h
def TL.UC{K:Ou}{H0 H:Hp}{P:List Xl}(m:Ul H P)(e:Tj H0 H):∀{ds:List D}{vs:List V}{B:List Xl},TL K H0 H ds vs B->TL K (ah P H) H ds vs B
 |_,_,_,.nil=>.nil
 |_,_,_,.cons h r=>.cons (T6.UC m e h) (TL.UC m e r)
end
def TL.Zw{K:Ou}{H0 H:Hp}:∀{ds:Ql D}{vs:Ql V},Ui ds=Qt->Ts K H0 ds vs->TL K H0 H ds vs []
 |_,_,_,.nil=>.nil
 |_,_,f,.cons h r=>by simp[Ui]at f;exact .cons (B:=[]) (C:=[]) (.flat f.1 h) (TL.Zw f.2 r)
def Ul.app{P Q:Ql Xl}(h:Ul H P)(k:Ul H Q):Ul H (P++Q):=λp hp=>(Ow.mp hp).elim (h p) (k p)
inductive Ev where
 |cl (d:D)|tm (d:D)|nw (xs:List D)|dn (d:D)
def Ev.d:Ev->D
 |.cl d=>d
 |.tm d=>d
 |.nw xs=>.lst xs
 |.dn d=>d
inductive zh1(K:Ou)(F A:List Xl)(H H':Hp)(xs:List D)(v:V):Prop
 |mk (p:Xl) (vs:List V) (_:v=.ref p) (_:H p=Qn) (_:H' p=Qs (.lst vs)) (_:Ts K (ah (p::(A++F)) H') xs vs)
inductive zh3(K:Ou)(F A:List Xl)(H H':Hp)(d:D)(v:V):Prop
 |mk (B:List Xl) (_:B.Nodup) (_:∀b∈B,H b=Qn) (_:T6 K (ah (B++(A++F)) H') H' d v B)
def T8(K:Ou)(F A:Ql Xl)(H H':Hp):Ev->V->Prop
 |.cl d,v=>Rep K (ah (A++F) H') d v
 |.tm d,v=>Rep K (ah F H') d v
 |.nw xs,v=>zh1 K F A H H' xs v
 |.dn d,v=>zh3 K F A H H' d v
def cY{P:Ql Xl}(e:Tj H H'):Tj (ah P H) (ah P H'):=λb o h=>by obtain⟨n,h⟩:=cN h;exact bA (e _ _ h) n
def T8.mono{K:Ou}{F A:Ql Xl}{H H1 H2:Hp}{r:Ev}{v:V}(h:T8 K F A H H1 r v)(e:Tj H1 H2):T8 K F A H H2 r v:=by
 cases r with
 |cl d=>exact Rep.mono (cY e) h
 |tm d=>exact Rep.mono (cY e) h
 |nw xs=>obtain⟨p,vs,rfl,h1,h2,h3⟩:=h;exact⟨p,vs,rfl,h1,e _ _ h2,Ts.mono (cY e) h3⟩
 |dn d=>obtain⟨B,h1,h2,h3⟩:=h;exact⟨B,h1,h2,T6.mono (cY e) h3 λp _ o q=>e _ _ q⟩
def T8.back{r:Ev}(h:T8 K F A H H1 r v)(e:Tj H0 H):T8 K F A H0 H1 r v:=by
 cases r with
 |cl d=>exact h
 |tm d=>exact h
 |nw xs=>
  obtain⟨p,vs,rfl,h1,h2,h3⟩:=h;refine⟨p,vs,rfl,?_,h2,h3⟩;cases q:H0 p with
  |none=>rfl
  |some o=>rw[e _ _ q]at h1;cases h1
 |dn d=>obtain⟨B,h1,h2,h3⟩:=h;exact⟨B,h1,λb hb=>Tj.free e (h2 b hb),h3⟩
def T8.full{r:Ev}(h:T8 K F A H H' r v):Rep K H' r.d v:=by
 cases r with
 |cl d=>exact Rep.mono (aZ _ _) h
 |tm d=>exact Rep.mono (aZ _ _) h
 |nw xs=>obtain⟨p,vs,rfl,h1,h2,h3⟩:=h;exact .lst (TZ.of h2) (Ts.mono (aZ _ _) h3)
 |dn d=>obtain⟨B,h1,h2,h3⟩:=h;exact h3.rep (aZ _ _) λ_ _ _ q=>q
def eM{P:Ql Xl}(m:Ul H P)(h:H p=Qn):p∉P:=λz=>by obtain⟨vs,q⟩:=m _ z;rw[q]at h;cases h
def T8.WW{r:Ev}(m:Ul H (A++F))(h:T8 K F A H H' r v):Rep K (ah F H') r.d v:=by
 cases r with
 |cl d=>exact Rep.mono (bf H' λa z=>Oq _ z) h
 |tm d=>exact h
 |nw xs=>obtain⟨p,vs,rfl,h1,h2,h3⟩:=h;have n:p∉F:=λz=>eM m h1 (Oq _ z);exact .lst (TZ.of (bA h2 n)) (Ts.mono (bf H' λa z=>Ov _ (Oq _ z)) h3)
 |dn d=>obtain⟨B,h1,h2,h3⟩:=h;refine h3.rep (bf H' λa z=>Oq _ (Oq _ z)) λb hb o q=>bA q λz=>?_;exact eM m (h2 b hb) (Oq _ z)
def Ev.ok:Ev->Bool
 |.cl _=>Qt
 |.tm d=>flat d
 |.nw _=>Qt
 |.dn _=>Qt
def T8.clean{r:Ev}(m:Ul H (A++F))(e:Tj H H')(h:T8 K F A H H' r v)(c:r.ok=Qt):Rep K (ah (A++F) H') r.d v:=by
 cases r with
 |cl d=>exact h
 |tm d=>have m':Ul H' (A++F):=m.mono e;exact Rep.UC m' c (Rep.mono (aZ _ _) h)
 |nw xs=>obtain⟨p,vs,rfl,h1,h2,h3⟩:=h;have n:p∉A++F:=eM m h1;exact .lst (TZ.of (bA h2 n)) (Ts.mono (bf H' λa z=>Ov _ z) h3)
 |dn d=>obtain⟨B,h1,h2,h3⟩:=h;exact h3.rep (bf H' λa z=>Oq _ z) λb hb o q=>bA q λz=>eM m (h2 b hb) z
inductive Sl where
 |no|val (d:D)|own (xs:List D)|dp (d:D)
abbrev Th:=Ql Sl
inductive TK(K:Ou)(H0 H:Hp):Th->L2.St->List Xl->Prop
 |nil:TK K H0 H [] [] []
 |no {x:Option V}{t:Th}{σ:L2.St}{A:List Xl}:TK K H0 H t σ A->TK K H0 H (.no::t) (x::σ) A
 |val {d:D}{v:V}{t:Th}{σ:L2.St}{A:List Xl}:Rep K H0 d v->TK K H0 H t σ A->TK K H0 H (.val d::t) (Qs v::σ) A
 |own {p:Xl}{vs:List V}{ds:List D}{t:Th}{σ:L2.St}{A:List Xl}:H p=Qs (.lst vs)->Ts K H0 ds vs->TK K H0 H t σ A->TK K H0 H (.own ds::t) (Qs (.ref p)::σ) (p::A)
 |dp {d:D}{v:V}{B:List Xl}{t:Th}{σ:L2.St}{A:List Xl}:T6 K H0 H d v B->TK K H0 H t σ A->TK K H0 H (.dp d::t) (Qs v::σ) (B++A)
structure RS(K:Ou)(F:List Xl)(H:Hp)(A:List Xl)(t:Th)(σ:L2.St):Prop where
 mu:Ul H (A++F)
 nd:A.Nodup
 dj:∀p∈A,p∉F
 rel:TK K (ah (A++F) H) H t σ A
def TK.mono{K:Ou}{H0 H Uv H':Hp}(e0:Tj H0 Uv):∀{t:Th}{σ:L2.St}{A:Ql Xl},TK K H0 H t σ A->(∀p∈A,∀o,H p=Qs o->H' p=Qs o)->TK K Uv H' t σ A:=by
 intro _ _ _ h
 induction h with
 |nil=>intro w0;exact .nil
 |@no _ _ _ _ r ih=>intro e;exact .no (ih e)
 |@val _ _ _ _ _ h r ih=>intro e;exact .val (Rep.mono e0 h) (ih e)
 |@own _ _ _ _ _ _ h1 h2 r ih=>intro e;exact .own (e _ (Ox ..) _ h1) (Ts.mono e0 h2) (ih λp hp=>e p (Ov _ hp))
 |@dp _ _ _ _ _ _ h r ih=>intro e;exact .dp (T6.mono e0 h λp hp=>e p (Ot _ hp)) (ih λp hp=>e p (Oq _ hp))
def RS.grow{t:Th}(h:RS K F H A t σ)(e:Tj H H'):RS K F H' A t σ:=⟨h.mu.mono e,h.nd,h.dj,h.rel.mono (cY e) λp _ o q=>e _ _ q⟩
def TK.len:∀{t:Th}{σ:L2.St}{A:Ql Xl},TK K H0 H t σ A->σ.length=t.length:=by
 intro _ _ _ h
 induction h with
 |nil=>exact rfl
 |@no _ _ _ _ r ih=>simp[ih]
 |@val _ _ _ _ _ _ r ih=>simp[ih]
 |@own _ _ _ _ _ _ _ _ r ih=>simp[ih]
 |@dp _ _ _ _ _ _ _ r ih=>simp[ih]
def TK.YE:∀{t:Th}{σ:L2.St}{A:Ql Xl},TK K H0 H t σ A->∀{i:Nat}{d:D},t[i]?=Qs (.val d)->∃v,σ[i]?=Qs (Qs v)/\Rep K H0 d v:=by
 intro _ _ _ h
 induction h with
 |nil=>intro i d e;simp at e
 |@no _ _ _ _ r ih=>
  intro i d e;cases i with
  |zero=>simp at e
  |succ i=>simpa using ih (i:=i) (by simpa using e)
 |@val _ v _ _ _ h r ih=>
  intro i d e;cases i with
  |zero=>simp at e;subst e;exact⟨v,rfl,h⟩
  |succ i=>simpa using ih (i:=i) (by simpa using e)
 |@own _ _ _ _ _ _ _ _ r ih=>
  intro i d e;cases i with
  |zero=>simp at e
  |succ i=>simpa using ih (i:=i) (by simpa using e)
 |@dp _ _ _ _ _ _ _ r ih=>
  intro i d e;cases i with
  |zero=>simp at e
  |succ i=>simpa using ih (i:=i) (by simpa using e)
inductive zif(K:Ou)(H0 H:Hp)(σ:L2.St)(A:List Xl)(i:Nat)(ds:List D):Prop
 |mk (p vs:_) (_:σ[i]?=Qs (Qs (.ref p))) (_:p∈A) (_:H p=Qs (.lst vs)) (_:Ts K H0 ds vs)
def TK.Wm:∀{t:Th}{σ:L2.St}{A:Ql Xl},TK K H0 H t σ A->∀{i:Nat}{ds:Ql D},t[i]?=Qs (.own ds)->zif K H0 H σ A i ds:=by
 intro _ _ _ h
 induction h with
 |nil=>intro i d e;simp at e
 |@no _ _ _ _ r ih=>
  intro i d e;cases i with
  |zero=>simp at e
  |succ i=>obtain⟨p,vs,a,b,c,f⟩:=ih (i:=i) (ds:=d) (by simpa using e);exact⟨p,vs,a,b,c,f⟩
 |@val _ v _ _ _ h r ih=>
  intro i d e;cases i with
  |zero=>simp at e
  |succ i=>obtain⟨p,vs,a,b,c,f⟩:=ih (i:=i) (ds:=d) (by simpa using e);exact⟨p,vs,a,b,c,f⟩
 |@own p vs _ _ _ _ h1 h2 r ih=>
  intro i d e;cases i with
  |zero=>simp at e;subst e;exact⟨p,vs,rfl,Ox ..,h1,h2⟩
  |succ i=>obtain⟨p,vs,a,b,c,f⟩:=ih (i:=i) (ds:=d) (by simpa using e);exact⟨p,vs,by simpa using a,Ov _ b,c,f⟩
 |@dp _ _ _ _ _ _ _ r ih=>
  intro i d e;cases i with
  |zero=>simp at e
  |succ i=>obtain⟨p,vs,a,b,c,f⟩:=ih (i:=i) (ds:=d) (by simpa using e);exact⟨p,vs,by simpa using a,Oq _ b,c,f⟩
inductive GDp(K:Ou)(H0 H:Hp)(σ:L2.St)(A:List Xl)(i:Nat)(d:D):Prop
 |mk (v B:_) (_:σ[i]?=Qs (Qs v)) (_:(∀b∈B,b∈A)) (_:B.Nodup) (_:T6 K H0 H d v B)
def TK.zbD:∀{t:Th}{σ:L2.St}{A:Ql Xl},TK K H0 H t σ A->A.Nodup->∀{i:Nat}{d:D},t[i]?=Qs (.dp d)->GDp K H0 H σ A i d:=by
 intro _ _ _ h
 induction h with
 |nil=>intro n i d e;simp at e
 |@no _ _ _ _ r ih=>
  intro n i d e;cases i with
  |zero=>simp at e
  |succ i=>obtain⟨v,B,a,b,n',c⟩:=ih n (i:=i) (d:=d) (by simpa using e);exact⟨v,B,a,b,n',c⟩
 |@val _ v _ _ _ h r ih=>
  intro n i d e;cases i with
  |zero=>simp at e
  |succ i=>obtain⟨v,B,a,b,n',c⟩:=ih n (i:=i) (d:=d) (by simpa using e);exact⟨v,B,a,b,n',c⟩
 |@own _ _ _ _ _ _ _ _ r ih=>
  intro n i d e;cases i with
  |zero=>simp at e
  |succ i=>obtain⟨v,B,a,b,n',c⟩:=ih (OO.mp n).2 (i:=i) (d:=d) (by simpa using e);exact⟨v,B,by simpa using a,λx hx=>Ov _ (b x hx),n',c⟩
 |@dp _ v B _ _ _ h r ih=>
  intro n i d e;cases i with
  |zero=>simp at e;subst e;exact⟨v,B,rfl,λx hx=>Ot _ hx,(OG.mp n).1,h⟩
  |succ i=>obtain⟨v,B,a,b,n',c⟩:=ih (OG.mp n).2.1 (i:=i) (d:=d) (by simpa using e);exact⟨v,B,by simpa using a,λx hx=>Oq _ (b x hx),n',c⟩
structure Gr(A:List Xl)(H:Hp)(A':List Xl)(H':Hp):Prop where
 kp:∀b o,b∉A->H b=Qs o->H' b=Qs o
 al:∀b∈A,H' b≠Qn
 nw:∀b∈A',b∈A\/H b=Qn
def Gr.refl (m:Ul H A):Gr A H A H:=⟨λ_ _ _ h=>h,λb hb=>by obtain⟨vs,q⟩:=m b hb;rw[q];simp,λb h=>.inl h⟩
def Gr.of_same (m:Ul H A)(e:Tj H H'):Gr A H A H':=⟨λ_ _ _ h=>e _ _ h,λb hb=>by obtain⟨vs,q⟩:=m b hb;rw[e _ _ q];simp,λb h=>.inl h⟩
def Gr.trans{A2:Ql Xl}(a:Gr A H A1 H1)(b:Gr A1 H1 A2 H2):Gr A H A2 H2 where
 kp:=λx o n h=>b.kp x o (λz=>by rcases a.nw x z with q|q;exact n q;rw[q]at h;cases h) (a.kp x o n h)
 al:=λx hx=>by
  by_cases z:x∈A1
  .exact b.al x z
  .have:=a.al x hx;cases q:H1 x with
   |none=>exact absurd q this
   |some o=>rw[b.kp x o z q];simp
 nw:=λx hx=>by
  rcases b.nw x hx with q|q
  .exact a.nw x q
  .by_cases z:x∈A
   .exact .inl z
   .refine .inr ?_;cases w:H x with
    |none=>rfl
    |some o=>rw[a.kp x o z w]at q;cases q
def Gr.same (g:Gr A H A' H'):Tj (ah (A++F) H) (ah (A'++F) H'):=λb o h=>by
 obtain⟨n,h⟩:=cN h;have n1:b∉A:=λz=>n (Ot _ z);refine bA (g.kp b o n1 h) λz=>?_;rcases Ow.mp z with z|z
 .rcases g.nw b z with q|q
  .exact n1 q
  .rw[q]at h;cases h
 .exact n (Oq _ z)
end DL
variable{kt:DL.D->DL.Th->Qo DL.Th}{t:DL.Th}{ds:Ql DL.D}{r:DL.Ev}{G:Ql DL.D->Qo DL.Ev}
namespace DL
open PySem.Spec L2
abbrev DE:=Th->Qo Ev
inductive dE(K:Ou)(F:List Xl)(f:DE)(σ:L2.St)(H:Hp)(Q:VK):Prop
 |mk (A t r:_) (_:RS K F H A t σ) (_:f t=Qs r) (_:∀v H',Tj H H'->T8 K F A H H' r v->Q v H')
def PE.imp{t t':TE}(h:PE X e t)(i:∀σ H Q,t' σ H Q->t σ H Q):PE X e t':=λpins s σ H Q I q=>h pins s σ H Q I (i σ H Q q)
section
variable {fa fb fc:DE}
def af(i:Nat):DE:=λt=>match t[i]? with
 |some (.val d)=>Qs (.cl d)
 |some (.own xs)=>Qs (.tm (.lst xs))
 |some (.dp d)=>Qs (.tm d)
 |_=>Qn
def aa(i:Nat) (hN:X.N[i]?=Qs x:=by rfl)(hv:dt X.env.scope x:=by first|exact Or.inl rfl|exact Or.inr (Or.inl rfl)|exact Or.inr (Or.inr rfl))(hd:UR x:=by decide) (UI:Vz x:=by decide):PE X (.Name x pos) (dE X.K F (af i)):=by
 refine PE.imp (dH (i:=i) hN hv hd UI) ?_;rintro σ H Q ⟨A,t,r,R,e,h⟩;unfold af at e;split at e
 .rename_i d q;cases e;obtain⟨v,h1,h2⟩:=R.rel.YE q;exact⟨v,h1,h v H (Tj.refl H) h2⟩
 .rename_i ds q;cases e;obtain⟨p,vs,h1,h2,h3,h4⟩:=R.rel.Wm q;refine⟨_,h1,h _ H (Tj.refl H) ?_⟩;exact .lst (TZ.of (bA h3 (R.dj p h2))) (Ts.mono (bf H λa z=>Oq _ z) h4)
 .rename_i d q;cases e;obtain⟨v,B,h1,h2,h0,h3⟩:=R.rel.zbD R.nd q;refine⟨_,h1,h _ H (Tj.refl H) ?_⟩;exact h3.rep (bf H λa z=>Oq _ z) λb hb o w=>bA w (R.dj b (h2 b hb))
 .cases e
def dC(d:D):DE:=λ_=>Qs (.cl d)
def aH{i j pos}:PE X (.Constant (.int i) j pos) (dE X.K F (dC (.int i))):=PE.imp wH λσ H Q ⟨A,t,r,R,e,h⟩=>by cases e;exact h _ H (Tj.refl H) (.int i)
def mF{b j pos}:PE X (.Constant (.bool b) j pos) (dE X.K F (dC (.bl b))):=PE.imp JX λσ H Q ⟨A,t,r,R,e,h⟩=>by cases e;exact h _ H (Tj.refl H) (.bl b)
def ke{j pos}:PE X (.Constant .none j pos) (dE X.K F (dC .TX)):=PE.imp JN λσ H Q ⟨A,t,r,R,e,h⟩=>by cases e;exact h _ H (Tj.refl H) .TX
noncomputable def Vh(X:Cx)(F:Ql Xl)(f:OM->OM->Sem OM)(k:Ev->Ev->Qo Ev):Prop:=∀(pins:Ql (Xl×Obj)) (s:OJ) (σ:L2.St) (H0 H:Hp) (A:Ql Xl) (x y:V) (v u:OM) (Q:VK) (r1 r2 r:Ev),Inv X pins σ H s->Ul H0 (A++F)->Tj H0 H->RelV x v->RelV y u->T8 X.K F A H0 H r1 x->T8 X.K F A H0 H r2 y->k r1 r2=Qs r->(∀z H',Tj H H'->T8 X.K F A H0 H' r z->Q z H')->wpAny (model X.prog X.w) X.A (f v u) (EP X pins σ Q) X.xe s
def d2(k:Ev->Ev->Qo Ev)(fa fb:DE):DE:=λt=>(fa t).bind λr1=>(fb t).bind λr2=>k r1 r2
inductive Two(X:Cx)(F:List Xl)(fa fb:DE)(k:Ev->Ev->Option Ev)(σ:L2.St)(H:Hp)(Q:VK):Prop
 |mk (A t r1 r2 r:_) (_:RS X.K F H A t σ) (_:fa t=Qs r1) (_:fb t=Qs r2) (_:k r1 r2=Qs r) (_:(∀v H',Tj H H'->T8 X.K F A H H' r v->Q v H')) (_:dE X.K F fa σ H λx H1=>dE X.K F fb σ H1 λy H2=>Tj H H2/\T8 X.K F A H H2 r1 x/\T8 X.K F A H H2 r2 y)
def two{k:Ev->Ev->Qo Ev}(h:dE X.K F (d2 k fa fb) σ H Q):Two X F fa fb k σ H Q:=by obtain⟨A,t,r,R,e,h⟩:=h;unfold d2 at e;refine aB e λr1 e1 e=>?_;refine aB e λr2 e2 e=>?_;exact⟨A,t,r1,r2,r,R,e1,e2,e,h,A,t,r1,R,e1,λx H1 g1 q1=>⟨A,t,r2,R.grow g1,e2,λy H2 g2 q2=>⟨g1.trans g2,q1.mono g2,q2.back g1⟩⟩⟩
def bR{k:Ev->Ev->Qo Ev}(ho:Vh X F (binaryOp op) k)(ha:PE X a (dE X.K F fa))(hb:PE X b (dE X.K F fb)):PE X (.BinOp a op b pos) (dE X.K F (d2 k fa fb)):=by intro pins s σ H Q I h;obtain⟨A,t,r1,r2,r,R,e1,e2,e,h,w⟩:=two h;refine wpAny_BinOp (uj ha hb I w λv u s2 x y H2 I2 rx ry q=>?_);obtain⟨g,q1,q2⟩:=q;exact ho pins s2 σ H H2 A x y v u Q r1 r2 r I2 R.mu g rx ry q1 q2 e λz H' g'=>h z H' (g.trans g')
def kI(C:Int->Int->Bool)(g:Int->Int->D):Ev->Ev->Qo Ev:=λr1 r2=>match r1.d,r2.d with
 |.int i,.int j=>if C i j then Qs (.cl (g i j)) else Qn
 |_,_=>Qn
def cI{i:Int}(h:Rep K H (.int i) v):v=.int i:=by cases h;rfl
def jx{f:OM->OM->Sem OM}{C:Int->Int->Prop}{g:Int->Int->V}{C':Int->Int->Bool}{g':Int->Int->D}(h:eh X f (rI C g))(hc:∀i j,C' i j=Qt->C i j) (hg:∀H i j,Rep X.K H (g' i j) (g i j)):Vh X F f (kI C' g'):=by
 intro pins s σ H0 H A x y v u Q r1 r2 r I m g0 rx ry q1 q2 e hq;have p1:=q1.full;have p2:=q2.full;unfold kI at e;split at e
 .rename_i i j d1 d2;split at e
  .rename_i c;cases e;rw[d1]at p1;rw[d2]at p2;cases cI p1;cases cI p2;exact h pins s σ H _ _ v u Q I rx ry ⟨i,j,rfl,rfl,hc i j c,hq _ H (Tj.refl H) (hg _ i j)⟩
  .cases e
 .cases e
def om{f:OM->OM->Sem OM}{g:Int->Int->V}(h:eh X f (kd g)):eh X f (rI (λ_ _=>True) g):=λpins s σ H x y v u Q I rx ry ⟨i,j,e1,e2,_,q⟩=>h pins s σ H x y v u Q I rx ry ⟨i,j,e1,e2,q⟩
def ic:Int->Int->Bool:=λ_ _=>Qt
def Wy:Vh X F (binaryOp .Add) (kI ic λi j=>.int (i+j)):=jx (om Kc) (λ_ _ _=>trivial) λ_ _ _=>.int _
def BP:Vh X F (binaryOp .Sub) (kI ic λi j=>.int (i-j)):=jx (om JZ) (λ_ _ _=>trivial) λ_ _ _=>.int _
def Uj:Nat:=2^4096
def sm(i:Int):Bool:=decide (i.natAbs<Uj)
def Xe(i j:Int):Bool:=sm i&&sm j
def Xv(_ j:Int):Bool:=sm j&&decide (j≠0)
def Cw{k:Nat}(h:n<2^k):n.log2<=k:=by
 by_cases z:n=0
 .subst z;simp
 .exact Q7 ((Vr z).mpr h)
def Xe.ok{i j:Int}(h:Xe i j=Qt):IntMulOk i j:=by
 simp only[Xe,sm,OH,UX]at h;refine mulOk_of_bits (m:=4097) (n:=4097) ?_ ?_ (by decide)
 .exact intBits_le (OS h.1 (by unfold Uj;exact P5 (by decide) (by decide)))
 .exact intBits_le (OS h.2 (by unfold Uj;exact P5 (by decide) (by decide)))
def Wd:Vh X F (binaryOp .Mult) (kI Xe λi j=>.int (i*j)):=jx (C:=IntMulOk) (ou λ_ _ _ _ _ _ _ hc q=>mul_int q hc) (λ_ _ h=>Xe.ok h) λ_ _ _=>.int _
def Xv.ok{i j:Int}(h:Xv i j=Qt):j≠0/\j.natAbs.log2<9000:=by simp only[Xv,sm,OH,UX]at h;have:=Cw h.1;exact⟨h.2,by lia⟩
def k8:Vh X F (binaryOp .FloorDiv) (kI Xv λi j=>.int (i.fdiv j)):=jx (C:=λ_ j=>j≠0/\j.natAbs.log2<9000) (ou λ_ _ _ _ _ _ _ hc q=>floordiv_int hc.1 q (.inl (PyProof.noPylong_of_log2 hc.2))) (λ_ _ h=>Xv.ok h) λ_ _ _=>.int _
def jS(_ j:Int):Bool:=decide (j≠0)
def jz:Vh X F (binaryOp .Mod) (kI jS λi j=>.int (i.fmod j)):=jx J6 (λi j h=>by simpa[jS] using h) λ_ _ _=>.int _
def nh(i j:Int):Bool:=decide (0<=j/\j<=1000/\i.natAbs<18446744073709551616)
def wM:Vh X F (binaryOp .Pow) (kI nh λi j=>.int (i^j.toNat)):=jx J3 (λi j h=>by
 simp only[nh,UX]at h;exact⟨h.1,by lia,by show i.natAbs<2^64;lia⟩) λ_ _ _=>.int _
def oy:Vh X F (compareOp .Lt) (kI ic λi j=>.bl (decide (i<j))):=jx (om J7) (λ_ _ _=>trivial) λ_ _ _=>.bl _
def KY:Vh X F (compareOp .LtE) (kI ic λi j=>.bl (decide (i<=j))):=jx (om J8) (λ_ _ _=>trivial) λ_ _ _=>.bl _
def mJ:Vh X F (compareOp .Gt) (kI ic λi j=>.bl (decide (j<i))):=jx (om Ka) (λ_ _ _=>trivial) λ_ _ _=>.bl _
def lC(k k':Ev->Ev->Qo Ev):Ev->Ev->Qo Ev:=λr1 r2=>match k r1 r2 with
 |some r=>Qs r
 |none=>k' r1 r2
def Vh.or{f:OM->OM->Sem OM}{k k':Ev->Ev->Qo Ev}(h:Vh X F f k)(h':Vh X F f k'):Vh X F f (lC k k'):=by
 intro pins s σ H0 H A x y v u Q r1 r2 r I m g0 rx ry q1 q2 e hq;unfold lC at e;split at e
 .rename_i z;cases e;exact h pins s σ H0 H A x y v u Q r1 r2 _ I m g0 rx ry q1 q2 z hq
 .exact h' pins s σ H0 H A x y v u Q r1 r2 _ I m g0 rx ry q1 q2 e hq
def d1(k:Ev->Qo Ev)(fa:DE):DE:=λt=>(fa t).bind k
def oO:Ev->Qo Ev:=λr=>match r.d with
 |.int i=>Qs (.cl (.int (-i)))
 |_=>Qn
def BE(ha:PE X a (dE X.K F fa)):PE X (.UnaryOp .USub a pos) (dE X.K F (d1 oO fa)):=by
 refine PE.imp (JM FF ha) ?_;rintro σ H Q ⟨A,t,r,R,e,h⟩;unfold d1 at e;refine aB e λr1 e1 e=>?_;refine⟨A,t,r1,R,e1,λx H1 g1 q1=>?_⟩;have e:oO r1=Qs r:=e;unfold oO at e;split at e
 .rename_i i z;cases e;have p:=q1.full;rw[z]at p;exact⟨i,cI p,h _ H1 g1 (.int _)⟩
 .cases e
end
end DL
variable{fa:DL.DE}{fb:DL.DE}{fc:DL.DE}{fo:DL.DE}{fe:DL.DE}
namespace DL
open PySem.Spec L2
inductive UQ(K:Ou)(F A:List Xl)(H H':Hp):List Ev->List V->Prop
 |nil:UQ K F A H H' [] []
 |cons {r:Ev}{v:V}{rs:List Ev}{vs:List V}:T8 K F A H H' r v->UQ K F A H H' rs vs->UQ K F A H H' (r::rs) (v::vs)
def UQ.back{K:Ou}{F A:Ql Xl}{H0 H H1:Hp}(e:Tj H0 H):∀{rs:Ql Ev}{vs:Ql V},UQ K F A H H1 rs vs->UQ K F A H0 H1 rs vs
 |_,_,.nil=>.nil
 |_,_,.cons h r=>.cons (h.back e) (UQ.back e r)
def UQ.full{K:Ou}{F A:Ql Xl}{H H':Hp}:∀{rs:Ql Ev}{vs:Ql V},UQ K F A H H' rs vs->Ts K H' (rs.map Ev.d) vs
 |_,_,.nil=>.nil
 |_,_,.cons h r=>.cons h.full (UQ.full r)
def UQ.WW{K:Ou}{F A:Ql Xl}{H H':Hp}(m:Ul H (A++F)):∀{rs:Ql Ev}{vs:Ql V},UQ K F A H H' rs vs->Ts K (ah F H') (rs.map Ev.d) vs
 |_,_,.nil=>.nil
 |_,_,.cons h r=>.cons (h.WW m) (UQ.WW m r)
def UQ.clean{K:Ou}{F A:Ql Xl}{H H':Hp}(m:Ul H (A++F))(e:Tj H H'):∀{rs:Ql Ev}{vs:Ql V},UQ K F A H H' rs vs->rs.all Ev.ok=Qt->Ts K (ah (A++F) H') (rs.map Ev.d) vs
 |_,_,.nil,_=>.nil
 |_,_,.cons h r,c=>by simp only[PN,OH]at c;exact .cons (h.clean m e c.1) (UQ.clean m e r c.2)
abbrev DA:=Th->Qo (Ql Ev)
inductive dA(K:Ou)(F:List Xl)(f:DA)(σ:L2.St)(H:Hp)(Q:List V->Hp->Prop):Prop
 |mk (A t rs:_) (_:RS K F H A t σ) (_:f t=Qs rs) (_:∀vs H',Tj H H'->UQ K F A H H' rs vs->Q vs H')
def PA.imp{e:Ql Xn}{t t':TA}(h:PA X e t)(i:∀σ H Q,t' σ H Q->t σ H Q):PA X e t':=λpos pins s σ H Q I q=>h pos pins s σ H Q I (i σ H Q q)
def ai:DA:=λ_=>Qs []
def ae(f:DE)(g:DA):DA:=λt=>(f t).bind λr=>(g t).bind λrs=>Qs (r::rs)
section
variable {g:DA}
def aG:PA X [] (dA X.K F ai):=PA.imp gF λσ H Q ⟨A,t,rs,R,e,h⟩=>by cases e;exact h [] H (Tj.refl H) .nil
def aw(ha:PE X a (dE X.K F fa))(hr:PA X es (dA X.K F g))(hs:OP (a::es) X.env=(Qf,eval a X.env)::OP es X.env:=by rfl):PA X (a::es) (dA X.K F (ae fa g)):=by refine PA.imp (gm ha hr hs) ?_;rintro σ H Q ⟨A,t,rs,R,e,h⟩;unfold ae at e;refine aB e λr1 e1 e=>?_;refine aB e λrs2 e2 e=>?_;cases e;exact⟨A,t,r1,R,e1,λx H1 g1 q1=>⟨A,t,rs2,R.grow g1,e2,λxs H2 g2 q2=>h _ _ (g1.trans g2) (.cons (q1.mono g2) (q2.back g1))⟩⟩
def cG:Ql Ev->Qo Ev:=λrs=>if rs.length<=1000 then(if rs.all Ev.ok then Qs (.cl (.tup (rs.map Ev.d))) else Qs (.tm (.tup (rs.map Ev.d)))) else Qn
def ag(k:Ql Ev->Qo Ev)(g:DA):DE:=λt=>(g t).bind k
def UQ.length{K:Ou}{F A:Ql Xl}{H H':Hp}:∀{rs:Ql Ev}{vs:Ql V},UQ K F A H H' rs vs->vs.length=rs.length
 |_,_,.nil=>rfl
 |_,_,.cons _ r=>by simp[UQ.length r]
def W4 (h:n<=100000):n<=O3:=Pr h (by rw[sizeLine_eq];decide)
def dX{o:HO}(h:H p=Qn):Tj H (upd H p o):=λb u e=>by rw[aS (λz=>by rw[z,h]at e;cases e)];exact e
def gS{x1}(h:PA X es (dA X.K F g)):PE X (.Tuple es x1 pos) (dE X.K F (ag cG g)):=by
 refine PE.imp (wG h) ?_;rintro σ H Q ⟨A,t,r,R,e,h⟩;unfold ag at e;refine aB e λrs e1 e=>?_;have e:cG rs=Qs r:=e;unfold cG at e;refine bW e λhl e=>?_;refine⟨A,t,rs,R,e1,λvs H1 g1 q1=>⟨by rw[q1.length];exact W4 (by lia),λp hp=>?_⟩⟩;have s1:=dX (o:=HO.tup vs) hp;refine h _ _ (g1.trans s1) ?_;have np:p∉A++F:=eM (R.mu.mono g1) hp;split at e
 .rename_i c;cases e;exact .tup (UA.of (bA bB np)) (Ts.mono (cY s1) (q1.clean R.mu g1 c))
 .cases e;exact .tup (UA.of (bA bB λz=>np (Oq _ z))) (Ts.mono (cY s1) (q1.WW R.mu))
def bO:Ql Ev->Qo Ev:=λrs=>if rs.length<=1000/\rs.all Ev.ok then Qs (.nw (rs.map Ev.d)) else Qn
def kB{P:Ql Xl}{o:HO}(h:H p=Qn):Tj (ah P H) (ah (p::P) (upd H p o)):=λb u e=>by
 obtain⟨n,e⟩:=cN e;have nb:b≠p:=λz=>by rw[z,h]at e;cases e
 refine bA (by rw[aS nb];exact e) λz=>?_;rcases OC.mp z with z|z
 .exact nb z
 .exact n z
def fh(h:PA X es (dA X.K F g)):PE X (.List es pos) (dE X.K F (ag bO g)):=by refine PE.imp (JP h) ?_;rintro σ H Q ⟨A,t,r,R,e,h⟩;unfold ag at e;refine aB e λrs e1 e=>?_;have e:bO rs=Qs r:=e;unfold bO at e;refine bW e λhl e=>?_;cases e;refine⟨A,t,rs,R,e1,λvs H1 g1 q1=>⟨by rw[q1.length];exact W4 (by lia),λp hp=>?_⟩⟩;have s1:=dX (o:=HO.lst vs) hp;refine h _ _ (g1.trans s1) ⟨p,vs,rfl,?_,bB,Ts.mono (kB hp) (q1.clean R.mu g1 hl.2)⟩;exact Tj.free g1 hp
inductive UY(K:Ou)(G:List D->Option Ev)(vs:List V)(H:Hp)(Q:VK)(x_:XK):Prop
 |mk (Fo ds r:_) (_:Ul H Fo) (_:Ts K (ah Fo H) ds vs) (_:G ds=Qs r) (_:∀v H',Tj H H'->T8 K Fo [] H H' r v->Q v H')
def gL(ok:Bool)(r:Ev):Ev:=if ok then(match r with
  |.cl d=>.cl d
  |.tm d=>.cl d
  |.nw xs=>.nw xs
  |.dn d=>.dn d) else match r with
  |.cl d=>if flat d then .cl d else .tm d
  |.tm d=>if flat d then .cl d else .tm d
  |.nw xs=>if Ui xs then .nw xs else .tm (.lst xs)
  |.dn d=>.dn d
def aO(G:Ql D->Qo Ev):Ql Ev->Qo Ev:=λrs=>(G (rs.map Ev.d)).map (gL (rs.all Ev.ok))
def EI{rs:Ql Ev}{E:XK}(m:Ul H0 (A++F))(g:Tj H0 H)(q:UQ K F A H0 H rs vs)(e:aO G rs=Qs r) (h:∀v H',Tj H H'->T8 K F A H0 H' r v->Q v H'):UY K G vs H Q E:=by
 unfold aO at e;rcases e1:G (rs.map Ev.d) with _|r0
 .rw[e1]at e;cases e
 rw[e1]at e;have e:gL (rs.all Ev.ok) r0=r:=by simpa using e
 have mH:=m.mono g;by_cases c:rs.all Ev.ok=Qt
 .refine⟨A++F,rs.map Ev.d,r0,mH,q.clean m g c,e1,λv H' g' w=>h v H' g' ?_⟩;rw[c]at e;subst e;cases r0 with
  |cl d=>exact w
  |tm d=>exact w
  |nw xs=>obtain⟨p,us,rfl,h1,h2,h3⟩:=w;exact⟨p,us,rfl,Tj.free g h1,h2,h3⟩
  |dn d=>obtain⟨B,h1,h2,h3⟩:=w;exact⟨B,h1,λb hb=>Tj.free g (h2 b hb),h3⟩
 .refine⟨F,rs.map Ev.d,r0,λp hp=>mH p (Oq _ hp),q.WW m,e1,λv H' g' w=>h v H' g' ?_⟩;have c:rs.all Ev.ok=Qf:=by simpa using c
  rw[c]at e;subst e;have m':=mH.mono g';cases r0 with
  |cl d=>
   show T8 K F A H0 H' (if flat d then .cl d else .tm d) v;split
   .rename_i f;exact Rep.UC m' f (Rep.mono (aZ _ _) w)
   .exact w
  |tm d=>
   show T8 K F A H0 H' (if flat d then .cl d else .tm d) v;split
   .rename_i f;exact Rep.UC m' f (Rep.mono (aZ _ _) w)
   .exact w
  |nw xs=>
   obtain⟨p,us,rfl,h1,h2,h3⟩:=w;have np:p∉A++F:=eM mH h1;show T8 K F A H0 H' (if Ui xs then .nw xs else .tm (.lst xs)) _;split
   .rename_i f;refine⟨p,us,rfl,Tj.free g h1,h2,Ts.UC (P:=p::(A++F)) (λb hb=>?_) f (Ts.mono (aZ _ _) h3)⟩;rcases OC.mp hb with rfl|hb
    .exact⟨mL us,h2⟩
    .exact m' b hb
   .exact .lst (TZ.of (bA h2 λz=>np (Oq _ z))) (Ts.mono (bf H' λb z=>Ov _ z) h3)
  |dn d=>obtain⟨B,h1,h2,h3⟩:=w;exact⟨B,h1,λb hb=>Tj.free g (h2 b hb),h3.UC (h3.lists.app m') (aZ _ _)⟩
def JK{k:Nat}{f:Xl}{p:Pos}(Fn:Um X.prog X.w X.K X.mg X.base bg k f fd ps (UY X.K G))(hr:UP k X.A)(hg:Gl X x)(hm:X.mg x=Qs (.ref f))(hk:PV X.K (.ref f)=Qt) (hb:Binds X.K fd ps []) (ha:PA X (a::es) (dA X.K F g)) (V3:UR x:=by decide) (he:OP (a::es) X.env=(Qf,eval a X.env)::OP es X.env:=by rfl) (Vl:(QJ pos (OP es X.env)).any (·.1)=Qf:=by rfl):PE X (.Call (.Name x p) (a::es) [] pos) (dE X.K F (ag (aO G) g)):=by refine PE.imp (BJ Fn hr hg hm hk hb .nil (E:=E0) k6 ha V3 he Vl) ?_;rintro σ H Q ⟨A,t,r,R,e,h⟩;unfold ag at e;refine aB e λrs e1 e=>?_;refine⟨A,t,rs,R,e1,λvs H1 g1 q1=>?_⟩;show UY X.K G (vs++[]) H1 Q E0;rw[Po];exact EI R.mu g1 q1 e λv H' g' w=>h v H' (g1.trans g') w
def Vt(X:Cx)(F:Ql Xl)(f:OM)(k:Ql Ev->Qo Ev):Prop:=∀(pins:Ql (Xl×Obj)) (s:OJ) (σ:L2.St) (H0 H:Hp) (A:Ql Xl) (xs:Ql V) (us:Ql OM) (Q:VK) (rs:Ql Ev) (r:Ev),Inv X pins σ H s->Ul H0 (A++F)->Tj H0 H->Vals xs us->UQ X.K F A H0 H rs xs->k rs=Qs r-> (∀z H',Tj H H'->T8 X.K F A H0 H' r z->Q z H')->wpAny (model X.prog X.w) X.A (call f us) (EP X pins σ Q) X.xe s
def PA.run(ha:PA X es (dA X.K F g)){k:Ql Ev->Qo Ev}{f:OM}(hc:Vt X F f k) (p:Pos)(I:Inv X pins σ H s)(h:dE X.K F (ag k g) σ H Q):wpAny (model X.prog X.w) X.A (spliced (QJ p (OP es X.env))) (λus s1=>wpAny (model X.prog X.w) X.A (call f us) (EP X pins σ Q) X.xe s1) X.xe s:=by obtain⟨A,t,r,R,e,h⟩:=h;unfold ag at e;refine aB e λrs e1 e=>?_;refine aE (ha p pins s σ H (λvs H1=>Tj H H1/\UQ X.K F A H H1 rs vs) I ⟨A,t,rs,R,e1,λvs H1 g1 q1=>⟨g1,q1⟩⟩) λus s1 ⟨vs,H1,I1,r1,g1,q1⟩=>?_;exact hc pins s1 σ H H1 A vs us Q rs r I1 R.mu g1 r1 q1 e λz H' g'=>h z H' (g1.trans g')
def c7{k:Ql Ev->Qo Ev}{p:Pos}{id:String}(hc:Vt X F (.builtin id) k)(hg:Gl X x)(hm:X.mg x=Qn)(hv:bootBuiltins x=Qs (.builtin id))(ha:PA X (a::es) (dA X.K F g))(hn:x≠"__name__":=by decide)(V3:UR x:=by decide) (he:OP (a::es) X.env=(Qf,eval a X.env)::OP es X.env:=by rfl) (Vl:(QJ pos (OP es X.env)).any (·.1)=Qf:=by rfl):PE X (.Call (.Name x p) (a::es) [] pos) (dE X.K F (ag k g)):=by intro pins s σ H Q I h;refine wpAny_Call_Name_kw (iR I hg hm hv ?_ hn V3);exact PyProof.Rows.callWith_builtin1 (PA.run ha hc pos I h) he Vl
def kY{k:Ql Ev->Qo Ev}{p:Pos}(hc:Vt X F (.type T) k)(hg:Gl X x)(hm:X.mg x=Qn)(hv:bootBuiltins x=Qs (.type T))(ha:PA X (a::es) (dA X.K F g))(hn:x≠"__name__":=by decide)(V3:UR x:=by decide) (he:OP (a::es) X.env=(Qf,eval a X.env)::OP es X.env:=by rfl) (Vl:(QJ pos (OP es X.env)).any (·.1)=Qf:=by rfl):PE X (.Call (.Name x p) (a::es) [] pos) (dE X.K F (ag k g)):=by intro pins s σ H Q I h;refine wpAny_Call_Name_kw (iR I hg hm hv ?_ hn V3);exact PyProof.Rows.callWith_type1 (PA.run ha hc pos I h) he Vl
def Vt.of{f:OM}{r:Ql V->Hp->VK->Prop}{k:Ql Ev->Qo Ev}(h:gc X f r) (i:∀(H0 H:Hp) (A:Ql Xl) (xs:Ql V) (rs:Ql Ev) (e:Ev) (Q:VK),Ul H0 (A++F)->Tj H0 H->UQ X.K F A H0 H rs xs->k rs=Qs e->(∀z H',Tj H H'->T8 X.K F A H0 H' e z->Q z H')->r xs H Q):Vt X F f k:=λpins s σ H0 H A xs us Q rs e I m g v q ek hq=>h pins s σ H xs us Q I v (i H0 H A xs rs e Q m g q ek hq)
def ku:Ql Ev->Qo Ev:=λrs=>match rs with
 |[r]=>(match r.d with
  |.int i=>Qs (.cl (.int (if i<0 then-i else i)))
  |_=>Qn)
 |_=>Qn
def EF:Vt X F (.builtin "abs") ku:=Vt.of NQ λH0 H A xs rs e Q m g q ek hq=>by
 unfold ku at ek;split at ek
 .rename_i r;split at ek
  .rename_i i z;cases ek;cases q with
   |cons q1 q2=>cases q2;have p:=q1.full;rw[z]at p;cases cI p;exact⟨i,rfl,hq _ H (Tj.refl H) (.int _)⟩
  .cases ek
 .cases ek
def bK:Ql Ev->Qo Ev:=λrs=>match rs with
 |[r]=>(match r.d with
  |.lst xs=>Qs (.cl (.int xs.length))
  |.tup xs=>Qs (.cl (.int xs.length))
  |_=>Qn)
 |_=>Qn
def iA:Vt X F (.builtin "len") bK:=Vt.of NP λH0 H A xs rs e Q m g q ek hq=>by
 unfold bK at ek;split at ek
 .rename_i r;cases q with
  |cons q1 q2=>
   cases q2;have p:=q1.full;split at ek
   .rename_i ds z;cases ek;rw[z]at p;cases p with
    |lst h1 h2=>exact⟨_,_,rfl,.inl h1,by rw[h2.length];exact hq _ H (Tj.refl H) (.int _)⟩
   .rename_i ds z;cases ek;rw[z]at p;cases p with
    |tup h1 h2=>exact⟨_,_,rfl,.inr h1,by rw[h2.length];exact hq _ H (Tj.refl H) (.int _)⟩
   .cases ek
 .cases ek
end
end DL
variable{ga:DL.DA}
namespace DL
open PySem.Spec L2
abbrev DT:=Th->Qo Bool
inductive dT(K:Ou)(F:List Xl)(f:DT)(σ:L2.St)(H:Hp)(Q:Bool->Hp->Prop):Prop
 |mk (A t b:_) (_:RS K F H A t σ) (_:f t=Qs b) (_:∀H',Tj H H'->Q b H')
def PT.imp{t t':TT}(h:PT X e t)(i:∀σ H Q,t' σ H Q->t σ H Q):PT X e t':=λpins s σ H Q I q=>h pins s σ H Q I (i σ H Q q)
def PW.imp{t t':TT}(h:PW X e t)(i:∀σ H Q,t' σ H Q->t σ H Q):PW X e t':=λw pins s σ H Q I q=>h w pins s σ H Q I (i σ H Q q)
def uL:D->Qo Bool
 |.TX=>Qs Qf
 |.bl b=>Qs b
 |.int i=>Qs (i !=0)
 |.tup xs=>Qs (!xs.isEmpty)
 |.lst xs=>Qs (!xs.isEmpty)
 |.Uk ks _=>Qs (!ks.isEmpty)
 |.U1 _=>Qn
 |.VN _=>Qn
 |.adr _=>Qn
 |.T4 _=>Qn
 |.obj _ _ _=>Qn
 |.str y=>if y.length<=100000 then Qs ((y.length:Int) !=0) else Qn
def xC{α β:Type}{xs:Ql α}{ys:Ql β}(h:xs.length=ys.length):xs.isEmpty=ys.isEmpty:=by cases xs<;>cases ys<;>simp_all
def FU{d:D}{b:Bool}(r:Rep K H d v)(e:uL d=Qs b):zG K v H b:=by
 cases r with
 |TX=>cases e;rfl
 |bl b=>cases e;rfl
 |int i=>cases e;rfl
 |str x=>
  simp only[uL]at e;split at e
  .cases e;exact⟨W4 (by assumption),rfl⟩
  .cases e
 |tup h1 h2=>cases e;exact .inr (.inl ⟨_,h1,by rw[xC h2.length]⟩)
 |lst h1 h2=>cases e;exact .inl ⟨_,h1,by rw[xC h2.length]⟩
 |@Uk ks ds p vs l h1 h2=>
  cases e;have e1:(cU ks vs).length=ks.length:=by unfold cU;rw[RI];lia
  exact .inr (.inr ⟨_,h1,by rw[xC e1]⟩)
 |U1 h=>cases e
 |VN h=>cases e
 |adr _=>cases e
 |T4 _=>cases e
 |obj _ _ _=>cases e
def iZ(f:DE):DT:=λt=>(f t).bind λr=>uL r.d
def aC(f:DE):DT:=λt=>(f t).bind λr=>match r.d with
 |.bl b=>Qs b
 |_=>Qn
def pE(c:DT)(fa fb:DE):DE:=λt=>(c t).bind λb=>if b then fa t else fb t
def iz(f g:DT):DT:=λt=>(f t).bind λb=>if b then g t else Qs Qf
def iw(f g:DT):DT:=λt=>(f t).bind λb=>if b then Qs Qt else g t
def jO(f:DT):DT:=λt=>(f t).bind λb=>Qs (!b)
section
variable {g g':DA}{ft fu:DT}
def sh(ha:PE X a (dE X.K F fa))(he:∀whole,isTrue a X.env whole=(do let v<-whole;standAt a.pos;holding [v] (truthy v)):=by intro _;rfl):PT X a (dT X.K F (iZ fa)):=by refine PT.imp (IA ha he) ?_;rintro σ H Q ⟨A,t,r,R,e,h⟩;unfold iZ at e;refine aB e λr1 e1 e=>?_;exact⟨A,t,r1,R,e1,λv H' g' q=>⟨r,FU q.full e,h H' g'⟩⟩
def bV{op:CmpOp}{k:Ev->Ev->Qo Ev}(ho:Vh X F (compareOp op) k)(ha:PE X a (dE X.K F fa))(hb:PE X b (dE X.K F fb))(hm:behindInMarks op b=Qf:=by first|exact wV _|(with_unfolding_all rfl)):PT X (.Compare a [op] [b] pos) (dT X.K F (aC (d2 k fa fb))):=by
 intro pins s σ H Q I h;obtain⟨A,t,b',R,e,h⟩:=h;unfold aC at e;refine aB e λr0 e1 e=>?_;have w0:dE X.K F (d2 k fa fb) σ H (λz H'=>Tj H H'/\Rep X.K H' r0.d z):=⟨A,t,r0,R,e1,λv H' g q=>⟨g,q.full⟩⟩;obtain⟨A2,t2,r1,r2,r,R2,ZY,Zf,e3,h3,w⟩:=two w0;refine wpAny_isTrue_Compare1 (uj ha hb I w λv u s2 x y H2 I2 rx ry q=>?_) hm;obtain⟨g,q1,q2⟩:=q;refine aE (ho pins s2 σ H H2 A2 x y v u (λz H'=>Tj H H'/\Rep X.K H' r0.d z) r1 r2 r I2 R2.mu g rx ry q1 q2 e3 λz H' g'=>h3 z H' (g.trans g')) λcc s3 ⟨z,H3,I3,r3,g3,q3⟩=>?_;have e:(match r0.d with|.bl b=>Qs b|_=>Qn)=Qs b':=e;split at e
 .rename_i b2 z2;cases e;rw[z2]at q3;cases q3;cases r3;exact wpAny_truthy_bool ⟨H3,I3,h H3 g3⟩
 .cases e
def r8(ha:PT X a (dT X.K F ft)):PW X (.BoolOp .And [a] pos) (dT X.K F ft):=A7 ha
def vV(ha:PT X a (dT X.K F ft)):PW X (.BoolOp .Or [a] pos) (dT X.K F ft):=A4 ha
def sf(ha:PT X a (dT X.K F ft))(hb:PW X (.BoolOp .And (b::rest) pos) (dT X.K F fu)):PW X (.BoolOp .And (a::b::rest) pos) (dT X.K F (iz ft fu)):=by
 refine PW.imp (Io ha hb) ?_;rintro σ H Q ⟨A,t,r,R,e,h⟩;unfold iz at e;refine aB e λr1 e1 e=>?_;refine⟨A,t,r1,R,e1,λH1 g1=>?_⟩;cases r1 with
 |true=>exact⟨A,t,r,R.grow g1,e,λH2 g2=>h H2 (g1.trans g2)⟩
 |false=>cases e;exact h H1 g1
def r6(ha:PT X a (dT X.K F ft))(hb:PW X (.BoolOp .Or (b::rest) pos) (dT X.K F fu)):PW X (.BoolOp .Or (a::b::rest) pos) (dT X.K F (iw ft fu)):=by
 refine PW.imp (A6 ha hb) ?_;rintro σ H Q ⟨A,t,r,R,e,h⟩;unfold iw at e;refine aB e λr1 e1 e=>?_;refine⟨A,t,r1,R,e1,λH1 g1=>?_⟩;cases r1 with
 |true=>cases e;exact h H1 g1
 |false=>exact⟨A,t,r,R.grow g1,e,λH2 g2=>h H2 (g1.trans g2)⟩
def vX(ha:PT X a (dT X.K F ft)):PT X (.UnaryOp .Not a pos) (dT X.K F (jO ft)):=by refine PT.imp (IB ha) ?_;rintro σ H Q ⟨A,t,r,R,e,h⟩;unfold jO at e;refine aB e λr1 e1 e=>?_;cases e;exact⟨A,t,r1,R,e1,λH1 g1=>h H1 g1⟩
def JC(hc:PT X c (dT X.K F ft))(ha:PE X a (dE X.K F fa))(hb:PE X b (dE X.K F fb)):PE X (.IfExp c a b pos) (dE X.K F (pE ft fa fb)):=by
 refine PE.imp (JQ hc ha hb) ?_;rintro σ H Q ⟨A,t,r,R,e,h⟩;unfold pE at e;refine aB e λr1 e1 e=>?_;refine⟨A,t,r1,R,e1,λH1 g1=>?_⟩;cases r1 with
 |true=>exact⟨A,t,r,R.grow g1,e,λv2 H2 g2 q2=>h v2 H2 (g1.trans g2) (q2.back g1)⟩
 |false=>exact⟨A,t,r,R.grow g1,e,λv2 H2 g2 q2=>h v2 H2 (g1.trans g2) (q2.back g1)⟩
end
inductive Out where
 |nx (t:Th)|rt (r:Ev)|bk (t:Th)|ct (t:Th)
abbrev DS:=Th->Qo Out
def After(K:Ou)(F A:Ql Xl)(H:Hp)(N:L2.St->Hp->Prop)(t:Th):Prop:=∀σ' H' A',Gr A H A' H'->RS K F H' A' t σ'->N σ' H'
inductive zhY(K:Ou)(F A:List Xl)(H H':Hp)(xs:List D)(v:V):Prop
 |mk (p:Xl) (vs:List V) (_:v=.ref p) (_:p∈A\/H p=Qn) (_:p∉F) (_:H' p=Qs (.lst vs)) (_:Ts K (ah (p::F) H') xs vs)
inductive zhZ(K:Ou)(F A:List Xl)(H H':Hp)(d:D)(v:V):Prop
 |mk (B:List Xl) (_:B.Nodup) (_:∀b∈B,(b∈A\/H b=Qn)/\b∉F) (_:T6 K (ah (B++F) H') H' d v B)
def Wo(K:Ou)(F A:Ql Xl)(H H':Hp):Ev->V->Prop
 |.cl d,v=>Rep K (ah F H') d v
 |.tm d,v=>Rep K (ah F H') d v
 |.nw xs,v=>zhY K F A H H' xs v
 |.dn d,v=>zhZ K F A H H' d v
def Back(K:Ou)(F A:Ql Xl)(H:Hp)(N:VK)(r:Ev):Prop:=∀v H' A',Gr A H A' H'->Wo K F A H H' r v->N v H'
inductive dS(K:Ou)(F:List Xl)(g:DS)(E:Ends)(σ:L2.St)(H:Hp):Prop
 |mk (A:List Xl) (t:Th) (o:Out) (_:RS K F H A t σ) (_:g t=Qs o) (_:match o with
 |.nx t'=>After K F A H E.nx t'
 |.bk t'=>After K F A H E.bk t'
 |.ct t'=>After K F A H E.ct t'
 |.rt r=>Back K F A H E.rt r)
end DL
variable{g:DL.DS}{ft:DL.DT}{g1:DL.DS}{g2:DL.DS}{fu:DL.DT}
namespace DL
open PySem.Spec L2
def Wo.back (g:Gr A H A1 H1)(h:Wo K F A1 H1 H' r v):Wo K F A H H' r v:=by
 cases r with
 |cl d=>exact h
 |tm d=>exact h
 |nw xs=>
  obtain⟨p,vs,rfl,h1,h2,h3,h4⟩:=h;refine⟨p,vs,rfl,?_,h2,h3,h4⟩;rcases h1 with h1|h1
  .exact g.nw p h1
  .by_cases z:p∈A
   .exact .inl z
   .refine .inr ?_;cases w:H p with
    |none=>rfl
    |some o=>rw[g.kp p o z w]at h1;cases h1
 |dn d=>
  obtain⟨B,h0,h1,h2⟩:=h;refine⟨B,h0,λp hp=>⟨?_,(h1 p hp).2⟩,h2⟩;rcases(h1 p hp).1 with h1|h1
  .exact g.nw p h1
  .by_cases z:p∈A
   .exact .inl z
   .refine .inr ?_;cases w:H p with
    |none=>rfl
    |some o=>rw[g.kp p o z w]at h1;cases h1
def After.back{N:L2.St->Hp->Prop}(h:After K F A H N t)(g:Gr A H A1 H1):After K F A1 H1 N t:=λσ' H' A' g' R=>h σ' H' A' (g.trans g') R
def Back.back{K:Ou}{F A A1:Ql Xl}{H H1:Hp}{N:VK}{r:Ev}(h:Back K F A H N r)(g:Gr A H A1 H1):Back K F A1 H1 N r:=λv H' A' g' R=>h v H' A' (g.trans g') (R.back g)
def PS.imp{e:Xo}{t t':TS}(h:PS X e t)(i:∀E σ H,t' E σ H->t E σ H):PS X e t':=λpins s σ H D I q=>h pins s σ H D I (i D σ H q)
def Uu.imp{e:Ql Xo}{t t':TS}(h:Uu X e t)(i:∀E σ H,t' E σ H->t E σ H):Uu X e t':=λpins s σ H D I q=>h pins s σ H D I (i D σ H q)
def Ul.left (h:Ul H (A++F)):Ul H A:=λp hp=>h p (Ot _ hp)
def bX:DS:=λt=>Qs (.nx t)
def aF(g1 g2:DS):DS:=λt=>(g1 t).bind λo=>match o with
 |.nx t'=>g2 t'
 |.rt r=>Qs (.rt r)
 |.bk t'=>Qs (.bk t')
 |.ct t'=>Qs (.ct t')
def eD:Uu X [] (dS X.K F bX):=Uu.imp Bj λE σ H ⟨A,t,o,R,e,h⟩=>by cases e;exact h σ H A (Gr.refl R.mu.left) R
def ba(h1:PS X st (dS X.K F g1))(h2:Uu X rest (dS X.K F g2)):Uu X (st::rest) (dS X.K F (aF g1 g2)):=by
 refine Uu.imp (v3 h1 h2) ?_;rintro E σ H ⟨A,t,o,R,e,h⟩;unfold aF at e;refine aB e λo1 e1 e=>?_;refine⟨A,t,o1,R,e1,?_⟩;cases o1 with
 |nx t'=>
  intro σ' H' A' g' R';refine⟨A',t',o,R',e,?_⟩;cases o with
  |nx t2=>exact After.back h g'
  |bk t2=>exact After.back h g'
  |ct t2=>exact After.back h g'
  |rt r=>exact Back.back h g'
 |rt r=>cases e;exact h
 |bk t2=>cases e;exact h
 |ct t2=>cases e;exact h
def aW(h1:PS X st (dS X.K F g1)):Uu X [st] (dS X.K F g1):=sj h1
def bI(c:DT)(g1 g2:DS):DS:=λt=>(c t).bind λb=>if b then g1 t else g2 t
def dZ{s1 s2:Ql Xo}(hc:PT X c (dT X.K F ft))(ha:Uu X s1 (dS X.K F g1))(hb:Uu X s2 (dS X.K F g2)):PS X (.If c s1 s2 pos) (dS X.K F (bI ft g1 g2)):=by
 refine PS.imp (Bm hc ha hb) ?_;rintro E σ H ⟨A,t,o,R,e,h⟩;unfold bI at e;refine aB e λr1 e1 e=>?_;refine⟨A,t,r1,R,e1,λH1 gs=>?_⟩;have gr:Gr A H A H1:=Gr.of_same R.mu.left gs;cases r1 with
 |true=>
  refine⟨A,t,o,R.grow gs,e,?_⟩;cases o with
  |nx t2=>exact After.back h gr
  |bk t2=>exact After.back h gr
  |ct t2=>exact After.back h gr
  |rt r=>exact Back.back h gr
 |false=>
  refine⟨A,t,o,R.grow gs,e,?_⟩;cases o with
  |nx t2=>exact After.back h gr
  |bk t2=>exact After.back h gr
  |ct t2=>exact After.back h gr
  |rt r=>exact Back.back h gr
def cO(f:DE):DS:=λt=>(f t).bind λr=>Qs (.rt r)
def Wo.of{F:Ql Xl}(m:Ul H (A++F))(h:T8 K F A H H' r v):Wo K F A H H' r v:=by
 cases r with
 |cl d=>exact Rep.mono (bf H' λa z=>Oq _ z) h
 |tm d=>exact h
 |nw xs=>
  obtain⟨p,vs,rfl,h1,h2,h3⟩:=h;have np:p∉A++F:=eM m h1;refine⟨p,vs,rfl,.inr h1,λz=>np (Oq _ z),h2,Ts.mono (bf H' λa z=>?_) h3⟩;rcases OC.mp z with z|z
  .rw[z];exact Ox ..
  .exact Ov _ (Oq _ z)
 |dn d=>
  obtain⟨B,h1,h2,h3⟩:=h;refine⟨B,h1,λb hb=>⟨.inr (h2 b hb),λz=>eM m (h2 b hb) (Oq _ z)⟩,T6.mono (bf H' λa z=>?_) h3 λ_ _ _ q=>q⟩;rcases Ow.mp z with z|z
  .exact Ot _ z
  .exact Oq _ (Oq _ z)
def dG(ha:PE X a (dE X.K F fa)):PS X (.Return (Qs a) pos) (dS X.K F (cO fa)):=by refine PS.imp (sq ha) ?_;rintro E σ H ⟨A,t,o,R,e,h⟩;unfold cO at e;refine aB e λr1 e1 e=>?_;cases e;exact⟨A,t,r1,R,e1,λv H' gs q=>h v H' A (Gr.of_same R.mu.left gs) (Wo.of R.mu q)⟩
def eR(i:Nat):DS:=λt=>match t[i]? with
 |some (.own xs)=>Qs (.rt (.nw xs))
 |some (.val d)=>Qs (.rt (.cl d))
 |some (.dp d)=>Qs (.rt (.dn d))
 |_=>Qn
def jv(i:Nat) (hN:X.N[i]?=Qs x:=by rfl)(hv:dt X.env.scope x:=by first|exact Or.inl rfl|exact Or.inr (Or.inl rfl)|exact Or.inr (Or.inr rfl))(hd:UR x:=by decide) (UI:Vz x:=by decide):PS X (.Return (Qs (.Name x pos')) pos) (dS X.K F (eR i)):=by
 refine PS.imp (sq (dH (i:=i) hN hv hd UI)) ?_;rintro E σ H ⟨A,t,o,R,e,h⟩;unfold eR at e;split at e
 .rename_i ds q;cases e;obtain⟨p,vs,h1,h2,h3,h4⟩:=R.rel.Wm q;refine⟨_,h1,h _ H A (Gr.refl R.mu.left) ⟨p,vs,rfl,.inl h2,R.dj p h2,h3,Ts.mono (bf H λa z=>?_) h4⟩⟩;rcases OC.mp z with z|z
  .rw[z];exact Ot _ h2
  .exact Oq _ z
 .rename_i d q;cases e;obtain⟨v,h1,h2⟩:=R.rel.YE q;exact⟨v,h1,h v H A (Gr.refl R.mu.left) (Rep.mono (bf H λa z=>Oq _ z) h2)⟩
 .rename_i d q;cases e;obtain⟨v,B,h1,h2,h0,h3⟩:=R.rel.zbD R.nd q;refine⟨v,h1,h v H A (Gr.refl R.mu.left) ⟨B,h0,λb hb=>⟨.inl (h2 b hb),R.dj b (h2 b hb)⟩,T6.mono (bf H λa z=>?_) h3 λ_ _ _ q=>q⟩⟩;rcases Ow.mp z with z|z
  .exact Ot _ (h2 a z)
  .exact Oq _ z
 .cases e
def TK.Zt{K:Ou}{H0 H:Hp}{d:D}{v:V}(h:Rep K H0 d v):∀{t:Th}{σ:L2.St}{A:Ql Xl} (i:Nat),TK K H0 H t σ A->i<t.length->∃A',TK K H0 H (t.set i (.val d)) (σ.set i (Qs v)) A'/\List.Sublist A' A
 |_,_,_,_,.nil,l=>by simp at l
 |_,_,_,0,.no r,_=>⟨_,.val h r,O7 _⟩
 |_,_,_,0,.val _ r,_=>⟨_,.val h r,O7 _⟩
 |_,_,_,0,.own _ _ r,_=>⟨_,.val h r,QL _ _⟩
 |_,_,_,0,.dp _ r,_=>⟨_,.val h r,QZ _ _⟩
 |_,_,_,i+1,.no r,l=>let ⟨A',a,b⟩:=TK.Zt h i r (by simpa using l);⟨A',.no a,b⟩
 |_,_,_,i+1,.val q r,l=>let ⟨A',a,b⟩:=TK.Zt h i r (by simpa using l);⟨A',.val q a,b⟩
 |_,_,_,i+1,.own q1 q2 r,l=>let ⟨A',a,b⟩:=TK.Zt h i r (by simpa using l);⟨_,.own q1 q2 a,b.cons₂ _⟩
 |_,_,_,i+1,.dp q r,l=>let ⟨A',a,b⟩:=TK.Zt h i r (by simpa using l);⟨_,.dp q a,P0 (O7 _) b⟩
def TK.Y0{K:Ou}{H0 H:Hp}{s:Sl}{v:V}{B:Ql Xl}(h:∀{t:Th}{σ:L2.St}{A:Ql Xl},TK K H0 H t σ A->TK K H0 H (s::t) (Qs v::σ) (B++A)):∀{t:Th}{σ:L2.St}{A:Ql Xl} (i:Nat),TK K H0 H t σ A->i<t.length->∃A',TK K H0 H (t.set i s) (σ.set i (Qs v)) A'/\(∀x∈A',x∈B\/x∈A)/\(A.Nodup->B.Nodup->(∀b∈B,b∉A)->A'.Nodup)
 |_,_,_,_,.nil,l=>by simp at l
 |_,_,A,0,.no r,_=>⟨_,h r,λx hx=>Ow.mp hx,λn1 n2 d=>OG.mpr ⟨n2,n1,λa ha b hb e=>d a ha (e▸hb)⟩⟩
 |_,_,A,0,.val _ r,_=>⟨_,h r,λx hx=>Ow.mp hx,λn1 n2 d=>OG.mpr ⟨n2,n1,λa ha b hb e=>d a ha (e▸hb)⟩⟩
 |_,_,_,0,.own _ _ r,_=>⟨_,h r,λx hx=>(Ow.mp hx).imp id (Ov _),λn1 n2 d=>OG.mpr ⟨n2,(OO.mp n1).2,λa ha b hb e=>d a ha (e▸Ov _ hb)⟩⟩
 |_,_,_,0,.dp _ r,_=>⟨_,h r,λx hx=>(Ow.mp hx).imp id (Oq _),λn1 n2 d=>OG.mpr ⟨n2,(OG.mp n1).2.1,λa ha b hb e=>d a ha (e▸Oq _ hb)⟩⟩
 |_,_,_,i+1,.no r,l=>let ⟨A',a,b,c⟩:=TK.Y0 h i r (by simpa using l);⟨A',.no a,b,c⟩
 |_,_,_,i+1,.val q r,l=>let ⟨A',a,b,c⟩:=TK.Y0 h i r (by simpa using l);⟨A',.val q a,b,c⟩
 |_,_,_,i+1,.own (p:=p2) q1 q2 r,l=>by
  obtain⟨A',a,b,c⟩:=TK.Y0 h i r (by simpa using l);refine⟨_,.own q1 q2 a,λx hx=>?_,λnd nb np=>?_⟩
  .rcases OC.mp hx with z|z
   .exact .inr (z▸Ox ..)
   .exact(b x z).imp id (Ov _)
  .have n1:=OO.mp nd;refine OO.mpr ⟨λz=>?_,c n1.2 nb λx hx z=>np x hx (Ov _ z)⟩;rcases b _ z with z|z
   .exact np _ z (Ox ..)
   .exact n1.1 z
 |_,_,_,i+1,.dp (B:=C) q r,l=>by
  obtain⟨A',a,b,c⟩:=TK.Y0 h i r (by simpa using l);refine⟨_,.dp q a,λx hx=>?_,λnd nb np=>?_⟩
  .rcases Ow.mp hx with z|z
   .exact .inr (Ot _ z)
   .exact(b x z).imp id (Oq _)
  .have n1:=OG.mp nd;refine OG.mpr ⟨n1.1,c n1.2.1 nb λx hx z=>np x hx (Oq _ z),λx hx y hy e=>?_⟩;subst e;rcases b _ hy with z|z
   .exact np _ z (Ot _ hx)
   .exact n1.2.2 _ hx _ z rfl
def RS.zcu{s:Sl}(R:RS K F H A t σ)(g:Tj H H')(fr:∀b∈B,H b=Qn)(nb:B.Nodup)(lb:Ul H' B) (mk:∀{t:Th}{σ:L2.St}{A':Ql Xl},TK K (ah (B++(A++F)) H') H' t σ A'->TK K (ah (B++(A++F)) H') H' (s::t) (Qs v::σ) (B++A')) (hi:i<t.length):∃A',Gr A H A' H'/\RS K F H' A' (t.set i s) (σ.set i (Qs v)):=by
 have R':=R.grow g;have np:∀b∈B,b∉A++F:=λb hb=>eM R.mu (fr b hb);have r0:TK K (ah (B++(A++F)) H') H' t σ A:=TK.mono (λb o h=>by
  obtain⟨n,h⟩:=cN h;refine bA (g _ _ h) λz=>?_;rcases Ow.mp z with z|z
  .rw[fr b z]at h;cases h
  .exact n z) R.rel λb _ o h=>g _ _ h
 obtain⟨A',r1,sub,nd⟩:=TK.Y0 mk i r0 hi;refine⟨A',⟨λb o _ h=>g b o h,λb hb=>by obtain⟨ws,z⟩:=R.mu b (Ot _ hb);rw[g _ _ z];simp,λb hb=>?_⟩,?_,nd R.nd nb λb hb z=>np b hb (Ot _ z),λb hb=>?_,?_⟩
 .rcases sub b hb with z|z
  .exact .inr (fr b z)
  .exact .inl z
 .intro b hb;rcases Ow.mp hb with z|z
  .rcases sub b z with z|z
   .exact lb b z
   .exact R'.mu b (Ot _ z)
  .exact R'.mu b (Oq _ z)
 .rcases sub b hb with z|z
  .exact λw=>np b z (Oq _ w)
  .exact R.dj b z
 .refine TK.mono (bf H' λb z=>?_) r1 λ_ _ _ h=>h;rcases Ow.mp z with z|z
  .rcases sub b z with z|z
   .exact Ot _ z
   .exact Oq _ (Ot _ z)
  .exact Oq _ (Oq _ z)
def cR(t:Th)(i:Nat)(r:Ev):Qo Th:=if i<t.length then(match r with
 |.cl d=>Qs (t.set i (.val d))
 |.tm d=>if flat d then Qs (t.set i (.val d)) else Qn
 |.nw xs=>Qs (t.set i (.own xs))
 |.dn d=>Qs (t.set i (.dp d))) else Qn
def RS.put{t':Th}(R:RS K F H A t σ)(g:Tj H H')(q:T8 K F A H H' r v)(e:cR t i r=Qs t'):∃A',Gr A H A' H'/\RS K F H' A' t' (σ.set i (Qs v)):=by
 have R':=R.grow g;have val:∀d,Rep K (ah (A++F) H') d v->i<t.length->∃A',Gr A H A' H'/\RS K F H' A' (t.set i (.val d)) (σ.set i (Qs v)):=λd hd hi=>by
  obtain⟨A',r1,sub⟩:=TK.Zt hd i R'.rel hi;have zag:∀x∈A',x∈A:=λx hx=>sub.subset hx;refine⟨A',⟨λb o _ h=>g b o h,λb hb=>by obtain⟨vs,z⟩:=R.mu b (Ot _ hb);rw[g _ _ z];simp,λb hb=>.inl (zag b hb)⟩,?_,R.nd.sublist sub,λp hp=>R.dj p (zag p hp),?_⟩
  .intro p hp;rcases Ow.mp hp with z|z
   .exact R'.mu p (Ot _ (zag p z))
   .exact R'.mu p (Oq _ z)
  .refine TK.mono (bf H' λa z=>?_) r1 λ_ _ _ h=>h;rcases Ow.mp z with z|z
   .exact Ot _ (zag a z)
   .exact Oq _ z
 unfold cR at e;refine bW e λhi e=>?_;cases r with
 |cl d=>cases e;exact val d q hi
 |tm d=>
  simp only at e;split at e
  .rename_i f;cases e;exact val d (Rep.UC R'.mu f (Rep.mono (aZ _ _) q)) hi
  .cases e
 |nw xs=>cases e;obtain⟨p,vs,rfl,h1,h2,h3⟩:=q;exact R.zcu (B:=[p]) g (λb hb=>by simp at hb;subst hb;exact h1) (by simp) (λb hb=>by simp at hb;subst hb;exact⟨mL vs,h2⟩) (λr=>.own h2 h3 r) hi
 |dn d=>cases e;obtain⟨B,h1,h2,h3⟩:=q;exact R.zcu (B:=B) g h2 h1 h3.lists (λr=>.dp h3 r) hi
def aN(i:Nat)(f:DE):DS:=λt=>(f t).bind λr=>(cR t i r).map Out.nx
def IE (hN:X.N.Nodup)(hi:X.N[i]?=Qs x)(hx:Loc X.env.scope x)(he:PE X a (dE X.K F fa))(hs:swapsWith a (Qs (.Name x pos')) pos.line X.env=pure Qf:=by rfl)(hf:X.fn x=Qt\/X.env.scope.names.lookup x=Qs .local:=by first|exact .inl rfl|exact .inr rfl|assumption):PS X (.Assign [.Name x pos'] a pos) (dS X.K F (aN i fa)):=by
 refine PS.imp (wg hN hi hx he hs hf) ?_;rintro E σ H ⟨A,t,o,R,e,h⟩;unfold aN at e;refine aB e λr1 e1 e=>?_;have e:(cR t i r1).map Out.nx=Qs o:=e;rcases e2:cR t i r1 with _|t'
 .rw[e2]at e;cases e
 rw[e2]at e;cases e;refine⟨A,t,r1,R,e1,λv H' gs q=>?_⟩;obtain⟨A',g',R'⟩:=R.put gs q e2;exact h _ _ _ g' R'
def cX(K:Ou)(F:Ql Xl)(g:TG)(k:D->Th->Qo Th):Prop:=∀σ H A t t' d x (Q:L2.St->Hp->Prop),RS K F H A t σ->Rep K (ah (A++F) H) d x->k d t=Qs t'->(∀σ2 A2,Gr A H A2 H->RS K F H A2 t' σ2->Q σ2 H)->g x σ H Q
def pV(K:Ou)(F:Ql Xl)(g:fz)(k:Ql D->Th->Qo Th):Prop:=∀σ H A t t' ds xs (Q:L2.St->Hp->Prop),RS K F H A t σ->Ts K (ah (A++F) H) ds xs->k ds t=Qs t'->(∀σ2 A2,Gr A H A2 H->RS K F H A2 t' σ2->Q σ2 H)->g xs σ H Q
def cC(i:Nat):D->Th->Qo Th:=λd t=>cR t i (.cl d)
def iW:Ql D->Th->Qo Th:=λds t=>match ds with
 |[]=>Qs t
 |_=>Qn
def d5(k:D->Th->Qo Th)(k':Ql D->Th->Qo Th):Ql D->Th->Qo Th:=λds t=>match ds with
 |d::r=>(k d t).bind (k' r)
 |[]=>Qn
def ck(n:Nat)(k:Ql D->Th->Qo Th):D->Th->Qo Th:=λd t=>match d with
 |.tup ds=>if ds.length=n then k ds t else Qn
 |_=>Qn
def bo (i:Nat):cX K F (jI i) (cC i):=by intro σ H A t t' d x Q R r e h;obtain⟨A',g,R'⟩:=R.put (i:=i) (r:=.cl d) (Tj.refl H) r e;exact h _ _ g R'
def fU:pV K F yo iW:=by
 intro σ H A t t' ds xs Q R r e h;cases r with
 |nil=>cases e;exact⟨rfl,h σ A (Gr.refl R.mu.left) R⟩
 |cons _ _=>cases e
def cD{g:TG}{g':fz}{k:D->Th->Qo Th}{k':Ql D->Th->Qo Th}(h1:cX K F g k)(h2:pV K F g' k'):pV K F (yu g g') (d5 k k'):=by
 intro σ H A t t' ds xs Q R r e h;cases r with
 |nil=>cases e
 |@cons d v ds vs r1 r2=>
  unfold d5 at e;cases e1:k d t with
  |none=>simp only[e1]at e;cases e
  |some t1=>simp only[e1]at e;refine⟨v,vs,rfl,h1 σ H A t t1 d v _ R r1 e1 λσ2 A2 g2 R2=>?_⟩;exact h2 σ2 H A2 t1 t' ds vs Q R2 (Ts.mono g2.same r2) e λσ3 A3 g3 R3=>h σ3 A3 (g2.trans g3) R3
def gN{g':fz}{k':Ql D->Th->Qo Th}(h2:pV K F g' k'):cX K F (ym K n g') (ck n k'):=by
 intro σ H A t t' d x Q R r e h;unfold ck at e;split at e
 .rename_i ds;split at e
  .rename_i hl;cases r with
   |@tup _ p vs h1 hr=>exact⟨p,vs,rfl,UA.mono (aZ _ _) h1,by rw[hr.length];exact hl,h2 σ H A t t' ds vs Q R hr e h⟩
  .cases e
 .cases e
def dy(k:D->Th->Qo Th)(f:DE):DS:=λt=>(f t).bind λr=>if r.ok then(k r.d t).map Out.nx else Qn
def oq(he:PE X a (dE X.K F fa))(hg:PG X tg gt)(ht:cX X.K F gt kt)(hs:swapsWithSole [tg] a pos.line X.env=pure Qf:=by rfl)(hw:swappedStores [tg] a X.env=pure Qn:=by rfl) (h1:(assignEach [tg] X.env).map (·.2)=[assign tg X.env]:=by rfl):PS X (.Assign [tg] a pos) (dS X.K F (dy kt fa)):=by
 refine PS.imp (sr he hg hs hw h1) ?_;rintro E σ H ⟨A,t,o,R,e,h⟩;unfold dy at e;refine aB e λr1 e1 e=>?_;have e:(if r1.ok then(kt r1.d t).map Out.nx else Qn)=Qs o:=e;refine bW e λok e=>?_;rcases e2:kt r1.d t with _|t'
 .rw[e2]at e;cases e
 rw[e2]at e;cases e;refine⟨A,t,r1,R,e1,λv H' gs q=>?_⟩;exact ht σ H' A t t' r1.d v E.nx (R.grow gs) (q.clean R.mu gs ok) e2 λσ2 A2 g2 R2=>h σ2 H' A2 ((Gr.of_same R.mu.left gs).trans g2) R2
def xw(t:Th)(i j:Nat):Ql Ev->Qo Out
 |[r1,r2]=>if r1.ok&&r2.ok then((cR t i (.cl r1.d)).bind λt1=>cR t1 j (.cl r2.d)).map Out.nx else Qn
 |_=>Qn
def i7(i j:Nat)(f:DA):DS:=λt=>(f t).bind (xw t i j)
def wc{y:Str}{px pt:Pos}{kt k2 WK}(hc:X.calm=Qt)(hN:X.N.Nodup)(hi:X.N[i]?=Qs x)(hj:X.N[j]?=Qs y)(Y9:i≠j) (hx:X.env.scope.names.lookup x=Qs .local) (hy:X.env.scope.names.lookup y=Qs .local) (ha:PA X [a,b] (dA X.K F ga)) (hw:swappedStores [.Tuple [.Name x px,.Name y py] kt pt] (.Tuple [a,b] k2 WK) X.env=pure (Qs [x,y])) (hs:swapsWithSole [.Tuple [.Name x px,.Name y py] kt pt] (.Tuple [a,b] k2 WK) pos.line X.env=pure Qf:=by rfl):PS X (.Assign [.Tuple [.Name x px,.Name y py] kt pt] (.Tuple [a,b] k2 WK) pos) (dS X.K F (i7 i j ga)):=by
 refine PS.imp (IP hc hN hi hj Y9 hx hy ha hw hs) ?_;rintro E σ H ⟨A,t,o,R,e,h⟩;unfold i7 at e;rcases e1:ga t with _|rs
 .rw[e1]at e;cases e
 rw[e1]at e;refine⟨A,t,rs,R,e1,λvs H' gs q=>?_⟩;have e:xw t i j rs=Qs o:=e;cases q with
 |nil=>cases e
 |@cons r1 _ _ _ q1 q'=>
  cases q' with
  |nil=>cases e
  |@cons r2 _ _ _ q2 q3=>
  cases q3 with
  |cons _ _=>cases e
  |nil=>
   simp only[xw]at e;replace e:=Ve e;obtain⟨ok,e⟩:=e;simp only[OH]at ok;refine⟨_,_,rfl,?_⟩;rcases e2:cR t i (.cl r1.d) with _|t1
   .rw[e2]at e;cases e
   rw[e2]at e;have e:(cR t1 j (.cl r2.d)).map Out.nx=Qs o:=e;rcases e3:cR t1 j (.cl r2.d) with _|t2
   .rw[e3]at e;cases e
   rw[e3]at e;cases e;have c2:=q2.clean R.mu gs ok.2;obtain⟨A1,g1,R1⟩:=(R.grow gs).put (i:=i) (r:=.cl r1.d) (Tj.refl H') (q1.clean R.mu gs ok.1) e2;obtain⟨A2,g2,R2⟩:=R1.put (i:=j) (r:=.cl r2.d) (Tj.refl H') (Rep.mono g1.same c2) e3;exact h _ _ _ (((Gr.of_same R.mu.left gs).trans g1).trans g2) R2
def bj(k:D->Th->Qo Th)(body:DS):Ql D->Th->Qo Out
 |[],t=>Qs (.nx t)
 |d::ds,t=>(k d t).bind λt1=>(body t1).bind λo=>match o with
  |.nx t'=>bj k body ds t'
  |.ct t'=>bj k body ds t'
  |.bk t'=>Qs (.nx t')
  |.rt r=>Qs (.rt r)
def eI(c:DT)(body:DS):Nat->Th->Qo Out
 |0,_=>Qn
 |n+1,t=>(c t).bind λb=>if b then(body t).bind λo=>match o with
  |.nx t'=>eI c body n t'
  |.ct t'=>eI c body n t'
  |.bk t'=>Qs (.nx t')
  |.rt r=>Qs (.rt r) else Qs (.nx t)
def iY(fu:Th->Nat)(c:DT)(body:DS):DS:=λt=>eI c body (fu t) t
def Xf(K:Ou)(F A:Ql Xl)(H:Hp)(E:Ends):Out->Prop
 |.nx t'=>After K F A H E.nx t'
 |.bk t'=>After K F A H E.bk t'
 |.ct t'=>After K F A H E.ct t'
 |.rt r=>Back K F A H E.rt r
def Xf.back{K:Ou}{F A A1:Ql Xl}{H H1:Hp}{E:Ends}{o:Out}(h:Xf K F A H E o)(g:Gr A H A1 H1):Xf K F A1 H1 E o:=by
 cases o with
 |nx t2=>exact After.back h g
 |bk t2=>exact After.back h g
 |ct t2=>exact After.back h g
 |rt r=>exact Back.back h g
def kH{E:Ends}{o:Out}(R:RS K F H A t σ)(e:g t=Qs o)(p:Xf K F A H E o):dS K F g E σ H:=⟨A,t,o,R,e,by cases o<;>exact p⟩
def kG{E:Ends}(h:dS K F g E σ H):∃A t o,RS K F H A t σ/\g t=Qs o/\Xf K F A H E o:=by obtain⟨A,t,o,R,e,h⟩:=h;exact⟨A,t,o,R,e,by cases o<;>exact h⟩
def sk (m:Th->Nat)(hp:PassesOwn (model X.prog X.w) X.A X.env X.xe)(hc:PT X c (dT X.K F ft))(hb:Uu X body (dS X.K F g)):PS X (.While c body [] pos) (dS X.K F (iY m ft g)):=by
 refine PS.imp (IM hp hc hb) ?_;intro E σ H hh;obtain⟨A,t,o,R,e,h⟩:=kG hh;refine⟨λn σ H=>∃A t o,eI ft g n t=Qs o/\RS X.K F H A t σ/\Xf X.K F A H E o,⟨m t,A,t,o,e,R,h⟩,?_⟩;rintro n σ H ⟨A,t,o,e,R,h⟩;cases n with
 |zero=>cases e
 |succ n=>
  simp only[eI]at e;refine aB e λb e1 e=>?_;refine⟨A,t,b,R,e1,λH1 gs=>?_⟩;have gr:Gr A H A H1:=Gr.of_same R.mu.left gs;cases b with
  |false=>have e:Qs (Out.nx t)=Qs o:=e;cases e;exact oW (h σ H1 A gr (R.grow gs))
  |true=>
   have e:((g t).bind λo=>match o with
    |.nx t'=>eI ft g n t'
    |.ct t'=>eI ft g n t'
    |.bk t'=>Qs (.nx t')
    |.rt r=>Qs (.rt r))=Qs o:=e
   refine oV ⟨λσ' H'=>∃A t o,eI ft g n t=Qs o/\RS X.K F H' A t σ'/\Xf X.K F A H' E o,λσ' H' q=>⟨n,PB n,q⟩,?_⟩;refine aB e λo2 e2 e=>?_;refine kH (R.grow gs) e2 ?_;cases o2 with
   |nx t'=>exact λσ' H' A' g' R'=>⟨A',t',o,e,R',h.back (gr.trans g')⟩
   |ct t'=>exact λσ' H' A' g' R'=>⟨A',t',o,e,R',h.back (gr.trans g')⟩
   |bk t'=>cases e;exact λσ' H' A' g' R'=>h σ' H' A' (gr.trans g') R'
   |rt r=>cases e;exact Back.back h gr
def yD{E:Ends}{o:Out}(Good:Ql Xl->Hp->Prop)(ht:cX K F gt kt)(R:RS K F H A t σ)(e:bj kt g ds t=Qs o)(h:Xf K F A H E o)(g0:Good A H) (keep:∀A H A' H',Good A H->Gr A H A' H'->Good A' H') (stop:∀A H,Good A H->J.stop ds.length H) (go:∀A H i,Good A H->i<ds.length->J.go i H) (Vw:∀A H i x H',Good A H->Ul H (A++F)->J.Vw i H x H'->i<ds.length->Tj H H'/\∃d,ds[i]?=Qs d/\Rep K (ah (A++F) H') d x):∃W:Nat->Nat->L2.St->Hp->Prop,(∃m,W 0 m σ H)/\∀i m σ H,W i m σ H-> (J.stop i H/\E.nx σ H)\/(J.go i H/\∃N:L2.St->Hp->Prop,(∀σ' H',N σ' H'->∃m',m'<m/\W (i+1) m' σ' H')/\∀x H',J.Vw i H x H'->gt x σ H' λσ2 H2=>dS K F g {E with nx:=N,ct:=N,bk:=E.nx} σ2 H2):=by
 refine⟨λi m σ H=>i+m=ds.length/\∃A t o,bj kt g (ds.drop i) t=Qs o/\RS K F H A t σ/\Xf K F A H E o/\Good A H,⟨ds.length,by lia,A,t,o,by simpa using e,R,h,g0⟩,?_⟩;rintro i m σ H ⟨hm,A,t,o,e,R,h,gd⟩;cases m with
 |zero=>
  have z:i=ds.length:=by lia
  subst z;rw[Qy]at e;cases e;exact .inl ⟨stop A H gd,h σ H A (Gr.refl R.mu.left) R⟩
 |succ m=>
  have hi:i<ds.length:=by lia
  refine .inr ⟨go A H i gd hi,λσ' H'=>i+1+m=ds.length/\∃A t o,bj kt g (ds.drop (i+1)) t=Qs o/\RS K F H' A t σ'/\Xf K F A H' E o/\Good A H',λσ' H' q=>⟨m,PB m,q⟩,λx H' y=>?_⟩;obtain⟨gs,d,hd,rd⟩:=Vw A H i x H' gd R.mu y hi;have ed:ds.drop i=d::ds.drop (i+1):=by
   have Wi:ds[i]=d:=by rw[OE hi]at hd;exact O4 hd
   rw[<-Wi];exact Py hi
  rw[ed]at e;simp only[bj]at e;refine aB e λt1 e1 e=>?_;refine ht σ H' A t t1 d x _ (R.grow gs) rd e1 λσ2 A2 Xa R2=>?_;have Vp:Gr A H A2 H':=(Gr.of_same R.mu.left gs).trans Xa;have e:((g t1).bind λo=>match o with
    |.nx t'=>bj kt g (ds.drop (i+1)) t'
    |.ct t'=>bj kt g (ds.drop (i+1)) t'
    |.bk t'=>Qs (.nx t')
    |.rt r=>Qs (.rt r))=Qs o:=e
  refine aB e λo2 e2 e=>?_;refine kH R2 e2 ?_;cases o2 with
  |nx t'=>exact λσ' H' A' g' R'=>⟨by lia,A',t',o,e,R',h.back (Vp.trans g'),keep _ _ _ _ gd (Vp.trans g')⟩
  |ct t'=>exact λσ' H' A' g' R'=>⟨by lia,A',t',o,e,R',h.back (Vp.trans g'),keep _ _ _ _ gd (Vp.trans g')⟩
  |bk t'=>cases e;exact λσ' H' A' g' R'=>h σ' H' A' (Vp.trans g') R'
  |rt r=>cases e;exact Back.back h Vp
def d8(k:D->Th->Qo Th)(f:DE)(body:DS):DS:=λt=>(f t).bind λr=>match r.d with
 |.lst ds=>if r.ok then bj k body ds t else Qn
 |_=>Qn
def kW (hp:PassesOwn (model X.prog X.w) X.A X.env X.xe)(hc:X.calm=Qt)(hl:PE X a (dE X.K F fa))(hg:PG X tg gt)(ht:cX X.K F gt kt)(hb:Uu X body (dS X.K F g)) (hs:∀x,foldedSetIterable a X.env x=pure x:=by intro _;rfl):PS X (.For tg a body [] pos) (dS X.K F (d8 kt fa g)):=by
 refine PS.imp (kX hp hc (sD hl) hg hb hs) ?_;intro E σ H hh;obtain⟨A,t,o,R,e,h⟩:=kG hh;unfold d8 at e;refine aB e λr e1 e=>?_;refine⟨A,t,r,R,e1,λv H1 gs q=>?_⟩;have e:(match r.d with
  |.lst ds=>if r.ok then bj kt g ds t else Qn
  |_=>Qn)=Qs o:=e
 split at e
 case h_2=>cases e
 rename_i ds z;refine bW e λok e=>?_;have cl:=q.clean R.mu gs ok;rw[z]at cl;cases cl with
 |@lst _ p vs h1 h2=>
  refine⟨p,rfl,⟨vs,TZ.mono (aZ _ _) h1⟩,?_⟩;refine yD (λA H=>TZ X.K (ah (A++F) H) p vs/\Ts X.K (ah (A++F) H) ds vs) ht (R.grow gs) e (h.back (Gr.of_same R.mu.left gs)) ⟨h1,h2⟩ (λA H A' H' q gr=>⟨TZ.mono gr.same q.1,Ts.mono gr.same q.2⟩) (λA H q=>⟨vs,TZ.mono (aZ _ _) q.1,by rw[h2.length];exact OL _⟩) (λA H i q hi=>?_) (λA H i x H' q _ y hi=>?_)
  .have XJ:i<vs.length:=by rw[h2.length];exact hi
   exact⟨vs,vs[i],TZ.mono (aZ _ _) q.1,OE XJ⟩
  .obtain⟨e1,e2⟩:=y;have z:=e2 vs (TZ.mono (aZ _ _) q.1);subst e1;exact⟨Tj.refl _,q.2.Xb z⟩
def dm(lo:Int)(n:Nat):Ql D:=(Pk n).map λ(i:Nat)=>D.int (lo+(i:Int))
def dk(i:Int):Bool:=decide (-1000000000000<=i/\i<=1000000000000)
def g6(k:D->Th->Qo Th)(f:DE)(body:DS):DS:=λt=>(f t).bind λr=>match r.d with
 |.int n=>if dk n then bj k body (dm 0 n.toNat) t else Qn
 |_=>Qn
def mv(lo:Int)(n:Nat):(dm lo n).length=n:=by simp[dm]
def HK{E:Ends}{o:Out}(ht:cX K F gt kt)(R:RS K F H A t σ)(e:bj kt g (dm lo n) t=Qs o)(h:Xf K F A H E o):∃W:Nat->Nat->L2.St->Hp->Prop,(∃m,W 0 m σ H)/\∀i m σ H,W i m σ H-> ((kM lo n).stop i H/\E.nx σ H)\/((kM lo n).go i H/\∃N:L2.St->Hp->Prop,(∀σ' H',N σ' H'->∃m',m'<m/\W (i+1) m' σ' H')/\∀x H',(kM lo n).Vw i H x H'->gt x σ H' λσ2 H2=>dS K F g {E with nx:=N,ct:=N,bk:=E.nx} σ2 H2):=by
 refine yD (λ_ _=>True) ht R e h trivial (λ_ _ _ _ _ _=>trivial) (λA H _=>?_) (λA H i _ hi=>?_) (λA H i x H' _ _ y hi=>?_)
 .rw[mv];exact OL n
 .rw[mv]at hi;exact hi
 .rw[mv]at hi;obtain⟨e1,e2⟩:=y;subst e1;refine⟨Tj.refl _,.int (lo+i),by simp[dm,hi],?_⟩;rw[e2];exact .int _
def wa (hp:PassesOwn (model X.prog X.w) X.A X.env X.xe)(hc:X.calm=Qt)(XM:Gl X "range")(hm:X.mg "range"=Qn)(ha:PE X a (dE X.K F fa))(hg:PG X tg gt)(ht:cX X.K F gt kt)(hb:Uu X body (dS X.K F g)) (UT:OP [a] X.env=[(Qf,eval a X.env)]:=by rfl) (hs:∀x,foldedSetIterable (.Call (.Name "range" p1) [a] [] p2) X.env x=pure x:=by intro _;rfl):PS X (.For tg (.Call (.Name "range" p1) [a] [] p2) body [] pos) (dS X.K F (g6 kt fa g)):=by
 refine PS.imp (kX hp hc (Bz XM hm (gm ha gF UT) UT) hg hb hs) ?_;intro E σ H hh;obtain⟨A,t,o,R,e,h⟩:=kG hh;unfold g6 at e;refine aB e λr e1 e=>?_;refine⟨A,t,r,R,e1,λv H1 gs q=>?_⟩;have e:(match r.d with
  |.int n=>if dk n then bj kt g (dm 0 n.toNat) t else Qn
  |_=>Qn)=Qs o:=e
 split at e
 case h_2=>cases e
 rename_i n z;refine bW e λok e=>?_;simp only[dk,UX]at ok;have p:=q.full;rw[z]at p;cases cI p;exact⟨n,rfl,by lia,by lia,HK ht (R.grow gs) e (h.back (Gr.of_same R.mu.left gs))⟩
def TK.upd{K:Ou}{H0 H H':Hp}{ds es:Ql D}{ws:Ql V}{p:Xl}(hp:H' p=Qs (.lst ws))(he:Ts K H0 es ws):∀{t:Th}{σ:L2.St}{A:Ql Xl} (i:Nat),TK K H0 H t σ A->A.Nodup->t[i]?=Qs (.own ds)->σ[i]?=Qs (Qs (.ref p))-> (∀q∈A,q≠p->H' q=H q)->TK K H0 H' (t.set i (.own es)) σ A
 |_,_,_,i,.nil,_,e,_,_=>by simp at e
 |_,_,_,0,.no r,_,e,_,_=>by simp at e
 |_,_,_,0,.val _ r,_,e,_,_=>by simp at e
 |_,_,_,0,.dp _ r,_,e,_,_=>by simp at e
 |_,_,_,i+1,.dp (B:=B) h1 r,nd,e,e2,k=>by
  have n:=OG.mp nd;obtain⟨p3,vs3,a1,a2,_⟩:=TK.Wm r (i:=i) (ds:=ds) (by simpa using e);have:p3=p:=by simpa[a1] using e2
  subst this;refine .dp (T6.mono (Tj.refl _) h1 λq hq o w=>?_) (TK.upd hp he i r n.2.1 (by simpa using e) (by simpa using e2) λq hq=>k q (Oq _ hq));rw[k q (Ot _ hq) (λz=>n.2.2 q hq p3 a2 z)];exact w
 |_,_,_,0,.own (p:=p2) (A:=A) h1 h2 r,nd,e,e2,k=>by
  simp at e2;subst e2;exact .own hp he (TK.mono (Tj.refl _) r λq hq o h=>by
   have n:q≠p2:=λz=>(OO.mp nd).1 (z▸hq);rw[k q (Ov _ hq) n];exact h)
 |_,_,_,i+1,.no r,nd,e,e2,k=>.no (TK.upd hp he i r nd (by simpa using e) (by simpa using e2) k)
 |_,_,_,i+1,.val h r,nd,e,e2,k=>.val h (TK.upd hp he i r nd (by simpa using e) (by simpa using e2) k)
 |_,_,_,i+1,.own (p:=p2) h1 h2 r,nd,e,e2,k=>by
  have n:=OO.mp nd;have Zf:=(show _ from e2);obtain⟨p3,vs3,a1,a2,_⟩:=TK.Wm r (i:=i) (ds:=ds) (by simpa using e);have:p3=p:=by simpa[a1] using e2
  subst this;have np:p2≠p3:=λz=>n.1 (z▸a2);refine .own (by rw[k p2 (Ox ..) np];exact h1) h2 (TK.upd hp he i r n.2 (by simpa using e) (by simpa using e2) λq hq=>k q (Ov _ hq))
def RS.write{es:Ql D}(R:RS K F H A t σ)(e:t[i]?=Qs (.own ds))(e2:σ[i]?=Qs (Qs (.ref p)))(h:Ts K (ah (A++F) H) es ws):RS K F (L2.upd H p (.lst ws)) A (t.set i (.own es)) σ/\Gr A H A (L2.upd H p (.lst ws)):=by
 obtain⟨p',vs,a1,a2,a3,a4⟩:=R.rel.Wm e;have:p'=p:=by simpa[a1] using e2
 subst this;have hh:Tj (ah (A++F) H) (ah (A++F) (L2.upd H p' (.lst ws))):=λb o q=>by obtain⟨n,q⟩:=cN q;have nb:b≠p':=λz=>n (Ot _ (z▸a2));exact bA (by rw[aS nb];exact q) n
 have mu:Ul (L2.upd H p' (.lst ws)) (A++F):=λq hq=>by
  by_cases z:q=p'
  .exact⟨mL ws,by rw[z];exact bB⟩
  .obtain⟨us,w⟩:=R.mu q hq;exact⟨us,by rw[aS z];exact w⟩
 refine⟨⟨mu,R.nd,R.dj,TK.upd bB (Ts.mono hh h) i (TK.mono hh R.rel (H':=H) λ_ _ _ h=>h) R.nd e e2 λq _ n=>aS n⟩,?_⟩;refine⟨λb o n q=>?_,λb hb=>?_,λb hb=>.inl hb⟩
 .rw[aS (λz=>n (by rw[z];exact a2))];exact q
 .obtain⟨us,w⟩:=mu b (Ot _ hb);rw[w];simp
def tH(t:Th)(i:Nat)(r:Ev):Qo Out:=match t[i]? with
 |some (.own xs)=>if r.ok&&decide (xs.length<100000) then Qs (.nx (t.set i (.own (xs++[r.d])))) else Qn
 |_=>Qn
def jc(i:Nat)(f:DE):DS:=λt=>(f t).bind (tH t i)
def we(i:Nat) (he:PE X a (dE X.K F fa))(hN:X.N[i]?=Qs x:=by rfl)(hv:dt X.env.scope x:=by first|exact Or.inl rfl|exact Or.inr (Or.inl rfl)|exact Or.inr (Or.inr rfl))(hd:UR x:=by decide) (UI:Vz x:=by decide) (UT:OP [a] X.env=[(Qf,eval a X.env)]:=by rfl) (YC:attributeBase (.Name x p0) "append" X.env (eval (.Name x p0) X.env)=eval (.Name x p0) X.env:=by rfl) (Yy:((QJ Uw (OP [a] X.env)).all (λx=>!x.1)&&(backToKw Uw (keywordEach [] X.env)).all (λx=>x.1.isSome)
   && decide ([a].length+([]:Ql SW).length+(if([]:Ql SW).isEmpty then 0 else 1)<30))=Qt:=by rfl) (Yw:(apos.endLine==Uw.line)=Qt:=by rfl) (Yu:(QJ Uw (OP [] X.env)).any (·.1)=Qf:=by rfl) (Wh:swapsWith (.Call (.Attribute (.Name x p0) "append" apos) [a] [] Uw) Qn pos.line X.env=pure Qf:=by rfl):PS X (.Expr (.Call (.Attribute (.Name x p0) "append" apos) [a] [] Uw) pos) (dS X.K F (jc i fa)):=by
 refine PS.imp (ot (wK Q6 QB Q3 sQ (dH (i:=i) hN hv hd UI) (gm he gF UT) YC Yy Yw UT Yu) Wh) ?_;rintro E σ H ⟨A,t,o,R,e,h⟩;unfold jc at e;refine aB e λr e1 e=>?_;have e:tH t i r=Qs o:=e;unfold tH at e;split at e
 case h_2=>cases e
 rename_i xs z;refine bW e λok e=>?_;simp only[OH,UX]at ok;cases e;obtain⟨p,vs,a1,a2,a3,a4⟩:=R.rel.Wm z;refine⟨_,a1,.inl ⟨rfl,vs,TZ.of a3⟩,A,t,r,R,e1,λy H1 gs q=>⟨p,vs,y,rfl,rfl,gs _ _ a3,?_,?_⟩⟩
 .have:vs.length<100000:=by rw[a4.length];exact ok.2
  exact OS this (by rw[sizeLine_eq];decide)
 .obtain⟨R',g'⟩:=(R.grow gs).write (es:=xs++[r.d]) (ws:=vs++[y]) z a1 ((Ts.mono (cY gs) a4).app (Ts.one (q.clean R.mu gs ok.1)));exact h _ _ _ ((Gr.of_same R.mu.left gs).trans g') R'
def az:Ev->Ev->Qo Ev:=λr1 r2=>match r1.d,r2.d with
 |.lst ds,.int i=>(UO ds i).map λd=>if r1.ok||flat d then .cl d else .tm d
 |.tup ds,.int i=>(UO ds i).map λd=>if r1.ok||flat d then .cl d else .tm d
 |_,_=>Qn
def Ts.UO{K:Ou}{H:Hp}{ds:Ql D}{vs:Ql V}(r:Ts K H ds vs){i:Int}{d:D}(e:L2.UO ds i=Qs d):∃v,L2.UO vs i=Qs v/\Rep K H d v:=by
 unfold L2.UO at e ⊢;rw[r.length];cases e1:Vn ds.length i with
 |none=>rw[e1]at e;cases e
 |some j=>rw[e1]at e;exact r.get e
def bh(ha:PE X a (dE X.K F fa))(hb:PE X b (dE X.K F fb))(hs:pY b:=by intro _ _;rfl):PE X (.Subscript a b pos) (dE X.K F (d2 az fa fb)):=by
 refine PE.imp (sH (zaq.or xA) ha hb hs) ?_;intro σ H Q h;obtain⟨A,t,r1,r2,r,R,e1,e2,e,h,w⟩:=two h;refine⟨A,t,r1,R,e1,λx H1 Va q1=>⟨A,t,r2,R.grow Va,e2,λy H2 Uq q2=>?_⟩⟩;have q1:=q1.mono Uq;have gs:=Va.trans Uq;have p2:=q2.full;have m2:=R.mu.mono gs;have key:∀(P:Ql Xl),Rep X.K (ah P H2) r1.d x->(∀d v,Rep X.K (ah P H2) d v->T8 X.K F A H H2 (if r1.ok||flat d then Ev.cl d else Ev.tm d) v)->oj X.K x y H2 Q\/rX X.K x y H2 Q:=λP hP fin=>by
  unfold az at e;split at e
  .rename_i ds i z1 z2;rw[z2]at p2;cases cI p2;rw[z1]at hP;cases hP with
   |@lst _ p vs h1 h2=>
    rcases e4:UO ds i with _|d
    .rw[e4]at e;cases e
    rw[e4]at e;have e:(if r1.ok||flat d then Ev.cl d else Ev.tm d)=r:=by simpa using e
    obtain⟨v,e5,rv⟩:=Ts.UO h2 e4;exact .inl ⟨p,vs,i,v,rfl,rfl,TZ.mono (aZ _ _) h1,e5,h v H2 gs (e▸fin d v rv)⟩
  .rename_i ds i z1 z2;rw[z2]at p2;cases cI p2;rw[z1]at hP;cases hP with
   |@tup _ p vs h1 h2=>
    rcases e4:UO ds i with _|d
    .rw[e4]at e;cases e
    rw[e4]at e;have e:(if r1.ok||flat d then Ev.cl d else Ev.tm d)=r:=by simpa using e
    obtain⟨v,e5,rv⟩:=Ts.UO h2 e4;exact .inr ⟨p,vs,i,v,rfl,rfl,UA.mono (aZ _ _) h1,e5,h v H2 gs (e▸fin d v rv)⟩
  .cases e
 by_cases c:r1.ok=Qt
 .refine key (A++F) (q1.clean R.mu gs c) λd v rv=>?_;rw[c,SG,S9 rfl];exact rv
 .refine key F (q1.WW R.mu) λd v rv=>?_;have c:r1.ok=Qf:=by simpa using c
  rw[c,Q8];split
  .rename_i f;exact Rep.UC m2 f (Rep.mono (aZ _ _) rv)
  .exact rv
def oU:Ev->Ev->Qo Ev:=λr1 r2=>match r1.d,r2.d with
 |.lst ds,.lst es=>if(r1.ok||Ui ds)&&(r2.ok||Ui es)&&decide (ds.length+es.length<=100000) then Qs (.nw (ds++es)) else Qn
 |_,_=>Qn
def T8.items{F:Ql Xl}(m:Ul H (A++F))(gs:Tj H H')(q:T8 K F A H H' r v)(z:r.d=.lst ds)(c:(r.ok||Ui ds)=Qt):∃p vs,v=.ref p/\TZ K H' p vs/\Ts K (ah (A++F) H') ds vs:=by
 rcases RJ _ _▸c with c|c
 .have w:=q.clean m gs c;rw[z]at w;cases w with
  |@lst _ p vs h1 h2=>exact⟨p,vs,rfl,TZ.mono (aZ _ _) h1,h2⟩
 .have w:=q.full;rw[z]at w;cases w with
  |@lst _ p vs h1 h2=>exact⟨p,vs,rfl,h1,Ts.UC (m.mono gs) c h2⟩
def NG{A:Qq}{b:Xl}{vs ws:Ql OM}{Q:OM->OJ->Prop}(hl:PlainL s.heap l vs.toArray)(hb:PlainL s.heap b ws.toArray)
  (h:Q (.ref s.heap.objs.size) { s with heap:=s.heap.push { cls:=.type "list",data:=.seq (vs++ws).toArray } }) (hsz:vs.length+ws.length<=O3) :wpAny (model prog w) A (binaryOp .Add (.ref l) (.ref b)) Q E s:=by
 obtain⟨⟨cls,dd,data,sl⟩,n,ho,hc,hdd,hd⟩:=id hl;obtain⟨⟨zht,Yi,data2,X4⟩,n2,XH,YA,zi8,hd2⟩:=id hb;simp only at hc hd YA hd2;subst hc hd YA hd2;have e:vs.toArray++ws.toArray=(vs++ws).toArray:=by simp
 refine concat_meets ⟨_,ho,rfl⟩ ⟨_,XH,rfl⟩ noFill_list_add seq_list_add PySem.F.slot_list_add PySem.F.entry_list_add (PySem.F.args_list_add_2 _ _) (list_addW l b vs.toArray ws.toArray n n2 dd Yi sl X4 (by simpa using hsz)) ⟨ho,XH,?_⟩;rw[e];exact h
def gG:Vh X F (binaryOp .Add) oU:=by
 intro pins s σ H0 H A x y v u Q r1 r2 r I m g0 rx ry q1 q2 e hq;unfold oU at e;split at e
 case h_2=>cases e
 rename_i ds UG z1 z2;refine bW e λc e=>?_;simp only[OH,UX]at c;cases e;obtain⟨p,vs,rfl,h1,h2⟩:=q1.items m g0 z1 c.1.1;obtain⟨p',ws,rfl,Wj,U9⟩:=q2.items m g0 z2 c.1.2;cases rx;cases ry;obtain⟨TH,w1,w2,w3⟩:=I.list h1;obtain⟨its',Vu,V7,w3'⟩:=I.list Wj;have l1:=h2.length;have l2:=U9.length;have l3:=w1.length;have l4:=Vu.length;have hz:vs.length+ws.length<=O3:=W4 (by lia);refine NG w2 V7 ⟨.ref _,_,I.za7 (t':=s.toks) (w1.append Vu) (by rw[O8];exact hz),rfl,?_⟩ (by lia);refine hq _ _ (dX I.fresh) ⟨_,_,rfl,Tj.free g0 I.fresh,bB,Ts.mono (kB I.fresh) (h2.app U9)⟩
mutual
def cq:D->D->Bool
 |.TX,e=>(match e with|.TX=>Qt|_=>Qf)
 |.bl a,e=>(match e with|.bl b=>decide (a=b)|_=>Qf)
 |.int a,e=>(match e with|.int b=>decide (a=b)|_=>Qf)
 |.str a,e=>(match e with|.str b=>decide (a=b)|_=>Qf)
 |.tup a,e=>(match e with|.tup b=>Xd a b|_=>Qf)
 |.lst a,e=>(match e with|.lst b=>Xd a b|_=>Qf)
 |.Uk ks a,e=>(match e with|.Uk ks' b=>decide (ks=ks')&&Xd a b|_=>Qf)
 |.U1 a,e=>(match e with|.U1 b=>decide (a=b)|_=>Qf)
 |.VN a,e=>(match e with|.VN b=>decide (a=b)|_=>Qf)
 |.adr a,e=>(match e with|.adr b=>decide (a=b)|_=>Qf)
 |.T4 a,e=>(match e with|.T4 b=>decide (a=b)|_=>Qf)
 |.obj C ks a,e=>(match e with|.obj C' ks' b=>decide (C=C')&&(decide (ks=ks')&&Xd a b)|_=>Qf)
def Xd:List D->List D->Bool
 |[],e=>(match e with|[]=>Qt|_=>Qf)
 |a::as,e=>(match e with|b::bs=>cq a b&&Xd as bs|_=>Qf)
end
def aM(d:D):Bool:=match d with
 |.TX=>Qt
 |.bl _=>Qt
 |.int _=>Qt
 |.str _=>Qt
 |_=>Qf
def BO(d e:D):Bool:=match d with
 |.bl _=>(match e with|.int _=>Qf|.str _=>Qf|_=>Qt)
 |.int _=>(match e with|.bl _=>Qf|_=>Qt)
 |.str _=>(match e with|.bl _=>Qf|_=>Qt)
 |_=>Qt
@[simp] def okS (d e:D):Bool:=aM d&&(aM e&&BO d e)
def bT:Nat->D->D->Bool
 |0,d,e=>okS d e
 |n+1,d,e=>(match d with
  |.tup xs=>(match e with|.tup ys=>(xs.zip ys).all λp=>bT n p.1 p.2|_=>Qf)
  |.lst xs=>(match e with|.lst ys=>(xs.zip ys).all λp=>bT n p.1 p.2|_=>Qf)
  |d=>okS d e)
def ie{P:D->Prop}{d:D}(s:aM d=Qt)(a:P .TX)(b:∀x,P (.bl x))(c:∀x,P (.int x))(f:∀x,P (.str x)):P d:=by
 cases d with
 |TX=>exact a
 |bl x=>exact b x
 |int x=>exact c x
 |str x=>exact f x
 |_=>exact absurd (show Qf=Qt from s) OD
def dV:D->V
 |.bl b=>.bl b
 |.int i=>.int i
 |.str x=>.str x
 |_=>.TX
def vD:V->D
 |.bl b=>.bl b
 |.int i=>.int i
 |.str x=>.str x
 |_=>.TX
def gZ{d:D}(s:aM d=Qt)(r:Rep K H d v):v=dV d:=by cases r<;>first|rfl|exact absurd (show Qf=Qt from s) OD
def me{d:D}(s:aM d=Qt):vD (dV d)=d:=ie (P:=λd=>vD (dV d)=d) s rfl (λ_=>rfl) (λ_=>rfl) λ_=>rfl
inductive Okv(n:Nat)(d e:D):Prop
 |sc (a:aM d=Qt) (b:aM e=Qt)
 |tp (m:Nat) (xs ys:List D) (h:n=m+1) (a:d=.tup xs) (b:e=.tup ys) (k:((xs.zip ys).all λp=>bT m p.1 p.2)=Qt)
 |ls (m:Nat) (xs ys:List D) (h:n=m+1) (a:d=.lst xs) (b:e=.lst ys) (k:((xs.zip ys).all λp=>bT m p.1 p.2)=Qt)
def sJ{d e:D}(h:okS d e=Qt):aM d=Qt/\aM e=Qt:=⟨(O0.mp h).1,(O0.mp (O0.mp h).2).1⟩
def mG{d e:D}(ok:bT n d e=Qt):Okv n d e:=by
 cases n with
 |zero=>exact .sc (sJ ok).1 (sJ ok).2
 |succ m=>
  cases d with
  |tup xs=>
   cases e with
   |tup ys=>exact .tp m xs ys rfl rfl rfl ok
   |_=>exact absurd (show Qf=Qt from ok) OD
  |lst xs=>
   cases e with
   |lst ys=>exact .ls m xs ys rfl rfl rfl ok
   |_=>exact absurd (show Qf=Qt from ok) OD
  |_=>exact .sc (sJ ok).1 (sJ ok).2
inductive zh0(K:Ou)(H:Hp)(xs:List D)(v:V):Prop
 |mk (p:Xl) (vs:List V) (a:v=.ref p) (b:UA K H p vs) (c:Ts K H xs vs)
inductive zh2(K:Ou)(H:Hp)(xs:List D)(v:V):Prop
 |mk (p:Xl) (vs:List V) (a:v=.ref p) (b:TZ K H p vs) (c:Ts K H xs vs)
def Rep.Xy{xs:Ql D}(r:Rep K H (.tup xs) v):zh0 K H xs v:=by
 cases r with
 |tup a b=>exact⟨_,_,rfl,a,b⟩
def Rep.XE{xs:Ql D}(r:Rep K H (.lst xs) v):zh2 K H xs v:=by
 cases r with
 |lst a b=>exact⟨_,_,rfl,a,b⟩
def Nj{kvs:Ql (aD×V)}(I:Inv X pins σ H s)(h:H p=Qs (.dK kvs)):∃o,s.heap.get? p=Qs o/\o.cls=.type "dict":=by obtain⟨_,_,vs,_,m⟩:kvs.length<=O3/\(p==sysModules)=Qf/\∃vs,KV kvs vs/\s.heap.DictOf (dO X.prog X.w) p vs:=I.TY p _ h;exact m.typeIs
def JY (I:Inv X pins σ H s)(h:H p=Qs (.dT kvs)):∃o,s.heap.get? p=Qs o/\o.cls=.type "dict":=by obtain⟨_,_,xs,_,o,es,ep,h1,h2,_⟩:=(show U5 X.prog X.w H s.heap p (.dT kvs) from I.TY p _ h);exact⟨o,h1,h2.1⟩
def M6{o':Obj}(I:Inv X pins σ H s)(h:H p=Qs (.Vb o' (.dT kvs))):∃o,s.heap.get? p=Qs o/\o.cls=.type "dict":=by obtain⟨_,_,_,xs,_,o,es,ep,h1,h2,_⟩:=(show U5 X.prog X.w H s.heap p (.Vb o' (.dT kvs)) from I.TY p _ h);exact⟨o,h1,h2.1⟩
def vQ{n:Nat}{H:Hp}(h:∀(d e:D) (v:V),bT n d e=Qt->Rep X.K H d v->Rep X.K H e v->d=e):∀{ds es:Ql D}{vs:Ql V},((ds.zip es).all λp=>bT n p.1 p.2)=Qt->Ts X.K H ds vs->Ts X.K H es vs->ds=es
 |_,_,_,_,.nil,.nil=>rfl
 |_,_,_,ok,.cons a r,.cons b q=>by simp only[Pu,PN,OH]at ok;rw[h _ _ _ ok.1 a b,vQ h ok.2 r q]
def Rep.inj (I:Inv X pins σ H s):∀(n:Nat) (d e:D) (v:V),bT n d e=Qt->Rep X.K H d v->Rep X.K H e v->d=e:=by
 intro n
 induction n with
 |zero=>
  intro d e v ok r q;cases mG ok with
  |sc a b=>rw[<-me a,<-me b,<-gZ a r,<-gZ b q]
  |tp _ _ _ h=>cases h
  |ls _ _ _ h=>cases h
 |succ n ih=>
  intro d e v ok r q;cases mG ok with
  |sc a b=>rw[<-me a,<-me b,<-gZ a r,<-gZ b q]
  |tp m xs ys h a b k=>cases h;subst a b;obtain⟨p,vs,rfl,h1,r1⟩:=r.Xy;obtain⟨p',VH,z,h2,r2⟩:=q.Xy;cases z;have ev:=I.zb6 h1 h2;subst ev;rw[vQ ih k r1 r2]
  |ls m xs ys h a b k=>cases h;subst a b;obtain⟨p,vs,rfl,h1,r1⟩:=r.XE;obtain⟨p',VH,z,h2,r2⟩:=q.XE;cases z;have ev:=I.za8 h1 h2;subst ev;rw[vQ ih k r1 r2]
mutual
def Ec:∀{a b:D},cq a b=Qt->a=b
 |.TX,b=>by cases b<;>intro h<;>first|rfl|exact absurd (show Qf=Qt from h) OD
 |.bl x,b=>by cases b<;>intro h<;>first|exact congrArg D.bl (of_decide_eq_true h)|exact absurd (show Qf=Qt from h) OD
 |.int x,b=>by cases b<;>intro h<;>first|exact congrArg D.int (of_decide_eq_true h)|exact absurd (show Qf=Qt from h) OD
 |.str x,b=>by cases b<;>intro h<;>first|exact congrArg D.str (of_decide_eq_true h)|exact absurd (show Qf=Qt from h) OD
 |.U1 x,b=>by cases b<;>intro h<;>first|exact congrArg D.U1 (of_decide_eq_true h)|exact absurd (show Qf=Qt from h) OD
 |.VN x,b=>by cases b<;>intro h<;>first|exact congrArg D.VN (of_decide_eq_true h)|exact absurd (show Qf=Qt from h) OD
 |.adr x,b=>by cases b<;>intro h<;>first|exact congrArg D.adr (of_decide_eq_true h)|exact absurd (show Qf=Qt from h) OD
 |.T4 x,b=>by cases b<;>intro h<;>first|exact congrArg D.T4 (of_decide_eq_true h)|exact absurd (show Qf=Qt from h) OD
 |.tup xs,b=>by cases b<;>intro h<;>first|exact congrArg D.tup (Ze h)|exact absurd (show Qf=Qt from h) OD
 |.lst xs,b=>by cases b<;>intro h<;>first|exact congrArg D.lst (Ze h)|exact absurd (show Qf=Qt from h) OD
 |.Uk ks xs,b=>by cases b<;>intro h<;>first|(rw[of_decide_eq_true (O0.mp h).1,Ze (O0.mp h).2])|exact absurd (show Qf=Qt from h) OD
 |.obj C ks xs,b=>by cases b<;>intro h<;>first|(rw[of_decide_eq_true (O0.mp h).1,of_decide_eq_true (O0.mp (O0.mp h).2).1,Ze (O0.mp (O0.mp h).2).2])|exact absurd (show Qf=Qt from h) OD
def Ze:∀{a b:List D},Xd a b=Qt->a=b
 |[],b=>by cases b<;>intro h<;>first|rfl|exact absurd (show Qf=Qt from h) OD
 |x::xs,b=>by cases b<;>intro h<;>first|(rw[Ec (O0.mp h).1,Ze (O0.mp h).2])|exact absurd (show Qf=Qt from h) OD
end
mutual
def Ea:∀a:D,cq a a=Qt
 |.TX=>rfl
 |.bl _=>Uc rfl
 |.int _=>Uc rfl
 |.str _=>Uc rfl
 |.U1 _=>Uc rfl
 |.VN _=>Uc rfl
 |.adr _=>Uc rfl
 |.T4 _=>Uc rfl
 |.tup xs=>Zd xs
 |.lst xs=>Zd xs
 |.Uk _ xs=>O0.mpr ⟨Uc rfl,Zd xs⟩
 |.obj _ _ xs=>O0.mpr ⟨Uc rfl,O0.mpr ⟨Uc rfl,Zd xs⟩⟩
def Zd:∀a:List D,Xd a a=Qt
 |[]=>rfl
 |x::xs=>O0.mpr ⟨Ea x,Zd xs⟩
end
def M9{a b:D}:cq a b=Qt↔a=b:=⟨Ec,λe=>e▸Ea a⟩
def zhj{a b:Ql D}:Xd a b=Qt↔a=b:=⟨Ze,λe=>e▸Zd a⟩
def WU{a b:D}:cq a b=Qt↔a=b:=M9
def zdo{a b:D}:cq a b=Qf↔¬a=b:=by rw[<-WU];simp
def ir(xs ys:Ql D)(j:Nat):Bool:=match xs[j]?,ys[j]? with
 |some a,Qs b=>cq a b
 |_,_=>Qt
def PlainL.VE{a:Xl}{TH:Array OM}(p:PlainL h a TH):h.IsList a TH:=by obtain⟨o,n,e,c,_,d⟩:=p;exact⟨o,e,c,n,d⟩
def yM{d e:D}{u:V}(r:Rep K H d v)(q:Rep K H e u)(s1:aM d=Qt)(s2:aM e=Qt)(ok:bT n d e=Qt):dv v=Qt/\dv u=Qt/\gw v u=cq d e:=by
 rw[gZ s1 r,gZ s2 q];clear r q;revert s2 ok;refine ie (P:=λd=>aM e=Qt->bT n d e=Qt->dv (dV d)=Qt/\dv (dV e)=Qt/\gw (dV d) (dV e)=cq d e) s1 ?_ ?_ ?_ ?_
 .exact λs2 _=>ie (P:=λe=>dv V.TX=Qt/\dv (dV e)=Qt/\gw V.TX (dV e)=cq .TX e) s2 ⟨rfl,rfl,rfl⟩ (λ_=>⟨rfl,rfl,rfl⟩) (λ_=>⟨rfl,rfl,rfl⟩) λ_=>⟨rfl,rfl,rfl⟩
 .exact λx s2=>ie (P:=λe=>bT n (.bl x) e=Qt->dv (V.bl x)=Qt/\dv (dV e)=Qt/\gw (V.bl x) (dV e)=cq (.bl x) e) s2 (λ_=>⟨rfl,rfl,rfl⟩) (λ_ _=>⟨rfl,rfl,by rw[PR];exact beq_iff_eq.trans decide_eq_true_iff.symm⟩) (λ_ z=>absurd (show Qf=Qt by cases n<;>exact z) OD) λ_ _=>⟨rfl,rfl,rfl⟩
 .exact λx s2=>ie (P:=λe=>bT n (.int x) e=Qt->dv (V.int x)=Qt/\dv (dV e)=Qt/\gw (V.int x) (dV e)=cq (.int x) e) s2 (λ_=>⟨rfl,rfl,rfl⟩) (λ_ z=>absurd (show Qf=Qt by cases n<;>exact z) OD) (λ_ _=>⟨rfl,rfl,by rw[PR];exact beq_iff_eq.trans decide_eq_true_iff.symm⟩) λ_ _=>⟨rfl,rfl,rfl⟩
 .exact λx s2 _=>ie (P:=λe=>dv (V.str x)=Qt/\dv (dV e)=Qt/\gw (V.str x) (dV e)=cq (.str x) e) s2 ⟨rfl,rfl,rfl⟩ (λ_=>⟨rfl,rfl,rfl⟩) (λ_=>⟨rfl,rfl,rfl⟩) λ_=>⟨rfl,rfl,by rw[PR];exact beq_iff_eq.trans decide_eq_true_iff.symm⟩
def uy{xs ys:Ql D}(h:xs.length=ys.length):(Pk xs.length).all (ir xs ys)=cq (.lst xs) (.lst ys):=by
 rw[PR,WU,PF];constructor
 .intro hh;congr 1;apply Sh h;intro i h1 h2;have:=hh i (QA.mpr h1);simp only[ir,OE h1,OE h2]at this;exact WU.mp this
 .intro hh i hi;injection hh with hh
  subst hh;simp only[ir];split
  .rename_i a b z1 z2;rw[z1]at z2;cases z2;exact WU.mpr rfl
  .rfl
def zC{xs ys:Ql D}:((Pk (min xs.length ys.length)).all (ir xs ys)&&xs.length==ys.length)=cq (.tup xs) (.tup ys):=by
 by_cases h:xs.length=ys.length
 .have e:min xs.length ys.length=xs.length:=by lia
  rw[e,uy h,beq_iff_eq.mpr h,Ux];rw[PR,WU,WU];simp
 .have e:(xs.length==ys.length)=Qf:=by simpa using h
  rw[e,Bool.and_false];symm;rw[zdo];intro z;injection z with z
  exact h (by rw[z])
def zT{xs ys:Ql D}(h:((xs.zip ys).all λp=>bT n p.1 p.2)=Qt){x y:D}(hx:xs[j]?=Qs x)(hy:ys[j]?=Qs y):bT n x y=Qt:=by rw[PF]at h;refine h (x,y) (Rp (i:=j) ?_);rw[List.getElem?_zip_eq_some];exact⟨hx,hy⟩
def Dk{A:Qq}:A.in1.units=A.units+1:=rfl
def Vals.getL (h:Vals vs us) (hj:j<us.toArray.size):∃v,vs[j]?=Qs v/\RelV v us.toArray[j]:=by
 have ZP:j<vs.length:=by rw[h.length];simpa using hj
 obtain⟨u,e,r⟩:=Vals.get h (OE ZP);refine⟨_,OE ZP,?_⟩;have:us.toArray[j]=u:=by
  have hj2:j<us.length:=by simpa using hj
  have:=OE hj2;rw[e]at this;simpa using(O4 this).symm
 rw[this];exact r
def gO{xs:Ql D}(w:Vals vs TH)(h:Ts K H xs vs):TH.toArray.size=xs.length:=by rw[OV,<-w.length,h.length]
def wY{xs ys:Ql D}(h:¬xs.length=ys.length):cq (.lst xs) (.lst ys)=Qf:=zdo.mpr λz=>h (by injection z with z;rw[z])
def Nb (I:Inv X pins σ H s):∀(n:Nat) (A:Qq) (d e:D) (v u:V) (y z:OM),A.units+n<cLine->bT n d e=Qt->Rep X.K H d v->Rep X.K H e u->RelV v y->RelV u z->SeqAt.EqAt A s y z (cq d e):=by
 intro n
 induction n with
 |zero=>
  intro A d e v u y z hu ok r q ry rz;cases mG ok with
  |sc s1 s2=>obtain⟨f1,f2,ee⟩:=yM r q s1 s2 ok;rw[<-ee];exact yO ry rz f1 f2
  |tp _ _ _ h=>cases h
  |ls _ _ _ h=>cases h
 |succ n ih=>
  intro A d e v u y z hu ok r q ry rz;have hu':A.in1.units+n<cLine:=Pa (by rw[Dk,Nat.add_right_comm];exact OL _) hu;have W5:A.units<cLine:=Pa (Si _ _) hu;have itm:∀{xs ys:Ql D}{vs ws:Ql V}{TH its':Ql OM},((xs.zip ys).all λp=>bT n p.1 p.2)=Qt->Ts X.K H xs vs->Ts X.K H ys ws->Vals vs TH->Vals ws its'->∀j (g1:j<TH.toArray.size) (g2:j<its'.toArray.size),SeqAt.EqAt A.in1 s TH.toArray[j] its'.toArray[j] (ir xs ys j):=λk h2 U9 w1 Vu j g1 g2=>by obtain⟨v1,a1,a2⟩:=Vals.getL w1 g1;obtain⟨v2,b1,b2⟩:=Vals.getL Vu g2;obtain⟨x1,c1,c2⟩:=h2.Xb a1;obtain⟨x2,d1,d2⟩:=U9.Xb b1;have t:=ih A.in1 x1 x2 v1 v2 _ _ hu' (zT k c1 d1) c2 d2 a2 b2;unfold ir;rw[c1,d1];exact t
  cases mG ok with
  |sc s1 s2=>obtain⟨f1,f2,ee⟩:=yM r q s1 s2 ok;rw[<-ee];exact yO ry rz f1 f2
  |tp m xs ys h a b k=>
   cases h;subst a b;by_cases z:v=u
   .subst z;rw[WU.mpr (Rep.inj I _ _ _ _ ok r q)];obtain⟨p,vs,rfl,_,_⟩:=r.Xy;cases ry;cases rz;exact SeqAt.EqAt.same _
   .obtain⟨p,vs,rfl,h1,h2⟩:=r.Xy;obtain⟨p',ws,rfl,Wj,U9⟩:=q.Xy;cases ry;cases rz;obtain⟨TH,w1,w2,_⟩:=I.tuple h1;obtain⟨its',Vu,V7,_⟩:=I.tuple Wj;refine SeqAt.EqAt.of_refs (λy=>z (by rw[y])) ?_;have k:=SeqAt.RcAt.tuples (A:=A) (e:=ir xs ys) w2 V7 W5 (itm k h2 U9 w1 Vu);rw[gO w1 h2,gO Vu U9,zC]at k;exact k
  |ls m xs ys h a b k=>
   cases h;subst a b;by_cases z:v=u
   .subst z;rw[WU.mpr (Rep.inj I _ _ _ _ ok r q)];obtain⟨p,vs,rfl,_,_⟩:=r.XE;cases ry;cases rz;exact SeqAt.EqAt.same _
   .obtain⟨p,vs,rfl,h1,h2⟩:=r.XE;obtain⟨p',ws,rfl,Wj,U9⟩:=q.XE;cases ry;cases rz;obtain⟨TH,w1,w2,_⟩:=I.list h1;obtain⟨its',Vu,V7,_⟩:=I.list Wj;refine SeqAt.EqAt.of_refs (λy=>z (by rw[y])) ?_;have l1:=gO w1 h2;have l2:=gO Vu U9;by_cases hl:xs.length=ys.length
    .have k:=SeqAt.RcAt.lists (A:=A) (e:=ir xs ys) (PlainL.VE w2) (PlainL.VE V7) (by rw[l1,l2];exact hl) W5 (itm k h2 U9 w1 Vu);rw[l1,uy hl]at k;exact k
    .rw[wY hl];exact SeqAt.RcAt.lists_lengths (PlainL.VE w2) (PlainL.VE V7) (by rw[l1,l2];exact bne_iff_ne.mpr hl) W5
def rH (I:Inv X pins σ H s){A:Qq}{xs ys:Ql D}{its':Ql OM}(hu:A.units+n+1<cLine)(ok:((xs.zip ys).all λp=>bT n p.1 p.2)=Qt) (h2:Ts X.K H xs vs) (U9:Ts X.K H ys ws) (w1:Vals vs TH) (Vu:Vals ws its'):∀j (g1:j<TH.toArray.size) (g2:j<its'.toArray.size),SeqAt.EqAt A.in1 s TH.toArray[j] its'.toArray[j] (ir xs ys j):=λj g1 g2=>by
 obtain⟨v1,a1,a2⟩:=Vals.getL w1 g1;obtain⟨v2,b1,b2⟩:=Vals.getL Vu g2;obtain⟨x1,c1,c2⟩:=h2.Xb a1;obtain⟨x2,d1,d2⟩:=U9.Xb b1;have:=Nb I n A.in1 x1 x2 v1 v2 _ _ (by rw[Dk];lia) (zT ok c1 d1) c2 d2 a2 b2;have ee:ir xs ys j=cq x1 x2:=by simp only[ir,c1,d1]
 rw[ee];exact this
def fq:Ev->Ev->Qo Ev:=λr1 r2=>if bT 6 r1.d r2.d then Qs (.cl (.bl (cq r1.d r2.d))) else Qn
def di:Ev->Ev->Qo Ev:=λr1 r2=>if bT 6 r1.d r2.d then Qs (.cl (.bl (!cq r1.d r2.d))) else Qn
def AF{d e:D}{u:V}(r:Rep K H d v)(q:Rep K H e u)(s1:aM d=Qt)(s2:aM e=Qt)(ok:bT n d e=Qt):j7 v u=Qt/\decide (v=u)=cq d e:=by
 refine⟨?_,?_⟩
 .rw[gZ s1 r,gZ s2 q];clear r q;revert s2 ok;refine ie (P:=λd=>aM e=Qt->bT n d e=Qt->j7 (dV d) (dV e)=Qt) s1 ?_ ?_ ?_ ?_
  .exact λs2 _=>ie (P:=λe=>j7 V.TX (dV e)=Qt) s2 rfl (λ_=>rfl) (λ_=>rfl) λ_=>rfl
  .exact λx s2=>ie (P:=λe=>bT n (.bl x) e=Qt->j7 (V.bl x) (dV e)=Qt) s2 (λ_=>rfl) (λ_ _=>rfl) (λ_ z=>absurd (show Qf=Qt by cases n<;>exact z) OD) λ_ _=>rfl
  .exact λx s2=>ie (P:=λe=>bT n (.int x) e=Qt->j7 (V.int x) (dV e)=Qt) s2 (λ_=>rfl) (λ_ z=>absurd (show Qf=Qt by cases n<;>exact z) OD) (λ_ _=>rfl) λ_ _=>rfl
  .exact λx s2=>ie (P:=λe=>bT n (.str x) e=Qt->j7 (V.str x) (dV e)=Qt) s2 (λ_=>rfl) (λ_ z=>absurd (show Qf=Qt by cases n<;>exact z) OD) (λ_ _=>rfl) λ_ _=>rfl
 .rw[PR,WU];refine decide_eq_true_iff.trans ⟨λz=>?_,λz=>?_⟩
  .rw[<-me s1,<-me s2,<-gZ s1 r,<-gZ s2 q,z]
  .rw[gZ s1 r,gZ s2 q,z]
def k7(hu:X.A.units+64<cLine):Vh X F (compareOp .Eq) fq:=by
 intro pins s σ H0 H A x y v u Q r1 r2 r I m g0 rx ry q1 q2 e hq;refine bW e λok e=>?_;cases e;have p1:=q1.full;have p2:=q2.full;have W5:X.A.units<cLine:=Pa (Si _ _) hu;have ZH:X.A.units+5+1<cLine:=Pa (SX (by decide:6<=64) _) hu;cases mG ok with
 |sc s1 s2=>obtain⟨a1,a2⟩:=AF p1 p2 s1 s2 ok;exact Kb pins s σ H x y v u Q I rx ry ⟨a1,by rw[a2];exact hq _ H (Tj.refl H) (.bl _)⟩
 |tp m' xs ys h a b k=>cases h;rw[a]at p1 hq;rw[b]at p2 hq;obtain⟨p,vs,rfl,h1,h2⟩:=p1.Xy;obtain⟨p',ws,rfl,Wj,U9⟩:=p2.Xy;cases rx;cases ry;obtain⟨TH,w1,w2,_⟩:=I.tuple h1;obtain⟨its',Vu,V7,_⟩:=I.tuple Wj;refine SeqAt.eq_tupleAt w2 V7 W5 (rH I (n:=5) ZH k h2 U9 w1 Vu) ?_;rw[gO w1 h2,gO Vu U9,zC];exact⟨.bl _,H,I,rfl,hq _ H (Tj.refl H) (.bl _)⟩
 |ls m' xs ys h a b k=>
  cases h;rw[a]at p1 hq;rw[b]at p2 hq;obtain⟨p,vs,rfl,h1,h2⟩:=p1.XE;obtain⟨p',ws,rfl,Wj,U9⟩:=p2.XE;cases rx;cases ry;obtain⟨TH,w1,w2,_⟩:=I.list h1;obtain⟨its',Vu,V7,_⟩:=I.list Wj;have l1:=gO w1 h2;have l2:=gO Vu U9;by_cases hl:xs.length=ys.length
  .refine SeqAt.eq_listAt (PlainL.VE w2) (PlainL.VE V7) (by rw[l1,l2];exact hl) W5 (rH I (n:=5) ZH k h2 U9 w1 Vu) ?_;rw[l1,uy hl];exact⟨.bl _,H,I,rfl,hq _ H (Tj.refl H) (.bl _)⟩
  .rw[wY hl]at hq;exact SeqAt.eq_list_lengthsAt (PlainL.VE w2) (PlainL.VE V7) (by rw[l1,l2];exact bne_iff_ne.mpr hl) W5 ⟨.bl _,H,I,rfl,hq _ H (Tj.refl H) (.bl _)⟩
def jy(hu:X.A.units+64<cLine):Vh X F (compareOp .NotEq) di:=by
 intro pins s σ H0 H A x y v u Q r1 r2 r I m g0 rx ry q1 q2 e hq;refine bW e λok e=>?_;cases e;have p1:=q1.full;have p2:=q2.full;have W5:X.A.units<cLine:=Pa (Si _ _) hu;have ZH:X.A.units+5+1<cLine:=Pa (SX (by decide:6<=64) _) hu;cases mG ok with
 |sc s1 s2=>obtain⟨a1,a2⟩:=AF p1 p2 s1 s2 ok;exact J5 pins s σ H x y v u Q I rx ry ⟨a1,by rw[a2];exact hq _ H (Tj.refl H) (.bl _)⟩
 |tp m' xs ys h a b k=>cases h;rw[a]at p1 hq;rw[b]at p2 hq;obtain⟨p,vs,rfl,h1,h2⟩:=p1.Xy;obtain⟨p',ws,rfl,Wj,U9⟩:=p2.Xy;cases rx;cases ry;obtain⟨TH,w1,w2,_⟩:=I.tuple h1;obtain⟨its',Vu,V7,_⟩:=I.tuple Wj;have k:=SeqAt.RcNeAt.tuples (A:=X.A) w2 V7 W5 (rH I (n:=5) ZH k h2 U9 w1 Vu);rw[gO w1 h2,gO Vu U9,zC]at k;exact k _ _ _ _ ⟨.bl _,H,I,rfl,hq _ H (Tj.refl H) (.bl _)⟩
 |ls m' xs ys h a b k=>
  cases h;rw[a]at p1 hq;rw[b]at p2 hq;obtain⟨p,vs,rfl,h1,h2⟩:=p1.XE;obtain⟨p',ws,rfl,Wj,U9⟩:=p2.XE;cases rx;cases ry;obtain⟨TH,w1,w2,_⟩:=I.list h1;obtain⟨its',Vu,V7,_⟩:=I.list Wj;have l1:=gO w1 h2;have l2:=gO Vu U9;by_cases hl:xs.length=ys.length
  .have k:=SeqAt.RcNeAt.lists (A:=X.A) (PlainL.VE w2) (PlainL.VE V7) (by rw[l1,l2];exact hl) W5 (rH I (n:=5) ZH k h2 U9 w1 Vu);rw[l1,uy hl]at k;exact k _ _ _ _ ⟨.bl _,H,I,rfl,hq _ H (Tj.refl H) (.bl _)⟩
  .rw[wY hl]at hq;exact SeqAt.RcNeAt.lists_lengths (A:=X.A) (PlainL.VE w2) (PlainL.VE V7) (by rw[l1,l2];exact bne_iff_ne.mpr hl) W5 _ _ _ _ ⟨.bl _,H,I,rfl,hq _ H (Tj.refl H) (.bl _)⟩
def uJ:D->String
 |.TX=> "NoneType"
 |.bl _=> "bool"
 |.int _=> "int"
 |.str _=> "str"
 |.tup _=> "tuple"
 |.lst _=> "list"
 |.Uk _ _=> "dict"
 |.U1 _=> "dict"
 |.VN _=> "dict"
 |.adr _=> "NoneType"
 |.T4 _=> "NoneType"
 |.obj _ _ _=> "NoneType"
def tK(d:D)(T:String):Bool:=uJ d==T||(uJ d== "bool"&&T== "int")
def Dc:D->Bool
 |.adr _=>Qt
 |.T4 _=>Qt
 |.obj _ _ _=>Qt
 |_=>Qf
def jQ(T:String)(f:DE):DE:=λt=>(f t).bind λr=>if Dc r.d then Qn else Qs (.cl (.bl (tK r.d T)))
def zP(K:Ou)(T:String):Prop:=∀d:D,PySem.W.kitOne K (.type (uJ d)) (.type T)=Qs (tK d T)
def wC{p:Pos}(ok:zP X.K T)(ha:PE X a (dE X.K F fa))(hg:Gl X "isinstance")(hm:X.mg "isinstance"=Qn)(hgT:Gl X x)(hmT:X.mg x=Qn)(hvT:bootBuiltins x=Qs (.type T))(hnT:x≠"__name__":=by decide)(hdT:UR x:=by decide)
  (he:OP (a::[Expr.Name x p2]) X.env=(Qf,eval a X.env)::OP [.Name x p2] X.env:=by rfl) (he2:OP [Expr.Name x p2] X.env=[(Qf,eval (.Name x p2) X.env)]:=by rfl) (Vl:(QJ pos (OP [Expr.Name x p2] X.env)).any (·.1)=Qf:=by rfl) :PE X (.Call (.Name "isinstance" p) [a,.Name x p2] [] pos) (dE X.K F (jQ T fa)):=by
 have rule:gc X (.builtin "isinstance") (λxs H Q => ∃v d,xs=[v,.ty T]/\Dc d=Qf/\Rep X.K H d v/\Q (.bl (tK d T)) H):=by
  intro pins s σ H xs us Q I r h;obtain⟨v,d,rfl,na,rp,hq⟩:=h;obtain⟨u,w',rfl,r1,r2⟩:=uG r;cases(show w'=Se T from r2);have fin:∀tk,EP X pins σ Q (.bool (tK d T)) { s with toks:=tk }:=λtk=>⟨.bl _,H,I.tok tk,rfl,hq⟩;have e:=ok d;cases rp with
  |TX=>cases(show u=QS from r1);exact Qi PySem.W.kitx_none I.Vf True.intro e (λz=>nomatch z) fin
  |bl y=>cases(show u=Tt y from r1);exact Qi PySem.W.kitx_bool I.Vf True.intro e (λz=>nomatch z) fin
  |int i=>obtain⟨t,q⟩:=(show ∃t,u=SU i t from r1);cases q;exact Qi PySem.W.kitx_int I.Vf True.intro e (λz=>nomatch z) fin
  |str y=>obtain⟨t,q⟩:=(show ∃t,u=Tq y t from r1);cases q;exact Qi PySem.W.kitx_str I.Vf True.intro e (λz=>nomatch z) fin
  |@tup _ p _ h1 h2 =>cases(show u=OY p from r1);obtain⟨TH,_,⟨o,e1,c1,_⟩,_⟩:=I.tuple h1;exact Qi PySem.W.kitx_tuple I.Vf ⟨o,e1,c1⟩ e (λz=>nomatch z) fin
  |@lst _ p _ h1 h2 =>cases(show u=OY p from r1);obtain⟨TH,_,⟨o,n,e1,c1,_⟩,_⟩:=I.list h1;exact Qi PySem.W.kitx_list I.Vf ⟨o,e1,c1⟩ e (λz=>nomatch z) fin
  |@Uk _ _ p _ _ h1 h2 =>cases(show u=OY p from r1);exact Qi RX I.Vf (Nj I h1) e (λz=>nomatch z) fin
  |@U1 _ p h1 =>cases(show u=OY p from r1);exact Qi RX I.Vf (JY I h1) e (λz=>nomatch z) fin
  |@VN _ p _ h1 =>cases(show u=OY p from r1);exact Qi RX I.Vf (M6 I h1) e (λz=>nomatch z) fin
  |adr _=>cases na
  |T4 _=>cases na
  |obj _ _ _=>cases na
 refine PE.imp (JV rule hg hm boot_isinstance (gm ha (gm (JW (v:=.ty T) hgT hmT hvT rfl hnT hdT) gF he2) he) (by decide) (by decide) he Vl) ?_;rintro σ H Q ⟨A,t,r,R,e,h⟩;unfold jQ at e;rcases e1:fa t with _|r1
 .rw[e1]at e;cases e
 rw[e1]at e;simp only[Oz]at e;split at e
 case isTrue=>cases e
 rename_i na;cases e;exact⟨A,t,r1,R,e1,λv H' gs q=>⟨v,r1.d,rfl,by simpa using na,q.full,h _ H' gs (.bl _)⟩⟩
def mm(N:Ql Str)(ds:Ql D):Th:=ds.map Sl.val++OR (N.length-ds.length) Sl.no
def TK.zam{K:Ou}{H0 H:Hp}:∀n,TK K H0 H (OR n Sl.no) (OR n Qn) []
 |0=>.nil
 |n+1=>.no (TK.zam n)
def TK.start{K:Ou}{H0 H:Hp}{t:Th}{σ:L2.St}(r0:TK K H0 H t σ []):∀{ds:Ql D}{vs:Ql V},Ts K H0 ds vs->TK K H0 H (ds.map Sl.val++t) (vs.map Qs++σ) []
 |_,_,.nil=>r0
 |_,_,.cons h r=>.val h (TK.start r0 r)
def dg:Out->Qo Ev
 |.rt r=>Qs r
 |.nx _=>Qs (.cl .TX)
 |_=>Qn
def MN{mg:Str->Qo OM}{f:Xl}{k:Nat}(Fn:L2.UB K x qual st f fd)(S:UN N ps (aY st)) (hlen:∀ds r,G ds=Qs r->ds.length=ps.length) (g:DS) (hG:∀ds r,G ds=Qs r->∃o,g (mm N ds)=Qs o/\dg o=Qs r) (W9:∀(T9:OM) (A:Qq) (outer:Ql Env) (s:OJ) (H:Hp) (E:XK) (F:Ql Xl),UP k (A.deeper (envOfC qual (aY st) s.heap.objs.size f T9))->Uu (jd bg P w K mg base N qual (aY st) f T9 A outer s H E).X5 (eQ st) (dS K F g)):Um P w K mg base bg (k+1) f fd ps (UY K G):=by
 refine Fn.ok S (λvs H Q E h=>?_) (λT9 A outer s H vs Q E hr h=>?_)
 .obtain⟨Fo,ds,r,_,hr,hg,_⟩:=h;rw[hr.length];exact hlen ds r hg
 .obtain⟨Fo,ds,r,hl,hr',hg,cont⟩:=h;obtain⟨o,ho,hoe⟩:=hG ds r hg;refine⟨_,W9 T9 A outer s H E Fo hr,kH (A:=[]) (t:=mm N ds) ⟨hl,Pl,λp hp=>(by cases hp),?_⟩ ho ?_⟩
  .unfold mm L2.start;rw[hr'.length];exact TK.start (TK.zam _) hr'
  .have sm:∀{A' H'},Gr [] H A' H'->Tj H H':=λg b o q=>g.kp b o (by simp) q;cases o with
   |nx t'=>cases hoe;exact λσ' H' A' g' R'=>cont .TX H' (sm g') .TX
   |bk t'=>cases hoe
   |ct t'=>cases hoe
   |rt r'=>
    cases hoe;intro v H' A' g' q;refine cont v H' (sm g') ?_;cases r with
    |cl d=>exact q
    |tm d=>exact q
    |nw xs=>
     obtain⟨p,VH,rfl,h1,h2,h3,h4⟩:=q;rcases h1 with h1|h1
     .cases h1
     .exact⟨p,VH,rfl,h1,h3,h4⟩
    |dn d=>obtain⟨B,h1,h2,h3⟩:=q;exact⟨B,h1,λb hb=>by rcases(h2 b hb).1 with z|z;cases z;exact z,h3⟩
structure V6(P:Pe)(w:QI)(K:Ou)(mg:Str->Option OM)(base:VZ)(x:Str)(k:Nat)(G:List D->Option Ev):Prop where
 ex:∃(a:Xl) (fd:PX) (ps:List Str),mg x=Qs (.ref a)/\PV K (.ref a)=Qt/\L2.Binds K fd ps []/\Um P w K mg base bg k a fd ps (UY K G)
def fj{k:Nat}{p:Pos}(c:V6 X.prog X.w X.K X.mg X.base x k G)(hr:UP k X.A)(ha:PA X (a::es) (dA X.K F ga))(hg:Gl X x:=by rfl)(V3:UR x:=by decide) (he:OP (a::es) X.env=(Qf,eval a X.env)::OP es X.env:=by rfl) (Vl:(QJ pos (OP es X.env)).any (·.1)=Qf:=by rfl):PE X (.Call (.Name x p) (a::es) [] pos) (dE X.K F (ag (aO G) ga)):=by obtain⟨f,fd,ps,h1,h2,h3,h4⟩:=c.ex;exact JK h4 hr hg h1 h2 h3 ha V3 he Vl
structure Df(K:Ou)(mg:Str->Option OM)(x:Str)(st:Xo)(ps:List Str)(a:Xl)(fd:PX):Prop where
 fn:L2.UB K x x st a fd
 mgx:mg x=Qs (.ref a)
 bd:L2.Binds K fd ps []
def Df.Wn{mg:Str->Qo OM}{a:Xl}{k:Nat}(d:Df K mg x st ps a fd)(h:Um P w K mg base bg k a fd ps (UY K G)):V6 P w K mg base x k G:=⟨a,fd,ps,d.mgx,d.fn.kp,d.bd,h⟩
def Ml:zP K "tuple":=λd=>by cases d<;>rfl
def C7:zP K "list":=λd=>by cases d<;>rfl
def NR:bootBuiltins "tuple"=Qs (.type "tuple"):=by decide+kernel
def jT:bootBuiltins "list"=Qs (.type "list"):=by decide+kernel
def EJ:bootBuiltins "abs"=Qs (.builtin "abs"):=by decide+kernel
def m8:∀{us:Ql OM},us.length=n+1->∃a t,us=a::t/\t.length=n
 |a::t,h=>⟨a,t,rfl,Nat.succ.inj h⟩
def zt{f:Xl}{p0:Str}(F:L2.UB K x qual st f fd)(h:∀(kV doc pm:OM) (an:Qo Xl) (T9 ct:OM),∀a0:OM,bindArgs (PY x qual (gJ st) (eQ st) (aY st) .none kV doc pm an T9 ct) ⟨[a0],[]⟩=pure [(p0,a0)]):Binds K fd [p0] []:=F.binds λkV doc pm an T9 ct u0 h0=>by obtain⟨a0,u1,rfl,h1⟩:=m8 h0;cases QF.mp h1;exact h kV doc pm an T9 ct a0
def pR{f:Xl}{p0 p1:Str}(F:L2.UB K x qual st f fd)(h:∀(kV doc pm:OM) (an:Qo Xl) (T9 ct:OM),∀a0 a1:OM,bindArgs (PY x qual (gJ st) (eQ st) (aY st) .none kV doc pm an T9 ct) ⟨[a0,a1],[]⟩=pure [(p0,a0),(p1,a1)]):Binds K fd [p0,p1] []:=F.binds λkV doc pm an T9 ct u0 h0=>by obtain⟨a0,u1,rfl,h1⟩:=m8 h0;obtain⟨a1,u2,rfl,h2⟩:=m8 h1;cases QF.mp h2;exact h kV doc pm an T9 ct a0 a1
def ui{f:Xl}{p0 p1 p2:Str}(F:L2.UB K x qual st f fd)(h:∀(kV doc pm:OM) (an:Qo Xl) (T9 ct:OM),∀a0 a1 a2:OM,bindArgs (PY x qual (gJ st) (eQ st) (aY st) .none kV doc pm an T9 ct) ⟨[a0,a1,a2],[]⟩=pure [(p0,a0),(p1,a1),(p2,a2)]):Binds K fd [p0,p1,p2] []:=F.binds λkV doc pm an T9 ct u0 h0=>by obtain⟨a0,u1,rfl,h1⟩:=m8 h0;obtain⟨a1,u2,rfl,h2⟩:=m8 h1;obtain⟨a2,u3,rfl,h3⟩:=m8 h2;cases QF.mp h3;exact h kV doc pm an T9 ct a0 a1 a2
inductive Hv(K:Ou)(x:Str)(st:Xo)(f:Xl):Prop
 |mk {od an:Option Xl}{sl:Array (Option OM)}{oc kV dc pm cd ct:OM} (a:Qb K mainGlobals x=Qs (Qs (.ref f))) (l:K.lookup f=Qs ⟨oc,od,.func (PY x x (gJ st) (eQ st) (aY st) .none kV dc pm an cd ct),sl⟩) (c:Rn K cd x=Qt) (k:PV K (.ref f)=Qt):Hv K x st f
def Hv.fn{f:Xl}(h:Hv K x st f):∃fd,L2.UB K x x st f fd:=by
 cases h with
 |mk a l c k=>exact⟨_,DK l c k⟩
def Hv.mg{K:Ou}{x:Str}{st:Xo}{f:Xl}{hp:Xm}{mg:Str->Qo OM}(h:Hv K x st f)(X:K.In hp)(G:hp.Ns mainGlobals mg):mg x=Qs (.ref f):=by
 cases h with
 |mk a l c k=>exact Uy X G a
def G1{P:Ql Str}{sc:SV}(h1:sc.kind=.function)(h2:sc.isCoroutine=Qf)(h3:sc.isGenerator=Qf)(h5:N.take P.length=P)(h:(decide N.Nodup&&(decide (∀x∈P,sc.names.lookup x=Qs .local\/sc.names.lookup x=Qs .cell)&&decide (∀y∈sc.names,y.2≠.free)))=Qt):UN N P sc:=by rw[OH,OH,UX,UX,UX]at h;exact⟨h1,h2,h3,h.1,h5,h.2.1,h.2.2⟩
def Hv.bt{f:Xl}{p:Str}(F:L2.UB K x x st f fd)(h:∀(kV doc pm:OM) (an:Qo Xl) (T9 ct:OM) (v:OM),bindArgs (PY x x (gJ st) (eQ st) (aY st) .none kV doc pm an T9 ct) ⟨[v],[]⟩=pure [(p,v)])(s:OJ)(v:OM):BindsTo s fd ⟨[v],[]⟩ [(p,v)]:=by obtain⟨oc,od,kV,doc,pm,an,T9,ct,W0,rfl,lk,UI⟩:=F.ex;exact .of_eq (h ..)
def Cy(sc:SV)(x:Str):Bool:=match sc.names.lookup x with
 |some .local=>Qt
 |some .cell=>Qt
 |_=>Qf
def fI{sc:SV}(h:Cy sc x=Qt):L2.Loc sc x:=by
 unfold Cy at h;unfold L2.Loc;cases e:sc.names.lookup x with
 |none=>rw[e]at h;cases h
 |some k=>rw[e]at h;cases k<;>first|exact .inl rfl|exact .inr rfl|cases h
end DL
namespace L2
open PySem.Spec
def Inv.zec{fp:Ql Xl}{a:Xl}{o:HO}(I:Inv X pins σ H s)(k:∀b u,b∉fp->s.heap.get? b=Qs u->h'.get? b=Qs u)(hf:∀b∈fp,gb X pins H b)(hp:s.heap.objs.size<=a)
  (new:U5 X.prog X.w (upd H a o) h' a o):Inv X pins σ (upd H a o) { s with heap:=h',toks:=t' }:=by
 have ha:H a=Qn:=I.TY.fresh hp;have sm:∀b u,H b=Qs u->upd H a o b=Qs u:=λb u e=>by rw[aS (λz=>by rw[z,ha]at e;cases e)];exact e
 have Zy:∀b u,H b=Qs u->b∉fp:=λb u e z=>by rw[(hf b z).1]at e;cases e
 refine I.step (g':=s.gens) (d':=s.drawn) (ch:=fp) (λb hb=>?_) (λb u _ _ hc e _=>k b u hc e) (λb u _ _ hc e _=>⟨u.slots,k b u hc e⟩) (λb u _ e n=>?_)
  (λb u hc e=>⟨u,k b u hc e⟩) (λb xs e=>sm b _ e) (λb q u e=>sm b _ e) (λb ps e=>sm b _ e) (λm hm=>?_) (λb u e=>?_) I.bare
 .obtain⟨f0,f1,f2,f3,f4,f5⟩:=hf b hb;exact⟨f3,f1,f4,f5⟩
 .rw[aS (Ph (OS (OT e) hp))];exact n
 .obtain⟨q,es,ep,ho,r⟩:=hm;exact⟨q,es,ep,k _ q (λz=>(hf _ z).2.1 rfl) ho,r⟩
 .by_cases z:b=a
  .subst z;rw[bB]at e;cases e;exact new
  .rw[aS z]at e;refine(I.TY b u e).XC (λc v hc q=>k c v ?_ q) (λc q=>sm c _ q) (λc xs q=>sm c _ q) λc o u q=>sm c _ q;rcases hc with w | w
   .rw[w];exact Zy b u e
   .exact Zy c _ w
def Inv.zed{fp:Ql Xl}(I:Inv X pins σ H s)(k:∀b u,b∉fp->s.heap.get? b=Qs u->h'.get? b=Qs u)(hf:∀b∈fp,gb X pins H b):Inv X pins σ H {s with heap:=h',toks:=t'}:=by
 have Zy:∀b u,H b=Qs u->b∉fp:=λb u e z=>by rw[(hf b z).1]at e;cases e
 refine I.step (g':=s.gens) (d':=s.drawn) (ch:=fp) (λb hb=>?_) (λb u _ _ hc e _=>k b u hc e) (λb u _ _ hc e _=>⟨u.slots,k b u hc e⟩) (λb u _ e n=>n) (λb u hc e=>⟨u,k b u hc e⟩) (λb xs e=>e) (λb q u e=>e) (λb ps e=>e) (λm hm=>?_) (λb u e=>?_) I.bare
 .obtain⟨f0,f1,f2,f3,f4,f5⟩:=hf b hb;exact⟨f3,f1,f4,f5⟩
 .obtain⟨q,es,ep,ho,r⟩:=hm;exact⟨q,es,ep,k _ q (λz=>(hf _ z).2.1 rfl) ho,r⟩
 .refine(I.TY b u e).XC (λc v hc q=>k c v ?_ q) (λc q=>q) (λc xs q=>q) λc o u q=>q;rcases hc with w|w
  .rw[w];exact Zy b u e
  .exact Zy c _ w
def qt(K:Ou)(a:Xl):It:=⟨λi H=>∃xs x,TZ K H a xs/\xs[i]?=Qs x,λi H x H'=>∃p v,H p=Qn/\x=.ref p/\H'=upd H p (.tup [.int i,v])/\∀xs,TZ K H a xs->xs[i]?=Qs v,λi H=>∃xs,TZ K H a xs/\xs.length<=i⟩
def Fl(e it a:Xl)(i:Nat)(h:Xm):Prop:=(∃old,IsEnum h e it (i:Int) old)/\h.IsListIter it a i/\e≠it
def FL{elts:Ql Xn}{k:Nat}(a e it:Xl):Turn P w K (.Tuple elts k pos) (qt K a) [e,it] e (Fl e it a) where
 mem:=by simp
 obj:=λi h st b hb=>by
  obtain⟨⟨old,h1⟩,h2,_⟩:=st;rcases(by simpa using hb:b=e\/b=it) with rfl | rfl
  .exact⟨_,h1,λv z=>by cases z⟩
  .obtain⟨o,e1,c,d⟩:=h2;exact⟨o,e1,λv z=>by rw[d]at z;cases z⟩
 keep:=λi h h' st kk=>by obtain⟨⟨old,h1⟩,h2,ne⟩:=st;exact⟨⟨old,kk e (by simp) _ h1⟩,h2.at λo q=>kk it (by simp) o q,ne⟩
 item:=by
  intro X hP hw hK hc i pins s σ H E I hf st hg;subst hP hw hK;obtain⟨xs,x,hq,hx⟩:=hg;obtain⟨TH,rv,p,hz⟩:=I.list hq;obtain⟨u,hu,ru⟩:=rv.get hx;obtain⟨⟨old,h1⟩,h2,ne⟩:=st;refine wpAny_pyNext_enum_item h1 h2 p.isList (x:=u) (by simpa using hu) ne λWj Yd zfZ ht1 hz1 hk1=>?_;refine⟨_,rfl,wpAny_letOwnedTupleGo_enum Yd λU9 he2 W6=>?_⟩;replace W6:Heap.SameBut e Wj U9:=W6;have es:e<s.heap.objs.size:=OT h1;have kp:∀b o,b∉[e,it]->s.heap.get? b=Qs o->U9.get? b=Qs o:=λb o nb q=>by have n1:b≠e:=λz=>nb (by simp[z]);have n2:b≠it:=λz=>nb (by simp[z]);exact(W6.2 b n1).trans (hk1 b o n1 n2 q)
  have ZI:U9.get? s.heap.objs.size=Qs { cls:=.type "tuple",data:=.seq #[.int i s.toks,u] }:=(W6.2 _ (QK es)).trans ht1;have I2:Inv X pins σ (upd H s.heap.objs.size (.tup [.int i,x])) { s with heap:=U9,toks:=s.toks+1 }:=I.zec (t':=s.toks+1) kp hf (OL _)
   ⟨by show 2<=O3;decide,[.int i s.toks,u],.cons ⟨_,rfl⟩ (.cons ru .nil),⟨_,ZI,rfl,_,rfl⟩⟩
  refine⟨.ref s.heap.objs.size,_,I2,rfl,⟨s.heap.objs.size,x,I.TY.fresh (OL _),rfl,rfl,λys hy=>by rw[I.za8 hy hq];exact hx⟩,⟨⟨u,?_⟩,?_,ne⟩,λb hb=>?_⟩
  .exact he2
  .exact zfZ.extBut W6.extBut (Ne.symm ne)
  .rw[aS (λz=>?_)]
   .exact(hf b hb).1
   .rcases(by simpa using hb:b=e\/b=it) with w' |w'
    .rw[<-z,w']at es;exact absurd es (Qg _)
    .obtain⟨o,e1,_⟩:=h2;have:=OT e1;rw[<-w',z]at this;exact absurd this (Qg _)
 done:=by intro X hP hw hK hc i pins s σ H E I hf st hg;subst hP hw hK;obtain⟨xs,hq,hx⟩:=hg;obtain⟨TH,rv,p,hz⟩:=I.list hq;obtain⟨⟨old,h1⟩,h2,ne⟩:=st;have hl:=rv.length;refine wpAny_pyNext_enum_end (I.ok.hd hc) h1 h2 p.isList (by simp;lia) λh' eb=>⟨rfl,I.zed (t':=s.toks) (λb o nb q=>eb b o (λz=>nb (by simp[z])) q) hf⟩
 self:=λ_ _ _ _ _ st h=>by obtain⟨⟨old,h1⟩,_,_⟩:=st;exact wpAny_pyIter_enum h1 h
def MC(K:Ou)(tl:TE):TI:=λσ H R=>tl σ H λx H1=>∃a,x=.ref a/\(∃xs,TZ K H1 a xs)/\R (qt K a) H1
def NS:bootBuiltins "enumerate"=Qs (.type "enumerate"):=by decide+kernel
def BA{l:Xn}{tl:TE}{elts:Ql Xn}{k:Nat}{tp p:Pos}(hg:Gl X "enumerate")(hm:X.mg "enumerate"=Qn)(hl:PE X l tl)(hs:OP [l] X.env=[(Qf,eval l X.env)]:=by rfl):PI X (.Tuple elts k tp) (.Call (.Name "enumerate" p) [l] [] pos) (MC X.K tl):=by
 intro pins s σ H R I h;refine Call_ (iR I hg hm NS (PyProof.Rows.callWith_type1 (aE ((gm hl gF hs) pos pins s σ H (λvs H1=>match vs with|[x]=>∃a,x=.ref a/\(∃xs,TZ X.K H1 a xs)/\R (qt X.K a) H1|_=>False) I h) λus s1 ⟨vs,H1,I1,r1,q1⟩=>?_) hs rfl));cases r1 with
 |nil=>exact q1.elim
 |@cons x u xr ur ru rr=>
  cases rr with
  |cons _ _=>exact q1.elim
  |nil=>
  obtain⟨a,rfl,⟨xs,hq⟩,q⟩:=q1;cases ru;obtain⟨TH,rv,p,hz⟩:=I1.list hq;refine call_enumerate_list p.isList λh' he hit hz' hk=>?_;have I2:Inv X pins σ H1 {s1 with heap:=h'}:=I1.kept (t':=s1.toks) hk;refine wpAny_pyIter_enum he ?_;refine⟨s1.heap.objs.size+1,[s1.heap.objs.size+1,s1.heap.objs.size],Fl (s1.heap.objs.size+1) s1.heap.objs.size a,qt X.K a,H1,rfl,I2,FL a _ _,⟨⟨_,he⟩,hit,Nat.succ_ne_self _⟩,λb hb=>?_,q⟩;rcases(by simpa using hb:b=s1.heap.objs.size+1\/b=s1.heap.objs.size) with rfl|rfl
  .exact I1.YF (S4 _) (I1.TY.fresh (S4 _))
  .exact I1.YF (OL _) (I1.TY.fresh (OL _))
end L2
namespace DL
open PySem.Spec L2
def cH(i:Nat):Ql D->Ql D
 |[]=>[]
 |d::ds=>.tup [.int i,d]::cH (i+1) ds
def lJ:∀(i:Nat) (ds:Ql D),(cH i ds).length=ds.length
 |_,[]=>rfl
 |i,d::ds=>by simp[cH,lJ (i+1) ds]
def yP:∀(i:Nat) (ds:Ql D) (j:Nat) (d:D),ds[j]?=Qs d->(cH i ds)[j]?=Qs (.tup [.int ((i+j:Nat):Int),d])
 |_,[],j,d,h=>by simp at h
 |i,e::ds,0,d,h=>by simp at h;subst h;simp[cH]
 |i,e::ds,j+1,d,h=>by have:=yP (i+1) ds j d (by simpa using h);simp only[cH,Qp,this];rw[show i+1+j=i+(j+1) by lia]
def m6(k:D->Th->Qo Th)(f:DE)(body:DS):DS:=λt=>(f t).bind λr=>match r.d with
 |.lst ds=>if r.ok then bj k body (cH 0 ds) t else Qn
 |_=>Qn
def Bl{elts:Ql Xn}{kk:Nat}{tp:Pos}(hp:PassesOwn (model X.prog X.w) X.A X.env X.xe)(hc:X.calm=Qt)(hge:Gl X "enumerate")(hm:X.mg "enumerate"=Qn)(hl:PE X a (dE X.K F fa))(hg:PG X (.Tuple elts kk tp) gt)(ht:cX X.K F gt kt)(hb:Uu X body (dS X.K F g)) (UT:OP [a] X.env=[(Qf,eval a X.env)]:=by rfl) (hs:∀x,foldedSetIterable (.Call (.Name "enumerate" p1) [a] [] p2) X.env x=pure x:=by intro _;rfl):PS X (.For (.Tuple elts kk tp) (.Call (.Name "enumerate" p1) [a] [] p2) body [] pos) (dS X.K F (m6 kt fa g)):=by
 refine PS.imp (kX hp hc (BA hge hm hl UT) hg hb hs) ?_;intro E σ H hh;obtain⟨A,t,o,R,e,h⟩:=kG hh;unfold m6 at e;refine aB e λr e1 e=>?_;refine⟨A,t,r,R,e1,λv H1 gs q=>?_⟩;have e:(match r.d with
  |.lst ds=>if r.ok then bj kt g (cH 0 ds) t else Qn
  |_=>Qn)=Qs o:=e
 split at e
 case h_2=>cases e
 rename_i ds z;refine bW e λok e=>?_;have cl:=q.clean R.mu gs ok;rw[z]at cl;cases cl with
 |@lst _ p vs h1 h2=>
  refine⟨p,rfl,⟨vs,TZ.mono (aZ _ _) h1⟩,?_⟩;refine yD (λA H=>TZ X.K (ah (A++F) H) p vs/\Ts X.K (ah (A++F) H) ds vs) ht (R.grow gs) e (h.back (Gr.of_same R.mu.left gs)) ⟨h1,h2⟩ (λA H A' H' q gr=>⟨TZ.mono gr.same q.1,Ts.mono gr.same q.2⟩) (λA H q=>⟨vs,TZ.mono (aZ _ _) q.1,by rw[h2.length,lJ];exact OL _⟩) (λA H i q hi=>?_) (λA H i x H' q mu y hi=>?_)
  .have XJ:i<vs.length:=by rw[h2.length];rw[lJ]at hi;exact hi
   exact⟨vs,vs[i],TZ.mono (aZ _ _) q.1,OE XJ⟩
  .obtain⟨l,v,Yx,rfl,rfl,hv⟩:=y;have zz:=hv vs (TZ.mono (aZ _ _) q.1);obtain⟨d,hd,rd⟩:=q.2.Xb zz;have sm:=dX (o:=HO.tup [.int i,v]) Yx;refine⟨sm,_,yP 0 ds i d hd,?_⟩;rw[QM];exact .tup (UA.of (bA bB (eM mu Yx))) (.cons (.int _) (.cons (Rep.mono (cY sm) rd) .nil))
end DL
namespace L2
open PySem.Spec
def d9(cells:Ql (Str×Xl)):Ql (Str×Qk)->Ql (Str×Xl)->Ql (Str×Xl)
 |[],acc=>acc
 |(n,k)::r,acc=>if k==.free then d9 cells r ((n,(cells.lookup n).getD 0)::acc) else d9 cells r acc
def zb{cells:Ql (Str×Xl)}:∀{names:Ql (Str×Qk)}{acc:Ql (Str×Xl)}{x:Str}{c:Xl},(∀y∈names,y.2=.free->∃c,cells.lookup y.1=Qs c)->(d9 cells names acc).lookup x=Qs c->acc.lookup x=Qs c\/cells.lookup x=Qs c
 |[],acc,x,c,_,h=>.inl h
 |(n,k)::r,acc,x,c,hy,h=>by
  unfold d9 at h;have hr:∀y∈r,y.2=.free->∃c,cells.lookup y.1=Qs c:=λy h1=>hy y (Ov _ h1);split at h
  .rename_i hk;rcases zb hr h with z|z
   .rw[Pg]at z;split at z
    .rename_i e;have e:x=n:=by simpa using e
     obtain⟨c',WR⟩:=hy (n,k) (Ox ..) (by simpa using hk);simp only[WR,Tv]at z;cases z;rw[e];exact .inr WR
    .exact .inl z
   .exact .inr z
  .exact zb hr h
def za{cells:Ql (Str×Xl)}:∀{names:Ql (Str×Qk)}{acc:Ql (Str×Xl)}{x:Str},(∃c,acc.lookup x=Qs c)->∃c,(d9 cells names acc).lookup x=Qs c
 |[],acc,x,h=>h
 |(n,k)::r,acc,x,h=>by
  unfold d9;split
  .refine za ?_;rw[Pg];split
   .exact⟨_,rfl⟩
   .exact h
  .exact za h
def ue{cells:Ql (Str×Xl)}:∀{names:Ql (Str×Qk)}{acc:Ql (Str×Xl)}{x:Str},(x,Pq)∈names->∃c,(d9 cells names acc).lookup x=Qs c
 |(n,k)::r,acc,x,h=>by
  unfold d9;rcases OC.mp h with z|z
  .cases z;rw[S9 (by rfl)];refine za ⟨(cells.lookup n).getD 0,?_⟩;simp[Pg]
  .split
   .exact ue z
   .exact ue z
def EB (h:∀y∈scope.names,y.2=.free->∃c,env.cells.lookup y.1=Qs c):closureFor scope env=pure (d9 env.cells scope.names []):=by
 unfold closureFor;have key:∀(names:Ql (Str×Qk)) (acc:Ql (Str×Xl)),(∀y∈names,y.2=.free->∃c,env.cells.lookup y.1=Qs c)-> (forIn names acc λ(x:Str×Qk) (cs:Ql (Str×Xl))=>(do
    if x.2==.free then
     let a<-cellOf env x.1
     pure (QT ((x.1,a)::cs))
    else pure (QT cs):Sem (ForInStep (Ql (Str×Xl)))))=pure (d9 env.cells names acc):=by
  intro names
  induction names with
  |nil=>intro acc _;rfl
  |cons y r ih=>
   intro acc hy;obtain⟨n,k⟩:=y;have hr:∀y∈r,y.2=.free->∃c,env.cells.lookup y.1=Qs c:=λy h1=>hy y (Ov _ h1);rw[List.forIn_cons];unfold d9;by_cases hk:(k==Pq)=Qt
   .obtain⟨c,hc⟩:=hy (n,k) (Ox ..) (by simpa using hk);have WR:cellOf env n=pure c:=by unfold cellOf;rw[hc]
    simp only[hk,if_true,WR];rw[<-ih _ hr];simp only[hc,Tv];rfl
   .have hk':(k==Pq)=Qf:=by simpa using hk
    simp only[hk',PJ,if_false];rw[<-ih _ hr];rfl
 have:=key scope.names [] h;simp only[bind_pure_comp]at this ⊢;rw[this];rfl
def oh{env:Env}:∀{names:Ql (Str×Qk)}{x:Str}{k':Qk},(names.map λ(n,k)=>if(k==Pq&&env.scope.kind==.function&&env.kindOf n==Qs .cell) then(n,Qj) else(n,k)).lookup x=Qs k'->∃k,(x,k)∈names/\(k'=k\/(k=.free/\k'=.cell))
 |[],x,k',h=>by simp at h
 |(n,k)::r,x,k',h=>by
  rw[OF]at h;by_cases hc:(k==Pq&&env.scope.kind==.function&&env.kindOf n==Qs .cell)=Qt
  .simp only[hc,if_true,Pg]at h;split at h
   .rename_i e;have e:x=n:=by simpa using e
    cases h;simp only[OH,beq_iff_eq]at hc;have hk:k=.free:=by simpa using hc.1.1
    exact⟨k,by rw[e];exact Ox ..,.inr ⟨hk,rfl⟩⟩
   .obtain⟨q,a,b⟩:=oh h;exact⟨q,Ov _ a,b⟩
  .have WR:(k==Pq&&env.scope.kind==.function&&env.kindOf n==Qs .cell)=Qf:=by simpa using hc
   simp only[WR,PJ,if_false,Pg]at h;split at h
   .rename_i e;have e:x=n:=by simpa using e
    cases h;exact⟨_,by rw[e];exact Ox ..,.inl rfl⟩
   .obtain⟨q,a,b⟩:=oh h;exact⟨q,Ov _ a,b⟩
def Nv{A:Qq}{R:Result->OJ->Prop}{target:Xn}{it acc:OM}(I:Nat->OJ->Prop) (turn:∀n s,I n s->wpAny (model prog w) A (pyNext it) (λr s₁=>match r with
   |none=>R (.ok .next) s₁
   |some v=>wpAny (model prog w) A (letOwnedTupleGo target it v) (λ_ s₁'=>wpAny (model prog w) A (assign target env v) (λ_ s₂=>
     wpAny (model prog w) A (forIn ifs Qt λc r=>if r=Qt then do let ok<-isTrue c env (eval c env);pure (QT ok) else pure (QT r)) (λok s₃=>
      if ok=Qt then wpAny (model prog w) A (eval elt env) (λx s₄=>
       wpAny (model prog w) A (call (.builtin "list.append") [acc,x]) (λ_ s₅=>∃m,m<n/\I m s₅) (λ_ _=>False) s₄) (λ_ _=>False) s₃
      else ∃m,m<n/\I m s₃) (λ_ _=>False) s₂) (λ_ _=>False) s₁') (λ_ _=>False) s₁) (λ_ _=>False) s) (n:Nat) (h:I n s):codeAny (model prog w) A (.compLoop (.ListComp elt [⟨target,iter,ifs,0⟩] scope pos) 0 it acc env) R s:=by
 refine codeAny_loop rfl I (λn s hI=>?_) n h;show wpAny _ A ((compTurn (.ListComp elt [⟨target,iter,ifs,0⟩] scope pos) 0 it acc env).onRaise (λx=>do noteFrame x env;theTreesLotGoes x)) _ _ s;refine wpAny_noted ?_;rw[compTurn_list];refine OB (wpAny_standAt (OB (wpAny_mono (turn n s hI) (λr s₁ h₁=>?_) λ_ _ h'=>h'.elim)));cases r with
 |none=>exact OQ h₁
 |some v=>
  refine OB (wpAny_mono h₁ (λ_ s₁' h₁'=>?_) λ_ _ h'=>h'.elim);refine OB (wpAny_mono h₁' (λ_ s₂ h₂=>OB (wpAny_mono h₂ (λok s₃ h₃=>?_) λ_ _ h'=>h'.elim)) λ_ _ h'=>h'.elim);cases ok with
  |false=>exact OQ ⟨rfl,h₃⟩
  |true=>exact OB (OB (wpAny_mono h₃ (λx s₄ h₄=>OB (wpAny_mono h₄ (λ_ s₅ h₅=>OQ (OQ ⟨rfl,h₅⟩)) λ_ _ h'=>h'.elim)) λ_ _ h'=>h'.elim))
def zo{x:Str}{c:Xl}:∀{names:Ql (Str×Qk)}{n:Nat}{acc:Ql (Str×Xl)},(cellsFrom n names acc).lookup x=Qs c->acc.lookup x=Qs c\/n<=c
 |[],n,acc,h=>.inl h
 |(y,k)::r,n,acc,h=>by
  unfold cellsFrom at h;split at h
  .rcases zo h with z|z
   .rw[Pg]at z;split at z
    .cases z;exact .inr (OL _)
    .exact .inl z
   .exact .inr (by lia)
  .exact zo h
def uf{x:Str}:∀{names:Ql (Str×Qk)}{n:Nat}{acc:Ql (Str×Xl)},(∃c,acc.lookup x=Qs c)->∃c,(cellsFrom n names acc).lookup x=Qs c
 |[],n,acc,h=>h
 |(y,k)::r,n,acc,h=>by
  unfold cellsFrom;split
  .refine uf ?_;rw[Pg];split
   .exact⟨_,rfl⟩
   .exact h
  .exact uf h
def zd{x:Str}:∀{names:Ql (Str×Qk)}{n:Nat}{acc:Ql (Str×Xl)},(x,Qj)∈names->∃c,(cellsFrom n names acc).lookup x=Qs c
 |(y,k)::r,n,acc,h=>by
  unfold cellsFrom;rcases OC.mp h with z|z
  .cases z;rw[S9 (by rfl)];exact uf ⟨n,by simp[Pg]⟩
  .split
   .exact zd z
   .exact zd z
def zl{x:Str}{c:Xl}{lo:Nat}:∀{names:Ql (Str×Qk)}{n:Nat}{acc:Ql (Str×Xl)},lo<=n->(∀c,acc.lookup x=Qs c->lo<=c)->(cellsFrom n names acc).lookup x=Qs c->lo<=c
 |[],n,acc,_,ha,h=>ha c h
 |(y,k)::r,n,acc,hn,ha,h=>by
  unfold cellsFrom at h;split at h
  .refine zl (n:=n+1) (by lia) (λc' h'=>?_) h;rw[Pg]at h';split at h'
   .cases h';exact hn
   .exact ha c' h'
  .exact zl hn ha h
def zg{x:Str}{c:Xl}:∀{names:Ql (Str×Qk)}{n:Nat}{acc:Ql (Str×Xl)},(x,Qj)∈names->(cellsFrom n names acc).lookup x=Qs c->n<=c
 |(y,k)::r,n,acc,hm,h=>by
  unfold cellsFrom at h;rcases OC.mp hm with z|z
  .cases z;rw[S9 (by rfl)]at h;refine zl (lo:=n) (n:=n+1) (by lia) (λc' h'=>?_) h;rw[Pg,beq_self_eq_true]at h';cases h';exact OL _
  .split at h
   .have:=zg z h;lia
   .exact zg z h
def ze{x:Str}:∀{names:Ql (Str×Qk)}{n:Nat}{acc:Ql (Str×Xl)},(x,Qj)∉names->(cellsFrom n names acc).lookup x=acc.lookup x
 |[],n,acc,_=>rfl
 |(y,k)::r,n,acc,h=>by
  have hr:(x,Qj)∉r:=λz=>h (Ov _ z);unfold cellsFrom;split
  .rename_i hk;rw[ze hr,Pg];split
   .rename_i e;exact absurd (OC.mpr (.inl (by rw[show x=y by simpa using e,show k=Qj by simpa using hk]))) h
   .rfl
  .exact ze hr
def zh:∀{names:Ql (Str×Qk)}{n:Nat}{acc:Ql (Str×Xl)},(∀x c,acc.lookup x=Qs c->c<n)->(∀x y c,acc.lookup x=Qs c->acc.lookup y=Qs c->x=y)->∀x y c,(cellsFrom n names acc).lookup x=Qs c->(cellsFrom n names acc).lookup y=Qs c->x=y
 |[],n,acc,_,hi=>hi
 |(z,k)::r,n,acc,hb,hi=>by
  unfold cellsFrom;split
  .refine zh (n:=n+1) (λx c h=>?_) (λx y c h1 h2=>?_)
   .rw[Pg]at h;split at h
    .cases h;exact PB _
    .exact RY (hb x c h)
   .rw[Pg]at h1 h2;split at h1
    .rename_i e1;cases h1;split at h2
     .rename_i e2;rw[show x=z by simpa using e1,show y=z by simpa using e2]
     .exact absurd (hb y _ h2) (Qg _)
    .split at h2
     .cases h2;exact absurd (hb x _ h1) (Qg _)
     .exact hi x y c h1 h2
  .exact zh hb hi
def zm{x:Str}{c:Xl}:∀{names:Ql (Str×Qk)}{h:Xm}{acc:Ql (Str×Xl)},(∀c,acc.lookup x=Qs c->∃v,h.IsCell c v)->(cellsFrom h.objs.size names acc).lookup x=Qs c->∃v,(pushCells h names).IsCell c v
 |[],h,acc,ha,e=>ha c e
 |(y,k)::r,h,acc,ha,e=>by
  unfold cellsFrom at e;unfold pushCells;split at e
  .rename_i hk;rw[S9 hk];rw[show h.objs.size+1=(h.push {cls:=.type "cell",data:=.cell Qn}).objs.size from(Rm ..).symm]at e;refine zm (λc' e'=>?_) e;rw[Pg]at e';split at e'
   .cases e';exact⟨Qn,_,OU _ rfl,rfl⟩
   .obtain⟨v,z⟩:=ha c' e';exact⟨v,z.keeps λb o q=>OA _ q⟩
  .rename_i hk;rw[Tr hk];exact zm ha e
def Fv{A:Qq}{globals:Xl}{cl:Ql (Str×Xl)}{func:Qo Xl}{code:OM}{builtins:Xl}{Q:Env->OJ->Prop}
  (hQ:∀h',h'.Ns s.heap.objs.size (λ_=>Qn)->(∀b o,s.heap.get? b=Qs o->h'.get? b=Qs o)->(∀x c,(∀c,cl.lookup x=Qs c->∃v,s.heap.IsCell c v)->(cellsFrom (s.heap.objs.size+1) scope.names cl).lookup x=Qs c->∃v,h'.IsCell c v) ->Q (newEnv scope s.heap.objs.size globals (cellsFrom (s.heap.objs.size+1) scope.names cl) qual func code (Qs env) builtins) { s with heap:=h',toks:=s.toks }) :wpAny M A (newFunctionEnv scope globals cl [] qual func code (Qs env) builtins) Q E s:=by simp only[newFunctionEnv,S5,if_true];refine OB (wpAny_alloc ?_);refine OB (wpAny_layCells _ (λname kind cells=>by cases hkc:kind == Qj<;>simp[hkc]) _ _ _ _ ?_);have sz:(s.heap.push { cls:=.type "dict",data:=.dict #[] }).objs.size=s.heap.objs.size+1:=Rm ..;rw[show({ s with heap:=s.heap.push { cls:=.type "dict",data:=.dict #[] } }:OJ).heap.objs.size=s.heap.objs.size+1 from sz];rw[List.forIn_nil];refine OB (OQ (OQ ?_));refine hQ _ ((Heap.Ns.new s.heap (.type "dict")).keeps (pushCells_keeps _ _)) (λb o e=>pushCells_keeps _ _ b o (OA _ e)) λx c ha e=>?_;rw[<-sz]at e;exact zm (λc' e'=>let ⟨v,z⟩:=ha c' e';⟨v,z.keeps λb o q=>OA _ q⟩) e
abbrev bC(X:Cx)(N':Ql Str)(scope:SV)(C:Xl)(s₃:OJ)(H₃:Hp)(fp:Ql Xl)(pins:Ql (Xl×Obj)):Cx:={X with N:=N',s₀:=s₃,H₀:=H₃,env:=compEnvC scope (cellsFrom (C+1) scope.names (d9 X.env.cells scope.names [])) C X.env,outer:=X.stack,stack:=X.stack,ex:=fp,fn:=λx=>scope.names.lookup x==Qs .cell,calm:=Qt,pn:=X.pn++pins,xe:=λ_ _=>False}
structure VS(X:Cx)(scope:SV):Prop where
 kind:scope.kind=.function
 free:∀y∈scope.names,y.2=.free->X.env.kindOf y.1=Qs .cell\/X.env.kindOf y.1=Qs .free
 names:∀y∈scope.names,scope.names.lookup y.1=Qs y.2
section
variable {fp:Ql Xl}
def VS.frees(S:VS X scope)(ok:X.Ok):∀y∈scope.names,y.2=.free->∃c,X.env.cells.lookup y.1=Qs c:=λy hy hf=>ok.has y.1 (S.free y hy hf)
def VS.cells(S:VS X scope)(ok:X.Ok){x:Str}{c:Xl}(h:(d9 X.env.cells scope.names []).lookup x=Qs c):X.env.cells.lookup x=Qs c:=by
 rcases zb (S.frees ok) h with z|z
 .simp at z
 .exact z
def VS.nc(S:VS X scope) (h:(x,Pq)∈scope.names):(x,Qj)∉scope.names:=λz=>by have w1:=S.names _ h;have w2:=S.names _ z;rw[show(x,Qj).1=(x,Pq).1 from rfl,w1]at w2;cases w2
def VS.cls(S:VS X scope)(I:Inv X pins σ H s){c:Xl}(h:(d9 X.env.cells scope.names []).lookup x=Qs c):c<s.heap.objs.size:=by obtain⟨v,o,ho,_⟩:=I.cell x c (S.cells I.ok h);exact OT ho
def VS.old(S:VS X scope)(I:Inv X pins σ H s){c:Xl}(h:(cellsFrom (s.heap.objs.size+1) scope.names (d9 X.env.cells scope.names [])).lookup x=Qs c):X.env.cells.lookup x=Qs c\/s.heap.objs.size<c:=by
 rcases zo h with z|z
 .exact .inl (S.cells I.ok z)
 .exact .inr z
def NZ(I:Inv X pins σ H s)(S:VS X scope)(hc:X.calm=Qt)(hf:∀b∈fp,gb X pins H b)(XI:∀b∈fp,b<s.heap.objs.size):(bC X N' scope s.heap.objs.size s H fp pins).Ok where
 mod:=I.ok.mod
 kind:=S.kind
 glob:=I.ok.glob
 blt:=I.ok.blt
 above:=OL _
 inj:=zh (λx c h=>RY (S.cls I h)) λx y c h1 h2=>I.ok.inj x y c (S.cells I.ok h1) (S.cells I.ok h2)
 has:=λx hx=>by
  have hx:(relabel scope X.env).names.lookup x=Qs .cell\/(relabel scope X.env).names.lookup x=Qs .free:=hx;have:(x,Pq)∈scope.names\/(x,Qj)∈scope.names:=by
   rcases hx with hx|hx
   .obtain⟨k,a,b⟩:=oh hx;rcases b with b|b
    .rw[<-b]at a;exact .inr a
    .rw[b.1]at a;exact .inl a
   .obtain⟨k,a,b⟩:=oh hx;rcases b with b|b
    .rw[<-b]at a;exact .inl a
    .cases b.2
  rcases this with z|z
  .exact uf (ue z)
  .exact zd z
 Zi:=λx c h e=>by
  have h:(scope.names.lookup x==Qs Qj)=Qt:=h;have h:scope.names.lookup x=Qs .cell:=by simpa using h
  exact Nat.le_of_succ_le (zg (PySem.mem_of_lookup h) e)
 hd:=λ_=>I.ok.hd hc
 frames:=I.ok.frames
 Zr:=.inl rfl
 exf:=λb hb=>⟨Ph (XI b hb),λx c h=>by
  rcases S.old I h with z|z
  .exact(hf b hb).2.2.2.2.1 x c z
  .exact QK (SH (XI b hb) z)⟩
 bs:=λb o e=>I.bs b o e
 Xw:=Pr I.ok.Xw I.sz
 Y3:=λb o e hb=>by
  rcases(hf b hb).2.2.2.1 with z|z
  .exact I.ok.Y3 b o e z
  .exact absurd (OS (OT e) (Pr I.ok.Xw z)) (Qg _)
 ZW:=λb hb z=>(OC.mp (I.Zq b z)).elim (hf b hb).2.1 (hf b hb).2.2.1
 WB:=I.stack
 Yh:=I.zch
 tabs:=λp hp=>I.base.Wv _ _ (I.ok.tabs p hp)
def N0(I:Inv X pins σ H s)(S:VS X scope)(hc:X.calm=Qt)(hf:∀b∈fp,gb X pins H b)(XI:∀b∈fp,b<s.heap.objs.size){h1:Xm}{t1:Nat}{m:Str->Qo OM} (X9:h1.Ns s.heap.objs.size m) (hk:∀b o,s.heap.get? b=Qs o->h1.get? b=Qs o) (hcl:∀x c,(∀c,(d9 X.env.cells scope.names []).lookup x=Qs c->∃v,s.heap.IsCell c v)->(cellsFrom (s.heap.objs.size+1) scope.names (d9 X.env.cells scope.names [])).lookup x=Qs c->∃v,h1.IsCell c v) (hl:σ'.length=N'.length) (cap:∀(i:Nat) (x:Str) (v:V),N'[i]?=Qs x->σ'[i]?=Qs (Qs v)->(x,Pq)∈scope.names/\∃j:Nat,X.N[j]?=Qs x/\σ[j]?=Qs (Qs v)):Inv (bC X N' scope s.heap.objs.size s H fp pins) [] σ' H {s with heap:=h1,toks:=t1} where
 ok:=NZ I S hc hf XI
 os:=rfl
 bare:=I.bare
 base:=Un.kept hk
 loc:=⟨m,X9,λi x v e1 e2 vs=>by
  obtain⟨Yc,j,j1,j2⟩:=cap i x v e1 e2;obtain⟨m0,hn0,Yx⟩:=I.loc;have vis:dt X.env.scope x:=by
   rcases S.free _ Yc rfl with z|z
   .exact .inr (.inl z)
   .exact .inr (.inr z)
  obtain⟨u,r,l⟩:=Yx j x v j1 j2 vis;refine⟨u,r,?_⟩;rcases l with⟨k,_⟩|⟨k,c,e,z⟩
  .exfalso;rcases S.free _ Yc rfl with q|q
   .rw[k]at q;cases q
   .rw[k]at q;cases q
  .obtain⟨c',WR⟩:=ue (cells:=X.env.cells) (acc:=[]) Yc;have e':=S.cells I.ok WR;rw[e]at e';cases e';refine .inr ⟨?_,c,by rw[show(bC X N' scope s.heap.objs.size s H fp pins).env.cells.lookup x=_ from ze (S.nc Yc)];exact WR,?_⟩
   .have vs:(relabel scope X.env).names.lookup x=Qs .local\/(relabel scope X.env).names.lookup x=Qs .cell\/(relabel scope X.env).names.lookup x=Qs .free:=vs;rcases vs with q|q
    .obtain⟨k2,a,b⟩:=oh q;rcases b with b|b
     .rw[<-b]at a;have w1:=S.names _ a;have w2:=S.names _ Yc;rw[show(x,NameKind.local).1=(x,Pq).1 from rfl,w2]at w1;cases w1
     .cases b.2
    .exact q
   .obtain⟨o,ho,hd⟩:=z;exact⟨o,hk _ _ ho,hd⟩⟩
 cell:=λx c h=>hcl x c (λc' h'=>I.cell x c' (S.cells I.ok h')) h
 free:=I.TY.fresh (OL _)
 Xc:=λx c h=>by
  rcases S.old I h with z|z
  .exact I.Xc x c z
  .exact I.TY.fresh (Q7 z)
 pin:=λp hp=>by have hp:p∈(X.pn++pins)++[]:=hp;rw[Po]at hp;obtain⟨a,b,c,d,e⟩:=I.pin p hp;exact⟨hk _ _ a,b,Ph (OT a),λz=>(OC.mp (I.Zq _ z)).elim c d,e⟩
 TY:=I.TY.kept hk
 len:=hl
def EK{H3:Hp}{s':OJ}{Zb:Xm}{VL:Ql (Xl×Obj)}(I:Inv X pins σ H3 s)(hf:∀b∈fp,gb X pins H3 b)(hC:C=s.heap.objs.size)(I':Inv (bC X N' scope C s H3 fp pins) VL σ' H' s')(hb:Heap.SameBut C s'.heap Zb):Inv X pins σ H' {s' with heap:=Zb}:=by
 subst hC;have bs:Un (gW X.stack) fp H3 H' s.heap s'.heap:=I'.base;have nC:∀b o,s.heap.get? b=Qs o->b≠s.heap.objs.size:=λb o e=>Ph (OT e);have tr:∀b,b≠s.heap.objs.size->Zb.get? b=s'.heap.get? b:=λb n=>hb.2 b n;have u:Un (gW X.stack) fp H3 H' s.heap Zb:=⟨λb o e n h1 h2=>(tr b (nC b o e)).trans (bs.keep b o e n h1 h2),λb o e n h1 h2=>by obtain⟨sl,q⟩:=bs.slot b o e n h1 h2;exact⟨sl,(tr b (nC b o e)).trans q⟩,bs.free,λb o e h1=>by obtain⟨o',q⟩:=bs.there b o e h1;exact⟨o',(tr b (nC b o e)).trans q⟩,bs.Xx,bs.Xs,bs.Wv⟩
 have cf:H' s.heap.objs.size=Qn:=I'.free;have TY:U7 X.prog X.w H' Zb:=λb o e=>by
  have nb:b≠s.heap.objs.size:=λz=>by rw[z,cf]at e;cases e
  refine(I'.TY b o e).XC (λc v hc q=>(tr c ?_).trans q) (λ_ q=>q) (λ_ _ q=>q) λ_ _ _ q=>q;rcases hc with w|w
  .rw[w];exact nb
  .exact λz=>by rw[z,cf]at w;cases w
 obtain⟨h0,g0,d0,t0,o0⟩:=s';have e:o0=s.os:=I'.os;subst e;exact I.call (g':=g0) (t':=t0) (d':=d0) u TY I'.bare λb XN=>by obtain⟨f0,f1,f2,f3,f4,f5⟩:=hf b XN;exact⟨f3,f1,f4,f5⟩
end
def Vy(Y:Cx)(ifs:Ql Xn)(t:TT):Prop:=∀(pins:Ql (Xl×Obj)) (s:OJ) (σ:L2.St) (H:Hp) (Q:Bool->Hp->Prop),Inv Y pins σ H s->t σ H Q->wpAny (model Y.prog Y.w) Y.A (forIn ifs Qt λc r=>if r=Qt then do let ok<-isTrue c Y.env (eval c Y.env);pure (QT ok) else pure (QT r)) (TP Y pins σ Q) Y.xe s
def Bf:Vy Y [] (λ_ H Q=>Q Qt H):=λpins s σ H Q I h=>wpAny_tests_nil ⟨H,I,h⟩
def Iu{t:TT}(h:PT Y c t):Vy Y [c] t:=λpins s σ H Q I q=>wpAny_tests_one (h pins s σ H Q I q)
def kJ(n:Nat)(cap:Ql Nat)(σ:L2.St):L2.St:=OR n Qn++cap.map λj=>(σ[j]?).getD Qn
noncomputable def mi(n:Nat)(cap:Ql Nat)(wi:TI)(g:TG)(tt:TT)(te:TE):TE:=λσ H Q=>wi σ H λJ H1=>∀D,H1 D=Qn->∃W:Nat->Nat->L2.St->Hp->Prop,(∃m,W 0 m (kJ n cap σ) (upd H1 D (.lst [])))/\∀i m σ' H',W i m σ' H'->(J.stop i H'/\Q (.ref D) H')\/(J.go i H'/\∃N:L2.St->Hp->Prop,(∀YT Xg,N YT Xg->∃m',m'<m/\W (i+1) m' YT Xg)/\∀x H2,J.Vw i H' x H2->g x σ' H2 λσ2 H3=>tt σ2 H3 λb H4=>
  if b=Qt then te σ2 H4 λv H5=>∃vs,H5 D=Qs (.lst vs)/\vs.length<O3/\N σ2 (upd H5 D (.lst (vs++[v]))) else N σ2 H4)
def Ey{s2:OJ}{Yt:OM}{use:Qo (OM->Sem Unit)}{PQ:OM->OJ->Prop}{g:TG}{tt:TT}(S:VS X scope)(hc:X.calm=Qt)
  (hN:N'.length=n+cap.length) (Vo:∀(k:Nat) (j:Nat),cap[k]?=Qs j->∃x,N'[n+k]?=Qs x/\X.N[j]?=Qs x/\(x,Pq)∈scope.names)
  (hg:∀C s₃ H₃ fp pins,PG (bC X N' scope C s₃ H₃ fp pins) tg g) (ht:∀C s₃ H₃ fp pins,Vy (bC X N' scope C s₃ H₃ fp pins) ifs tt) (he:∀C s₃ H₃ fp pins,PE (bC X N' scope C s₃ H₃ fp pins) elt te)
  (fin:∀(C:Xl) (s3:OJ) (H3:Hp) (fp:Ql Xl) (D:Xl) (σ4:L2.St) (H4:Hp) (s4:OJ) (f:Flow),Inv X pins σ H3 s3->(∀b∈fp,gb X pins H3 b)->C=s3.heap.objs.size->Inv (bC X N' scope C s3 H3 fp pins) [] σ4 H4 s4->Q (.ref D) H4->compPost (model X.prog X.w) X.A X.xe use PQ (.ref D) C (.ok f) s4)
  (h2:zK X pins σ tg (λJ H1 => ∀D,H1 D=Qn->∃W:Nat->Nat->L2.St->Hp->Prop,(∃m,W 0 m (kJ n cap σ) (upd H1 D (.lst [])))/\∀i m σ' H',W i m σ' H' ->(J.stop i H'/\Q (.ref D) H')\/(J.go i H'/\∃N:L2.St->Hp->Prop,(∀YT Xg,N YT Xg->∃m',m' < m/\W (i+1) m' YT Xg)/\∀x H2,J.Vw i H' x H2->g x σ' H2 λσ2 H3=>tt σ2 H3 λb H4 =>
  if b=Qt then te σ2 H4 λv H5 => ∃vs,H5 D=Qs (.lst vs)/\vs.length<O3/\N σ2 (upd H5 D (.lst (vs++[v]))) else N σ2 H4)) Yt s2) :wpAny (model X.prog X.w) X.A (newList []) (λacc s₃=>wpAny (model X.prog X.w) X.A (newFunctionEnv scope X.env.globals (d9 X.env.cells scope.names []) [] X.env.qual Qn .none (Qs X.env)) (λzdE s₄ =>
   codeAny (model X.prog X.w) X.A (.compStart (.ListComp elt [⟨tg,iter,ifs,0⟩] scope pos) 0 Yt acc { zdE with scope:=relabel scope X.env }) (compPost (model X.prog X.w) X.A X.xe use PQ acc zdE.locals) s₄) X.xe s₃) X.xe s2:=by
 obtain⟨it,fp,tn,J,H2,e,I2,T,Yn,f2,R⟩:=h2;subst e;have lt2:∀b∈fp,b<s2.heap.objs.size:=λb hb=>by obtain⟨o,e,_⟩:=T.obj _ _ Yn b hb;exact OT e
 have hD:H2 s2.heap.objs.size=Qn:=I2.fresh;obtain⟨W,⟨m0,w0⟩,turn⟩:=R s2.heap.objs.size hD;have I3:Inv X pins σ (upd H2 s2.heap.objs.size (.lst [])) { s2 with heap:=s2.heap.push { cls:=.type "list",data:=.seq ([]:Ql OM).toArray },toks:=s2.toks }:=I2.za7 (t':=s2.toks) .nil (by simp);have f3:∀b∈fp,gb X pins (upd H2 s2.heap.objs.size (.lst [])) b:=λb hb=>⟨by rw[aS (Ph (lt2 b hb))];exact(f2 b hb).1,(f2 b hb).2⟩;refine wpAny_newObj_type (Fv λh₁ zfF hk zgc=>?_);have lt3:∀b∈fp,b<(s2.heap.push { cls:=.type "list",data:=.seq ([]:Ql OM).toArray }).objs.size:=λb hb=>by rw[Rm];exact RY (lt2 b hb)
 have I4:Inv (bC X N' scope (s2.heap.push { cls:=.type "list",data:=.seq ([]:Ql OM).toArray }).objs.size { s2 with heap:=s2.heap.push { cls:=.type "list",data:=.seq ([]:Ql OM).toArray },toks:=s2.toks } (upd H2 s2.heap.objs.size (.lst [])) fp pins) [] (kJ n cap σ) (upd H2 s2.heap.objs.size (.lst [])) { s2 with heap:=h₁,toks:=s2.toks } :=N0 I3 S hc f3 lt3 (t1:=s2.toks) zfF hk zgc (by simp[kJ,hN]) (λi x v e1 e2=>by
   unfold kJ at e2;by_cases hi:i<n
   .rw[Qx (by simpa using hi),R6]at e2;split at e2<;>cases e2
   .rw[RE (by simpa using hi),Sr,O1]at e2;rcases ej:cap[i - n]? with _|j
    .rw[ej]at e2;cases e2
    rw[ej]at e2;obtain⟨x',a1,a2,a3⟩:=Vo (i - n) j ej;have:n+(i - n)=i:=by lia
    rw[this,e1]at a1;cases a1;refine⟨a3,j,a2,?_⟩;have e2:(σ[j]?).getD Qn=Qs v:=by simpa using e2
    cases q:σ[j]? with
    |none=>rw[q]at e2;cases e2
    |some z=>rw[q]at e2;have:z=Qs v:=e2;rw[this])
 have loop:codeAny (model X.prog X.w) X.A (.compLoop (.ListComp elt [⟨tg,iter,ifs,0⟩] scope pos) 0 (.ref it) (.ref s2.heap.objs.size) (compEnvC scope (cellsFrom ((s2.heap.push { cls:=.type "list",data:=.seq ([]:Ql OM).toArray }).objs.size+1) scope.names (d9 X.env.cells scope.names [])) (s2.heap.push { cls:=.type "list",data:=.seq ([]:Ql OM).toArray }).objs.size X.env))
   (compPost (model X.prog X.w) X.A X.xe use PQ (.ref s2.heap.objs.size) (s2.heap.push { cls:=.type "list",data:=.seq ([]:Ql OM).toArray }).objs.size) { s2 with heap:=h₁,toks:=s2.toks }:=by
  generalize hY:(bC X N' scope (s2.heap.push { cls:=.type "list",data:=.seq ([]:Ql OM).toArray }).objs.size { s2 with heap:=s2.heap.push { cls:=.type "list",data:=.seq ([]:Ql OM).toArray },toks:=s2.toks } (upd H2 s2.heap.objs.size (.lst [])) fp pins)=Y at I4;have st4:tn 0 h₁:=T.keep _ _ _ Yn λb hb o e=>hk b o (OA _ e);have Yl:∀{H':Hp},(∀b∈fp,H' b=Qn)->∀b∈fp,gb Y [] H' b:=λhn b hb=>by
   subst hY;obtain⟨f0,f1,f2',f3',f4,f5⟩:=f3 b hb;exact⟨hn b hb,Ph (lt3 b hb),λz=>(OC.mp (I3.Zq b z)).elim f1 f2',.inl hb,λx c e=>(by
    rcases S.old I3 e with z | z
    .exact f4 x c z
    .exact QK (SH (lt3 b hb) z)),λp hp=>f5 p (by simpa using hp)⟩
  have hgY:PG Y tg g:=hY ▸ hg _ _ _ _ _;have htY:Vy Y ifs tt:=hY ▸ ht _ _ _ _ _;have heY:PE Y elt te:=hY ▸ he _ _ _ _ _;have yp:Y.prog=X.prog:=by subst hY;rfl
  have yw:Y.w=X.w:=by subst hY;rfl
  have yK:Y.K=X.K:=by subst hY;rfl
  have yA:Y.A=X.A:=by subst hY;rfl
  have yc:Y.calm=Qt:=by subst hY;rfl
  have yx:Y.xe=λ_ _=>False:=by subst hY;rfl
  have ye:Y.env=compEnvC scope (cellsFrom ((s2.heap.push { cls:=.type "list",data:=.seq ([]:Ql OM).toArray }).objs.size+1) scope.names (d9 X.env.cells scope.names [])) (s2.heap.push { cls:=.type "list",data:=.seq ([]:Ql OM).toArray }).objs.size X.env:=by subst hY;rfl
  rw[<-ye];refine Nv (λn s' => ∃i σ' H',Inv Y [] σ' H' s'/\tn i s'.heap/\(∀b∈fp,H' b=Qn)/\W i n σ' H') ?_ m0 ⟨0,_,_,I4,st4,λb hb=>(f3 b hb).1,w0⟩;rintro n s3 ⟨i,σ3,H3,I5,Zs,ZV,w3⟩;rcases turn i n σ3 H3 w3 with⟨stop,qn⟩ | ⟨go,N,hNN,step⟩
  .have d:=T.done Y yp yw yK yc i [] s3 σ3 H3 (λ_ _=>False) I5 (Yl ZV) Zs stop;rw[yA]at d;refine aE d λr s4 ⟨hr,I6⟩=>?_;subst hr;subst hY;exact fin _ _ _ _ _ _ _ _ _ I3 f3 rfl I6 qn
  .have d:=T.item Y yp yw yK yc i [] s3 σ3 H3 (λ_ _=>False) I5 (Yl ZV) Zs go;rw[yA]at d;refine aE d λr s4 ⟨u,hr,h4⟩=>?_;subst hr;refine aE h4 λ_ s5 ⟨x,H5,I6,r5,y5,Ym,fr5⟩=>?_;have I6':=I6.pinned (Yl fr5) (T.obj _ _ Ym);have a:=hgY _ s5 σ3 H5 x u _ I6' r5 (step x H5 y5);rw[yp,yw,yA,yx]at a;refine aE a λ_ s6 ⟨σ6,H6,I7,q6⟩=>?_;have b:=htY _ s6 σ6 H6 _ I7 q6;rw[yp,yw,yA,yx]at b;refine aE b λok s7 ⟨H7,I8,q7⟩=>?_;have again:∀{s9:OJ}{H9:Hp},Inv Y ([]++mB fp s5.heap) σ6 H9 s9->N σ6 H9->∃m,m<n/\∃i σ' H',Inv Y [] σ' H' s9/\tn i s9.heap/\(∀b∈fp,H' b=Qn)/\W i m σ' H':=λ{s9 H9} I9 n9=>by obtain⟨m',hm,w9⟩:=hNN σ6 H9 n9;refine⟨m',hm,i+1,σ6,H9,I9.zaa,T.keep _ _ _ Ym λb hb o e=>(I9.pin (b,o) (Oq _ (Oq _ (sS hb e)))).1,λb hb=>?_,w9⟩;obtain⟨o,e,d⟩:=T.obj _ _ Ym b hb;exact(I9.pin (b,o) (Oq _ (Oq _ (sS hb e)))).2.1
   cases ok with
   |false=>exact oW (again I8 (by simpa using q7))
   |true =>rw[S9 rfl]at q7;refine oV ?_;have c:=heY _ s7 σ6 H7 _ I8 q7;rw[yp,yw,yA,yx]at c;refine aE c λz s8 ⟨vz,H8,I9,r9,vs,hv,hl,n9⟩=>?_;have ap:=sQ (X:=Y) ([]++mB fp s5.heap) s8 σ6 H8 (.ref s2.heap.objs.size) [vz] (.ref s2.heap.objs.size) [z] (λ_ H9=>N σ6 H9) I9 rfl (.cons r9 .nil) ⟨_,vs,vz,rfl,rfl,hv,hl,n9⟩;rw[yp,yw,yA,yx]at ap;exact aE ap λ_ s9 ⟨_,H9,I10,_,n10⟩=>again I10 n10
 exact codeAny_compStart_list loop (T.self _ 0 _ _ _ (T.keep _ _ _ Yn λb hb o e=>hk b o (OA _ e)) loop)
def wJ{wi:TI}{g:TG}{tt:TT}(S:VS X scope)(hc:X.calm=Qt)(hi:PI X tg iter wi) (hN:N'.length=n+cap.length) (Vo:∀(k:Nat) (j:Nat),cap[k]?=Qs j->∃x,N'[n+k]?=Qs x/\X.N[j]?=Qs x/\(x,Pq)∈scope.names) (hg:∀C s₃ H₃ fp pins,PG (bC X N' scope C s₃ H₃ fp pins) tg g) (ht:∀C s₃ H₃ fp pins,Vy (bC X N' scope C s₃ H₃ fp pins) ifs tt) (he:∀C s₃ H₃ fp pins,PE (bC X N' scope C s₃ H₃ fp pins) elt te) (hs:∀x,foldedSetIterable iter X.env x=pure x:=by intro _;rfl):PE X (.ListComp elt [⟨tg,iter,ifs,0⟩] scope pos) (mi n cap wi g tt te):=by intro pins s σ H Q I h;rw[eval_ListComp];refine wpAny_comprehension_free (use:=Qn) rfl hs (EB (S.frees I.ok)) S.kind (λx hx hl=>by rw[S.names x hx,hl]) (aE (hi pins s σ H _ I h) λv s1 h1=>aE h1 λYt s2 h2=>Ey (Q:=Q) S hc hN Vo hg ht he (λC s3 H3 fp D σ4 H4 s4 f I3 f3 hC I6 qn=>?_) h2);obtain⟨m,hm,_⟩:=I6.loc;exact⟨m,hm,λh' hb=>⟨.ref D,H4,EK I3 f3 hC I6 hb,rfl,qn⟩⟩
def IU{i₀:Nat}{y₀:Str}{X1:Pos}{wi:TI}{g:TG}{tt:TT}(S:VS X scope)(hc:X.calm=Qt)(hi:PI X tg iter wi) (hN:N'.length=n+cap.length) (Vo:∀(k:Nat) (j:Nat),cap[k]?=Qs j->∃x,N'[n+k]?=Qs x/\X.N[j]?=Qs x/\(x,Pq)∈scope.names) (hg:∀C s₃ H₃ fp pins,PG (bC X N' scope C s₃ H₃ fp pins) tg g) (ht:∀C s₃ H₃ fp pins,Vy (bC X N' scope C s₃ H₃ fp pins) ifs tt) (he:∀C s₃ H₃ fp pins,PE (bC X N' scope C s₃ H₃ fp pins) elt te) (ZT:X.N.Nodup) (ZQ:X.N[i₀]?=Qs y₀) (hy:Loc X.env.scope y₀) (Wh:swapsWith (.ListComp elt [⟨tg,iter,ifs,0⟩] scope pos) (Qs (.Name y₀ py)) X1.line X.env=pure Qt) (hf:X.fn y₀=Qt\/X.env.scope.names.lookup y₀=Qs .local) (hs:∀x,foldedSetIterable iter X.env x=pure x:=by intro _;rfl):PS X (.Assign [.Name y₀ py] (.ListComp elt [⟨tg,iter,ifs,0⟩] scope pos) X1) (λD σ H=>mi n cap wi g tt te σ H λv H1=>D.nx (σ.set i₀ (Qs v)) H1):=by
 intro pins s σ H Ed I h;rw[exec_Assign_Name_used y₀ py _ X1 Wh];refine OB (wpAny_standAt (OB ?_));show wpAny (model X.prog X.w) X.A (comprehension (.ListComp elt [⟨tg,iter,ifs,0⟩] scope pos) scope X.env _ (newList []) Qf (eval iter X.env) (Qs (assign (.Name y₀ py) X.env))>>=λ_=>pure ()) _ _ s;refine OB (aE (Q:=λ_ s'=>SP X pins Ed .next s') ?_ λ_ s' hq=>OQ (OQ hq));refine wpAny_comprehension_free (use:=Qs (assign (.Name y₀ py) X.env)) rfl hs (EB (S.frees I.ok)) S.kind (λx hx hl=>by rw[S.names x hx,hl]) (aE (hi pins s σ H _ I h) λv s1 h1=>aE h1 λYt s2 h2=>Ey (Q:=λv H1=>Ed.nx (σ.set i₀ (Qs v)) H1) S hc hN Vo hg ht he (λC s3 H3 fp D σ4 H4 s4 f I3 f3 hC I6 qn=>?_) h2);obtain⟨m,hm,_⟩:=I6.loc;have IX:=EK I3 f3 hC I6 (Zb:=s4.heap) ⟨rfl,λ_ _=>rfl⟩;have cf:H4 C=Qn:=I6.free;have fC:gb X pins H4 C:=I3.YF (by rw[hC];exact OL _) cf;obtain⟨c0,c1,c2,c3,c4,c5⟩:=fC;refine wpAny_assign_Name (Aq (s:=s4) IX ZT ZQ hy (v:=.ref D) rfl (λs5 I7 ⟨a,sb,ha⟩=>?_) hf);have na:a≠C:=by
  rcases ha with z|z
  .rw[z];exact λw=>c1 w.symm
  .exact c4 _ _ z
 refine⟨m,hm.sameBut sb (Ne.symm na),λh' hb=>⟨_,H4,?_,qn⟩⟩;exact I7.turned (t':=s5.toks) (λb o n e=>(hb.2 b n).trans e) c0 c1 c3 c4 c5
end L2
namespace DL
open PySem.Spec L2
structure Src(K:Ou)(ds:List D)(J:It)(Good:List Xl->Hp->Prop):Prop where
 keep:∀P H P' H',Good P H->Tj (ah P H) (ah P' H')->Good P' H'
 stop:∀P H,Good P H->J.stop ds.length H
 go:∀P H i,Good P H->i<ds.length->J.go i H
 Vw:∀P H i x H',Good P H->Ul H P->J.Vw i H x H'->i<ds.length->Tj H H'/\∃d,ds[i]?=Qs d/\Rep K (ah P H') d x
abbrev DI:=Th->Qo (Bool×Ql D)
def Vd(b:Bool)(A F:Ql Xl):Ql Xl:=if b then A++F else F
inductive dI(K:Ou)(F:List Xl)(fs:DI)(σ:L2.St)(H:Hp)(R:It->Hp->Prop):Prop
 |mk (A t b ds:_) (_:RS K F H A t σ) (_:fs t=Qs (b,ds)) (_:∀J H1 Good,Tj H H1->Src K ds J Good->Good (Vd b A F) H1->R J H1)
def PI.imp{t t':TI}(h:PI X tg iter t)(i:∀σ H R,t' σ H R->t σ H R):PI X tg iter t':=λpins s σ H R I q=>h pins s σ H R I (i σ H R q)
def cV(f:DE):DI:=λt=>(f t).bind λr=>match r.d with
 |.lst ds=>Qs (r.ok,ds)
 |_=>Qn
def jJ(f:DE):DI:=λt=>(f t).bind λr=>match r.d with
 |.lst ds=>Qs (r.ok,cH 0 ds)
 |_=>Qn
def ip(f:DE):DI:=λt=>(f t).bind λr=>match r.d with
 |.int n=>if dk n then Qs (Qt,dm 0 n.toNat) else Qn
 |_=>Qn
def o9(f f':DE):DI:=λt=>(f t).bind λr=>(f' t).bind λr'=>match r.d,r'.d with
 |.int lo,.int n=>if dk n&&dk lo then Qs (Qt,dm lo (n-lo).toNat) else Qn
 |_,_=>Qn
def GP (hl:vs.length=ds.length):Src K ds (zO K p) (λP H=>TZ K (ah P H) p vs/\Ts K (ah P H) ds vs) where
 keep:=λP H P' H' q s=>⟨TZ.mono s q.1,Ts.mono s q.2⟩
 stop:=λP H q=>⟨vs,TZ.mono (aZ _ _) q.1,by lia⟩
 go:=λP H i q hi=>⟨vs,vs[i]'(by lia),TZ.mono (aZ _ _) q.1,OE (by lia)⟩
 Vw:=λP H i x H' q mu y hi=>by obtain⟨e1,e2⟩:=y;subst e1;exact⟨Tj.refl _,q.2.Xb (e2 vs (TZ.mono (aZ _ _) q.1))⟩
def GQ (hl:vs.length=ds.length):Src K (cH 0 ds) (qt K p) (λP H=>TZ K (ah P H) p vs/\Ts K (ah P H) ds vs) where
 keep:=λP H P' H' q s=>⟨TZ.mono s q.1,Ts.mono s q.2⟩
 stop:=λP H q=>⟨vs,TZ.mono (aZ _ _) q.1,by rw[lJ];lia⟩
 go:=λP H i q hi=>by rw[lJ]at hi;exact⟨vs,vs[i]'(by lia),TZ.mono (aZ _ _) q.1,OE (by lia)⟩
 Vw:=λP H i x H' q mu y hi=>by obtain⟨l,v,Yx,rfl,rfl,hv⟩:=y;obtain⟨d,hd,rd⟩:=q.2.Xb (hv vs (TZ.mono (aZ _ _) q.1));have sm:=dX (o:=HO.tup [.int i,v]) Yx;refine⟨sm,_,yP 0 ds i d hd,?_⟩;rw[QM];exact .tup (UA.of (bA bB (eM mu Yx))) (.cons (.int _) (.cons (Rep.mono (cY sm) rd) .nil))
def Av:Src K (dm lo n) (kM lo n) (λ_ _=>True) where
 keep:=λ_ _ _ _ _ _=>trivial
 stop:=λP H _=>by rw[mv];exact OL n
 go:=λP H i _ hi=>by rw[mv]at hi;exact hi
 Vw:=λP H i x H' _ _ y hi=>by rw[mv]at hi;obtain⟨e1,e2⟩:=y;subst e1;refine⟨Tj.refl _,.int (lo+i),by simp[dm,hi],?_⟩;rw[e2];exact .int _
def T8.Vd{K:Ou}{F A:Ql Xl}{H H':Hp}{r:Ev}{v:V}(m:Ul H (A++F))(gs:Tj H H')(q:T8 K F A H H' r v):Rep K (ah (DL.Vd r.ok A F) H') r.d v:=by
 unfold DL.Vd;split
 .rename_i c;exact q.clean m gs c
 .exact q.WW m
def jw(hl:PE X a (dE X.K F fa)):PI X tg a (dI X.K F (cV fa)):=by
 refine PI.imp (sD hl) ?_;rintro σ H R ⟨A,t,b,ds,RR,e,h⟩;unfold cV at e;refine aB e λr e1 e=>?_;refine⟨A,t,r,RR,e1,λv H1 gs q=>?_⟩;have e:(match r.d with|.lst ds=>Qs (r.ok,ds)|_=>Qn)=Qs (b,ds):=e;split at e
 case h_2=>cases e
 rename_i Zg z;cases e;have cl:=T8.Vd RR.mu gs q;rw[z]at cl;cases cl with
 |@lst _ p vs h1 h2=>exact⟨p,rfl,⟨vs,TZ.mono (aZ _ _) h1⟩,h _ H1 _ gs (GP h2.length) ⟨h1,h2⟩⟩
def By{elts:Ql Xn}{kk:Nat}{tp:Pos}(hge:Gl X "enumerate")(hm:X.mg "enumerate"=Qn)(hl:PE X a (dE X.K F fa))(UT:OP [a] X.env=[(Qf,eval a X.env)]:=by rfl):PI X (.Tuple elts kk tp) (.Call (.Name "enumerate" p1) [a] [] p2) (dI X.K F (jJ fa)):=by
 refine PI.imp (BA hge hm hl UT) ?_;rintro σ H R ⟨A,t,b,ds,RR,e,h⟩;unfold jJ at e;refine aB e λr e1 e=>?_;refine⟨A,t,r,RR,e1,λv H1 gs q=>?_⟩;have e:(match r.d with|.lst ds=>Qs (r.ok,cH 0 ds)|_=>Qn)=Qs (b,ds):=e;split at e
 case h_2=>cases e
 rename_i Zg z;cases e;have cl:=T8.Vd RR.mu gs q;rw[z]at cl;cases cl with
 |@lst _ p vs h1 h2=>exact⟨p,rfl,⟨vs,TZ.mono (aZ _ _) h1⟩,h _ H1 _ gs (GQ h2.length) ⟨h1,h2⟩⟩
def wx (XM:Gl X "range")(hm:X.mg "range"=Qn)(ha:PE X a (dE X.K F fa))(UT:OP [a] X.env=[(Qf,eval a X.env)]:=by rfl):PI X tg (.Call (.Name "range" p1) [a] [] p2) (dI X.K F (ip fa)):=by
 refine PI.imp (Bz XM hm (gm ha gF UT) UT) ?_;rintro σ H R ⟨A,t,b,ds,RR,e,h⟩;unfold ip at e;refine aB e λr e1 e=>?_;refine⟨A,t,r,RR,e1,λv H1 gs q=>?_⟩;have e:(match r.d with|.int n=>if dk n then Qs (Qt,dm 0 n.toNat) else Qn|_=>Qn)=Qs (b,ds):=e;split at e
 case h_2=>cases e
 rename_i n z;refine bW e λok e=>?_;simp only[dk,UX]at ok;cases e;have p:=q.full;rw[z]at p;cases cI p;exact⟨n,rfl,by lia,by lia,h _ H1 _ gs Av trivial⟩
def Jq (XM:Gl X "range")(hm:X.mg "range"=Qn)(ha:PE X a (dE X.K F fa))(hb:PE X b (dE X.K F fb))(UT:OP [a,b] X.env=[(Qf,eval a X.env),(Qf,eval b X.env)]:=by rfl)(ZJ:OP [b] X.env=[(Qf,eval b X.env)]:=by rfl):PI X tg (.Call (.Name "range" p1) [a,b] [] p2) (dI X.K F (o9 fa fb)):=by
 refine PI.imp (Js XM hm (gm ha (gm hb gF ZJ) (by rw[UT,ZJ])) UT ZJ) ?_;rintro σ H R ⟨A,t,b,ds,RR,e,h⟩;unfold o9 at e;rcases e1:fa t with _|r
 .rw[e1]at e;cases e
 rcases e2:fb t with _|r'
 .rw[e1,e2]at e;cases e
 rw[e1,e2]at e;refine⟨A,t,r,RR,e1,λv H1 gs q=>⟨A,t,r',RR.grow gs,e2,λv2 H2 Uq q2=>?_⟩⟩;have e:(match r.d,r'.d with
  |.int lo,.int n=>if dk n&&dk lo then Qs (Qt,dm lo (n-lo).toNat) else Qn
  |_,_=>Qn)=Qs (b,ds):=e
 split at e
 case h_2=>cases e
 rename_i lo n z1 z2;replace e:=Ve e;obtain⟨ok,e⟩:=e;simp only[dk,OH,UX]at ok;cases e;have p:=q.full;rw[z1]at p;cases cI p;have p':=q2.full;rw[z2]at p';cases cI p';exact⟨lo,n,rfl,⟨by lia,by lia,by lia,by lia⟩,h _ H2 _ (gs.trans Uq) Av trivial⟩
def fZ(t:Th):Ql Nat->Qo (Bool×Ql D)
 |[]=>Qs (Qt,[])
 |j::js=>(fZ t js).bind λq=>match t[j]? with
  |some (.val d)=>Qs (q.1,d::q.2)
  |some (.own xs)=>Qs (Qf,.lst xs::q.2)
  |some (.dp d)=>Qs (Qf,d::q.2)
  |_=>Qn
def ug{K:Ou}{F A:Ql Xl}{H:Hp}{t:Th}{σ:L2.St}(R:RS K F H A t σ):∀{cap:Ql Nat}{b:Bool}{ds:Ql D},fZ t cap=Qs (b,ds)->∃vs:Ql V,(cap.map λj=>(σ[j]?).getD Qn)=vs.map Qs/\Ts K (ah (Vd b A F) H) ds vs
 |[],b,ds,e=>by cases e;exact⟨[],rfl,.nil⟩
 |j::js,b,ds,e=>by
  unfold fZ at e;rcases e1:fZ t js with _|q
  .rw[e1]at e;cases e
  obtain⟨b',Zg⟩:=q;rw[e1]at e;obtain⟨vs,h1,h2⟩:=ug R e1;have e:(match t[j]? with
   |some (.val d)=>Qs (b',d::Zg)
   |some (.own xs)=>Qs (Qf,.lst xs::Zg)
   |some (.dp d)=>Qs (Qf,d::Zg)
   |_=>Qn)=Qs (b,ds):=e
  have less:∀c:Bool,Tj (ah (A++F) H) (ah (Vd c A F) H):=λc=>bf H λx z=>by
   cases c with
   |true=>exact z
   |false=>exact Oq _ z
  split at e
  .rename_i d z;cases e;obtain⟨v,a1,a2⟩:=R.rel.YE z;exact⟨v::vs,by simp[a1,h1],.cons (Rep.mono (less _) a2) h2⟩
  .rename_i xs z;cases e;obtain⟨p,us,a1,a2,a3,a4⟩:=R.rel.Wm z;refine⟨.ref p::vs,by simp[a1,h1],.cons (.lst (TZ.of (bA a3 (R.dj p a2))) (Ts.mono (less Qf) a4)) (Ts.mono (bf H λx z=>?_) h2)⟩;cases b' with
   |true=>exact Oq _ z
   |false=>exact z
  .rename_i d z;cases e;obtain⟨v,B,a1,a2,a3,a4⟩:=R.rel.zbD R.nd z;refine⟨v::vs,by simp[a1,h1],.cons (a4.rep (less Qf) λb hb o w=>bA w (R.dj b (a2 b hb))) (Ts.mono (bf H λx z=>?_) h2)⟩;cases b' with
   |true=>exact Oq _ z
   |false=>exact z
  .cases e
def bU(k:D->Th->Qo Th)(ft:DT)(fe:DE):Ql D->Th->Qo (Ql D)
 |[],_=>Qs []
 |d::ds,t=>(k d t).bind λt1=>(ft t1).bind λb=>if b then(fe t1).bind λr=>(bU k ft fe ds t1).map λxs=>r.d::xs else bU k ft fe ds t1
def bE(n:Nat)(cap:Ql Nat)(fs:DI)(k:D->Th->Qo Th)(ft:DT)(fe:DE):DE:=λt=>(fs t).bind λq=>(fZ t cap).bind λc=>if q.2.length<=50000 then(bU k ft fe q.2 (OR n Sl.no++c.2.map Sl.val)).bind λxs=>if(q.1&&c.1)||Ui xs then Qs (.nw xs) else Qn else Qn
def y9{k:D->Th->Qo Th}{ft:DT}{fe:DE}:∀{ds:Ql D}{t:Th}{xs:Ql D},bU k ft fe ds t=Qs xs->xs.length<=ds.length
 |[],t,xs,e=>by cases e;simp
 |d::ds,t,xs,e=>by
  unfold bU at e;refine aB e λt1 e1 e=>?_;have e:((ft t1).bind λb=>if b then(fe t1).bind λr=>(bU k ft fe ds t1).map λxs=>r.d::xs else bU k ft fe ds t1)=Qs xs:=e;refine aB e λb e2 e=>?_;cases b with
  |false=>have:=y9 (ds:=ds) (t:=t1) e;simp;lia
  |true=>
   have e:((fe t1).bind λr=>(bU k ft fe ds t1).map λxs=>r.d::xs)=Qs xs:=e;refine aB e λr e3 e=>?_;have e:((bU k ft fe ds t1).map λxs=>r.d::xs)=Qs xs:=e;cases e4:bU k ft fe ds t1 with
   |none=>rw[e4]at e;cases e
   |some ys=>rw[e4]at e;cases e;have:=y9 e4;simp;lia
def TK.zaW{K:Ou}{H0 H:Hp}{vs:Ql V}{ds:Ql D}(r:Ts K H0 ds vs):∀n,TK K H0 H (OR n Sl.no++ds.map Sl.val) (OR n Qn++vs.map Qs) []
 |0=>by simpa using TK.start (t:=[]) (σ:=[]) .nil r
 |n+1=>.no (TK.zaW r n)
def tM{P:Ql Xl}{o:HO}(hp:p∈P):Tj (ah P H) (ah P (upd H p o)):=λb u e=>by obtain⟨n,e⟩:=cN e;exact bA (by rw[aS (λz=>n (by rw[z];exact hp))];exact e) n
def RS.Zm{P:Ql Xl}(R:RS K P H [] t σ)(hp:p∈P):RS K P (upd H p (.lst ws)) [] t σ where
 mu:=λq hq=>by
  by_cases z:q=p
  .exact⟨mL ws,by rw[z];exact bB⟩
  .obtain⟨us,w⟩:=R.mu q hq;exact⟨us,by rw[aS z];exact w⟩
 nd:=Pl
 dj:=λp hp=>by cases hp
 rel:=TK.mono (tM hp) R.rel λq hq=>by cases hq
def wU{P:Ql Xl}(R:RS K P H A t σ)(g:Gr [] H A H):A=[]:=by
 cases A with
 |nil=>rfl
 |cons a r=>
  rcases g.nw a (Ox ..) with z|z
  .cases z
  .obtain⟨vs,q⟩:=R.mu a (Ot _ (Ox ..));rw[q]at z;cases z
def bL:DT:=λ_=>Qs Qt
def Vy.imp{t t':TT}(h:Vy Y ifs t)(i:∀σ H Q,t' σ H Q->t σ H Q):Vy Y ifs t':=λpins s σ H Q I q=>h pins s σ H Q I (i σ H Q q)
def sg:Vy Y [] (dT Y.K F bL):=Vy.imp Bf λσ H Q ⟨A,t,b,R,e,h⟩=>by cases e;exact h H (Tj.refl H)
def oo (h:PT Y c (dT Y.K F ft)):Vy Y [c] (dT Y.K F ft):=Iu h
def yS{α:Type}{ds:Ql α}{d:α}(V2:i<ds.length)(hd:ds[i]?=Qs d):ds.drop i=d::ds.drop (i+1):=by rw[OE V2]at hd;rw[<-O4 hd];exact Py V2
def tO{b:Bool}:∀x∈Vd b A F,x∈A++F:=by
 cases b with
 |true=>exact λx hx=>hx
 |false=>exact λx hx=>Oq _ hx
def tQ{b:Bool}:∀x∈F,x∈Vd b A F:=by
 cases b with
 |true=>exact λx hx=>Oq _ hx
 |false=>exact λx hx=>hx
def Dp{b c:Bool}:∀x∈Vd (b&&c) A F,x∈Vd b A F:=by
 cases b with
 |true=>cases c with
  |true=>exact λx hx=>hx
  |false=>exact tQ
 |false=>exact λx hx=>hx
def Dm{b c:Bool}:∀x∈Vd (b&&c) A F,x∈Vd c A F:=by
 cases b with
 |true=>exact λx hx=>hx
 |false=>exact tQ
def sT{α β:Type}{x:Qo α}{f:α->β}{r:β}{G:Prop}(e:x.map f=Qs r)(h:∀a,x=Qs a->f a=r->G):G:=by
 cases x with
 |none=>cases e
 |some a=>exact h a rfl (O4 e)
def LA (h:n<50000):n<O3:=OS h (by rw[sizeLine_eq];decide)
def zD{α β:Type}{acc ys xs:Ql α}{y:α}{vs:Ql β}(l:vs.length=acc.length)(ex:acc++y::ys=xs)(hx:xs.length<=50000):vs.length<O3:=by refine LA ?_;rw[<-ex,O8,OX]at hx;lia
def AI{o:HO}(hn:H1 p=Qn)(sm:Tj H1 H)(s:Tj H H'):Tj H1 (upd H' p o):=λb u z=>by rw[aS (λw=>by rw[w,hn]at z;cases z)];exact s _ _ (sm _ _ z)
inductive CI(K:Ou)(kt:D->Th->Option Th)(ft:DT)(fe:DE)(ds xs:List D)(H1:Hp)(P:List Xl)(p:Xl)(Good:List Xl->Hp->Prop)(i m:Nat)(σ:L2.St)(H:Hp):Prop
 |mk (th:Th) (acc rest:List D) (vs:List V) (hm:i+m=ds.length) (R:RS K P H [] th σ) (ec:bU kt ft fe (ds.drop i) th=Qs rest) (ex:acc++rest=xs) (hv:H p=Qs (.lst vs)) (hr:Ts K (ah P H) acc vs) (sm:Tj H1 H) (gg:Good P H)
def CI.step{xs:Ql D}{P:Ql Xl}{Good:Ql Xl->Hp->Prop}{g:TG}{m:Nat}(src:Src K ds J Good)(hk:cX K P g kt)(hp:p∈P)(hn:H1 p=Qn)(hx:xs.length<=50000) (c:CI K kt ft fe ds xs H1 P p Good i (m+1) σ H):J.go i H/\∃N:L2.St->Hp->Prop,(∀σ2 H2,N σ2 H2->∃m',m'<m+1/\CI K kt ft fe ds xs H1 P p Good (i+1) m' σ2 H2)/\∀x H2,J.Vw i H x H2->g x σ H2 λσ2 H3=>∃F',dT K F' ft σ2 H3 λb H4=>
   if b=Qt then ∃F',dE K F' fe σ2 H4 λv H5=>∃vs,H5 p=Qs (.lst vs)/\vs.length<O3/\N σ2 (upd H5 p (.lst (vs++[v]))) else N σ2 H4:=by
 obtain⟨th,acc,rest,vs,hm,R,ec,ex,hv,hr,sm,gg⟩:=c;have V2:i<ds.length:=by lia
 have Yb:i+1+m=ds.length:=by lia
 refine⟨src.go _ _ i gg V2,CI K kt ft fe ds xs H1 P p Good (i+1) m,λ_ _ q=>⟨m,PB m,q⟩,λx H2 y=>?_⟩;obtain⟨Uq,d,hd,rd⟩:=src.Vw _ _ i x H2 gg R.mu y V2;rw[yS V2 hd]at ec;refine aB ec λt1 k1 ec=>?_;refine aB ec λbb k2 ec=>?_;refine hk σ H2 [] th t1 d x _ (R.grow Uq) rd k1 λσ2 A2 Vp R2=>?_;cases wU R2 Vp;refine⟨P,[],t1,bb,R2,k2,λH3 Xr=>?_⟩;have s3:=Uq.trans Xr;have R3:=R2.grow Xr;clear R R2 Uq Xr Vp k1 k2 y rd V2 hm;cases bb with
 |false=>exact oW ⟨t1,acc,rest,vs,Yb,R3,ec,ex,s3 _ _ hv,Ts.mono (cY s3) hr,sm.trans s3,src.keep _ _ _ _ gg (cY s3)⟩
 |true=>refine aB (show(fe t1).bind _=Qs rest from ec) λre k3 ec=>?_;refine sT ec λys k4 ec=>?_;subst ec;refine oV ⟨P,[],t1,re,R3,k3,λv H4 XO q4=>⟨vs,XO _ _ (s3 _ _ hv),zD hr.length ex hx,?_⟩⟩;have s4:=s3.trans XO;have hu:Tj (ah P H4) (ah P (upd H4 p (.lst (vs++[v])))):=tM hp;have s5:=(cY s4).trans hu;exact⟨t1,acc++[re.d],ys,vs++[v],Yb,RS.Zm (R3.grow XO) hp,k4,by rw[Pm];exact ex,bB,(Ts.mono s5 hr).app (Ts.one (Rep.mono hu (q4.WW R3.mu))),AI hn sm s4,src.keep _ _ _ _ gg s5⟩
def RS.block{F':Ql Xl}{c:Bool}{Z2:Ql D}{Z1:Ql V}(YQ:Ul H1 (A++F))(hp:H1 p=Qn)(sF:∀x∈F',x∈A++F)(lc:∀x∈F',x∈Vd c A F)(gs:Tj H H1)(YJ:cap.map (λj=>(σ[j]?).getD Qn)=Z1.map Qs)(YI:Ts K (ah (Vd c A F) H) Z2 Z1):RS K (p::F') (upd H1 p (.lst [])) [] (OR n Sl.no++Z2.map Sl.val) (kJ n cap σ):=by
 refine⟨λq hq=>?_,Pl,λp hp=>(by cases hp),?_⟩
 .rcases OC.mp hq with z|z
  .exact⟨mL [],by rw[z];exact bB⟩
  .obtain⟨us,w⟩:=YQ q (sF q z);exact⟨us,(dX hp) _ _ w⟩
 .unfold kJ;rw[YJ];exact TK.zaW (Ts.mono (((cY gs).trans (bf H1 lc)).trans (kB hp)) YI) n
def Ag{fs:DI}{g:TG}(hk:∀F',cX X.K F' g kt) (h:dE X.K F (bE n cap fs kt ft fe) σ H Q):mi n cap (dI X.K F fs) g (λσ H Q=>∃F',dT X.K F' ft σ H Q) (λσ H Q=>∃F',dE X.K F' fe σ H Q) σ H Q:=by
 obtain⟨A,t,r,R,e,h⟩:=h;refine aB e λq e1 e=>?_;refine aB e λc e2 e=>?_;obtain⟨b,ds⟩:=q;obtain⟨c,Z2⟩:=c;refine bW e λhlen e=>?_;refine aB e λxs e3 e=>?_;refine bW e λok e=>?_;cases e;obtain⟨Z1,YJ,YI⟩:=ug R e2;refine⟨A,t,b,ds,R,e1,λJ H1 Good gs src gd p hD=>?_⟩;have YQ:Ul H1 (A++F):=R.mu.mono gs;refine⟨CI X.K kt ft fe ds xs H1 (p::Vd (b&&c) A F) p Good,⟨ds.length,⟨_,[],xs,[],QM _,RS.block YQ hD tO Dm gs YJ YI,e3,rfl,bB,.nil,dX hD,src.keep _ _ _ _ gd ((bf H1 Dp).trans (kB hD))⟩⟩,λi m σ' H' c'=>?_⟩;cases m with
 |succ m=>exact .inr (c'.step src (hk _) (Ox ..) hD (Pr (y9 e3) hlen))
 |zero=>
  obtain⟨th,acc,rest,vs,hm,_,ec,ex,hv,hr,sm,gg⟩:=c';cases hm;rw[Qy]at ec;cases ec;rw[Po]at ex;subst ex;refine .inl ⟨src.stop _ _ gg,h _ H' (gs.trans sm) ⟨p,vs,rfl,Tj.free gs hD,hv,?_⟩⟩;rcases RJ _ _▸ok with k|k
  .rw[k]at hr;exact hr
  .refine Ts.UC (P:=p::(A++F)) (λq hq=>?_) k (Ts.mono (aZ _ _) hr);rcases OC.mp hq with z|z
   .exact⟨mL vs,by rw[z];exact hv⟩
   .obtain⟨us,w⟩:=YQ q z;exact⟨us,sm _ _ w⟩
def JI{fs:DI}{g:TG}(S:VS X scope)(hc:X.calm=Qt)(hi:PI X tg iter (dI X.K F fs)) (hN:N'.length=n+cap.length) (Vo:∀(k:Nat) (j:Nat),cap[k]?=Qs j->∃x,N'[n+k]?=Qs x/\X.N[j]?=Qs x/\(x,Pq)∈scope.names) (hg:∀C s₃ H₃ fp pins,PG (bC X N' scope C s₃ H₃ fp pins) tg g) (hk:∀F',cX X.K F' g kt) (ht:∀C s₃ H₃ fp pins F',Vy (bC X N' scope C s₃ H₃ fp pins) ifs (dT X.K F' ft)) (he:∀C s₃ H₃ fp pins F',PE (bC X N' scope C s₃ H₃ fp pins) elt (dE X.K F' fe)) (hs:∀x,foldedSetIterable iter X.env x=pure x:=by intro _;rfl):PE X (.ListComp elt [⟨tg,iter,ifs,0⟩] scope pos) (dE X.K F (bE n cap fs kt ft fe)):=PE.imp (wJ (g:=g) S hc hi hN Vo hg (λC s₃ H₃ fp pins VL s σ H Q I ⟨F',q⟩=>ht C s₃ H₃ fp pins F' VL s σ H Q I q) (λC s₃ H₃ fp pins VL s σ H Q I ⟨F',q⟩=>he C s₃ H₃ fp pins F' VL s σ H Q I q) hs) λ_ _ _ h=>Ag hk h
def lS(names:Ql (Str×Qk))(kind:Str->Qo Qk):Bool:=names.all λy=>(y.2 !=.free||kind y.1==Qs .cell||kind y.1==Qs .free)&&(names.lookup y.1==Qs y.2)
def uc (hk:scope.kind=.function:=by rfl)(h:lS scope.names X.env.kindOf=Qt:=by rfl):VS X scope:=by
 have h':=PF.mp h;refine⟨hk,λy hy hf=>?_,λy hy=>?_⟩
 .have:=h' y hy;simp only[OH,RJ,bne_iff_ne,beq_iff_eq]at this;rcases this.1 with(z|z)|z
  .exact absurd hf z
  .exact .inl z
  .exact .inr z
 .have:=h' y hy;simp only[OH,beq_iff_eq]at this;exact this.2
def jR(N' N:Ql Str)(n:Nat)(names:Ql (Str×Qk)):Nat->Ql Nat->Bool
 |_,[]=>Qt
 |k,j::js=>(match N'[n+k]?,N[j]? with
  |some x,Qs y=>x==y&&names.any λz=>z.1==x&&z.2==.free
  |_,_=>Qf)&&jR N' N n names (k+1) js
def pO{N' N:Ql Str}{n:Nat}{names:Ql (Str×Qk)}:∀{cap:Ql Nat}{k0:Nat},jR N' N n names k0 cap=Qt->∀(k j:Nat),cap[k]?=Qs j->∃x,N'[n+(k0+k)]?=Qs x/\N[j]?=Qs x/\(x,Pq)∈names
 |[],k0,_,k,j,e=>by simp at e
 |i::js,k0,h,k,j,e=>by
  unfold jR at h;rw[OH]at h;cases k with
  |zero=>
   simp at e;subst e;have h1:=h.1;split at h1
   .rename_i x y z1 z2;rw[OH,beq_iff_eq,List.any_eq_true]at h1;obtain⟨e1,w,w1,w2⟩:=h1;rw[OH,beq_iff_eq,beq_iff_eq]at w2;obtain⟨a,b⟩:=w;simp only at w2;rw[w2.1,w2.2]at w1;exact⟨x,by simpa using z1,by rw[z2,e1],w1⟩
   .cases h1
  |succ k=>obtain⟨x,a,b,c⟩:=pO h.2 k j (by simpa using e);exact⟨x,by rw[show k0+(k+1)=k0+1+k by lia];exact a,b,c⟩
def sG{fs:DI}{g:TG}(n:Nat)(cap:Ql Nat)(N':Ql Str)(hc:X.calm=Qt)(hi:PI X tg iter (dI X.K F fs)) (hg:∀C s₃ H₃ fp pins,PG (bC X N' scope C s₃ H₃ fp pins) tg g) (hk:∀F',cX X.K F' g kt) (ht:∀C s₃ H₃ fp pins F',Vy (bC X N' scope C s₃ H₃ fp pins) ifs (dT X.K F' ft)) (he:∀C s₃ H₃ fp pins F',PE (bC X N' scope C s₃ H₃ fp pins) elt (dE X.K F' fe)) (W7:scope.kind=.function:=by rfl) (W8:lS scope.names X.env.kindOf=Qt:=by rfl) (hN:N'.length=n+cap.length:=by rfl) (Vo:jR N' X.N n scope.names 0 cap=Qt:=by rfl) (hs:∀x,foldedSetIterable iter X.env x=pure x:=by intro _;rfl):PE X (.ListComp elt [⟨tg,iter,ifs,0⟩] scope pos) (dE X.K F (bE n cap fs kt ft fe)):=JI (uc W7 W8) hc hi hN (λk j e=>by simpa using pO Vo k j e) hg hk ht he hs
def Vf:Ev->Ev->Qo Ev:=λr1 r2=>match r2.d with
 |.lst ds=>if aM r1.d&&ds.all (λd=>aM d&&bT 0 d r1.d) then Qs (.cl (.bl (ds.any λd=>cq d r1.d))) else Qn
 |.tup ds=>if aM r1.d&&ds.all (λd=>aM d&&bT 0 d r1.d) then Qs (.cl (.bl (ds.any λd=>cq d r1.d))) else Qn
 |_=>Qn
def xJ{K:Ou}{H:Hp}{e:D}{u:V}(q:Rep K H e u)(se:aM e=Qt):∀{ds:Ql D}{vs:Ql V},Ts K H ds vs->ds.all (λd=>aM d&&bT 0 d e)=Qt->vs.all dv=Qt/\jH u vs=ds.any λd=>cq d e
 |_,_,.nil,_=>⟨rfl,rfl⟩
 |_,_,.cons h r,k=>by simp only[PN,OH]at k;obtain⟨f1,f2,e1⟩:=yM h q k.1.1 se k.1.2;obtain⟨a,b⟩:=xJ q se r (by simpa using k.2);unfold jH at b ⊢;refine⟨by simp[f1,a],?_⟩;rw[Qh,Qh,e1,b]
def AH{e:D}{u:V}(q:Rep K H e u)(se:aM e=Qt):dv u=Qt:=by cases q<;>simp_all [aM,dv]
def dU:Ql Ev->Qo Ev:=λrs=>match rs with
 |[r]=>(match r.d with
  |.lst ds=>if r.ok||Ui ds then Qs (.nw ds) else Qn
  |_=>Qn)
 |_=>Qn
def lT:Vt X F (.type "list") dU:=Vt.of NO λH0 H A xs rs e Q m g q ek hq=>by
 unfold dU at ek;split at ek
 .rename_i r;cases q with
  |cons q1 q2=>
   cases q2;split at ek
   .rename_i ds z;refine bW ek λc ek=>?_;cases ek;obtain⟨p,vs,rfl,h1,h2⟩:=q1.items m g z c;exact⟨p,vs,rfl,.inl h1,λl hl=>hq _ _ (dX hl) ⟨l,vs,rfl,Tj.free g hl,bB,Ts.mono (kB hl) h2⟩⟩
   .cases ek
 .cases ek
def kx(f:Int->Int->Int):Ql Ev->Qo Ev:=λrs=>match rs with
 |[r1,r2]=>(match r1.d,r2.d with
  |.int i,.int j=>Qs (.cl (.int (f i j)))
  |_,_=>Qn)
 |_=>Qn
def EG{v:OM}{f:Int->Int->Int}(h:gc X v (λxs H Q=>∃i j,xs=[.int i,.int j]/\Q (.int (f i j)) H)):Vt X F v (kx f):=Vt.of h λH0 H A xs rs e Q m g q ek hq=>by
 unfold kx at ek;split at ek
 .rename_i r1 r2;cases q with
  |cons q1 q'=>
   cases q' with
   |cons q2 q3=>
    cases q3;split at ek
    .rename_i i j z1 z2;cases ek;have p1:=q1.full;have p2:=q2.full;rw[z1]at p1;rw[z2]at p2;cases cI p1;cases cI p2;exact⟨i,j,rfl,hq _ H (Tj.refl H) (.int _)⟩
    .cases ek
 .cases ek
def zq(hc:X.calm=Qt):Vt X F (.builtin "min") (kx λi j=>if j<i then j else i):=EG (NM hc)
def EE(hc:X.calm=Qt):Vt X F (.builtin "max") (kx λi j=>if j>i then j else i):=EG (NN hc)
def oX:D->Bool
 |.TX=>Qt
 |_=>Qf
def iT:Ev->Ev->Qo Ev:=λr1 r2=>match r2.d with
 |.TX=>Qs (.cl (.bl (oX r1.d)))
 |_=>Qn
def tD:Ev->Ev->Qo Ev:=λr1 r2=>match r2.d with
 |.TX=>Qs (.cl (.bl (! oX r1.d)))
 |_=>Qn
def AQ{d:D}(h:Rep K H d v):decide (v=.TX)=oX d:=by cases h<;>simp[oX]
def wO:Vh X F (compareOp .Is) iT:=by
 intro pins s σ H0 H A x y v u Q r1 r2 r I m g0 rx ry q1 q2 e hq;unfold iT at e;split at e
 .rename_i z;cases e;have p2:=q2.full;rw[z]at p2;cases p2;exact J9 pins s σ H x _ v u Q I rx ry ⟨rfl,by rw[AQ q1.full];exact hq _ H (Tj.refl H) (.bl _)⟩
 .cases e
def KZ:Vh X F (compareOp .IsNot) tD:=by
 intro pins s σ H0 H A x y v u Q r1 r2 r I m g0 rx ry q1 q2 e hq;unfold tD at e;split at e
 .rename_i z;cases e;have p2:=q2.full;rw[z]at p2;cases p2;exact J4 pins s σ H x _ v u Q I rx ry ⟨rfl,by rw[AQ q1.full];exact hq _ H (Tj.refl H) (.bl _)⟩
 .cases e
def dW:Ql D->Qo (Ql Int)
 |[]=>Qs []
 |.int i::r=>(dW r).map λns=>i::ns
 |_::_=>Qn
def lG:∀{ds:Ql D}{ns:Ql Int},dW ds=Qs ns->ds=ns.map D.int
 |[],ns,e=>by cases e;rfl
 |.int i::r,ns,e=>by
  unfold dW at e;cases e1:dW r with
  |none=>rw[e1]at e;cases e
  |some m=>rw[e1]at e;cases e;rw[lG e1];rfl
 |.TX::r,ns,e=>by cases e
 |.bl _::r,ns,e=>by cases e
 |.str _::r,ns,e=>by cases e
 |.tup _::r,ns,e=>by cases e
 |.lst _::r,ns,e=>by cases e
def xF(ns:Ql Int):dW (ns.map D.int)=Qs ns:=by
 induction ns with
 |nil=>rfl
 |cons n r ih=>simp[dW,ih]
def iO{K:Ou}{H:Hp}:∀{ns:Ql Int}{vs:Ql V},Ts K H (ns.map D.int) vs->vs=ns.map V.int
 |[],_,.nil=>rfl
 |n::r,_,.cons h q=>by cases cI h;rw[iO q];rfl
def NH(hc:X.calm=Qt):gc X (.builtin "sum") (λxs H Q=>∃(p:Xl) (ns:Ql Int),xs=[.ref p]/\TZ X.K H p (ns.map V.int)/\Q (.int ns.sum) H):=by
 intro pins s σ H xs us Q I r h;obtain⟨p,ns,rfl,hs,q⟩:=h;obtain⟨u,rfl,ru⟩:=j3 r;cases ru;obtain⟨TH,rv,pl,_⟩:=I.list hs;have hi:IntsAre TH ns:=tL rv;obtain⟨ys,e⟩:=hi.allInts.items;have hl:s.heap.IsList p (intItems ys):=by rw[<-e];exact PlainL.VE pl
 refine sum_intListG (I.ok.hd hc) hl λh' tk t' hk=>⟨.int _,H,I.kept (t':=tk) hk,⟨t',rfl⟩,?_⟩;have en:=nums_intItems ys;rw[preSum_eq,QN (by simp)];have e2:numsOf (intItems ys).toList=ns:=by rw[<-e];exact hi.numsOf
 rw[<-nums_intItems,e2];exact q
def oM:Ql Ev->Qo Ev:=λrs=>match rs with
 |[r]=>(match r.d with
  |.lst ds=>(dW ds).map λns=>.cl (.int ns.sum)
  |_=>Qn)
 |_=>Qn
def NA(hc:X.calm=Qt):Vt X F (.builtin "sum") oM:=Vt.of (NH hc) λH0 H A xs rs e Q m g q ek hq=>by
 unfold oM at ek;split at ek
 .rename_i r;cases q with
  |cons q1 q2=>
   cases q2;split at ek
   .rename_i ds z;rcases e1:dW ds with _|ns
    .rw[e1]at ek;cases ek
    rw[e1]at ek;cases ek;have p:=q1.full;rw[z,lG e1]at p;cases p with
    |lst h1 h2=>rw[iO h2]at h1;exact⟨_,ns,rfl,h1,hq _ H (Tj.refl H) (.int _)⟩
   .cases ek
 .cases ek
def yN(i j:Int):cq (.int i) (.int j)=decide (i=j):=by rw[PR,WU];simp
def zeo{i:Int}:sm i=Qt↔i.natAbs<Uj:=by simp[sm]
def VP{i:Int}(h:i.natAbs<2^256):sm i=Qt:=zeo.mpr (OS h (by unfold Uj;exact P5 (by decide) (by decide)))
def j6{i:Int}(h1:-10000000000000000000000000000000000000000000000000000000000000000000000000000<i)(h2:i<10000000000000000000000000000000000000000000000000000000000000000000000000000):sm i=Qt:=by
 apply VP;have:(2:Nat)^256=115792089237316195423570985008687907853269984665640564039457584007913129639936:=by decide
 lia
def Eb(d:D):cq d d=Qt:=WU.mpr rfl
def aL{t':Th}(h:g1 t=Qs (.nx t')):aF g1 g2 t=g2 t':=by simp[aF,h]
def TL.length{K:Ou}{H0 H:Hp}:∀{ds:Ql D}{vs:Ql V}{B:Ql Xl},TL K H0 H ds vs B->vs.length=ds.length
 |_,_,_,.nil=>rfl
 |_,_,_,.cons _ r=>by simp[TL.length r]
inductive Fcs(K:Ou)(H0 H:Hp)(ds:List D)(vs:List V)(B:List Xl)(j:Nat)(d:D):Prop
 |mk (v B1:_) (_:vs[j]?=Qs v) (_:T6 K H0 H d v B1) (_:(∀b∈B1,b∈B)) (_:(B.Nodup->B1.Nodup)) (_:∀Uv H' d2 B2,Tj H0 Uv->T6 K Uv H' d2 v B2->B2.Sublist B1->(∀q∈B,q∉B1->∀o,H q=Qs o->H' q=Qs o)->B.Nodup->∃B',TL K Uv H' (ds.set j d2) vs B'/\B'.Sublist B)
def TL.focus{K:Ou}{H0 H:Hp}:∀{ds:Ql D}{vs:Ql V}{B:Ql Xl},TL K H0 H ds vs B->∀{j:Nat}{d:D},ds[j]?=Qs d->Fcs K H0 H ds vs B j d
 |_,_,_,.nil,j,d,e=>by simp at e
 |_,_,_,.cons (v:=v) (B:=B) (C:=C) h r,0,d,e=>by simp at e;subst e;refine⟨v,B,rfl,h,λb hb=>Ot _ hb,λn=>(OG.mp n).1,λUv H' d2 B2 s q sb k nd=>⟨B2++C,.cons q (TL.mono s r λp hp o w=>?_),P0 sb (O7 _)⟩⟩;exact k p (Oq _ hp) (λz=>(OG.mp nd).2.2 p z p hp rfl) o w
 |_,_,_,.cons (v:=v) (B:=B) (C:=C) h r,j+1,d,e=>by obtain⟨v1,B1,a1,a2,a3,a5,a4⟩:=TL.focus r (j:=j) (d:=d) (by simpa using e);refine⟨v1,B1,by simpa using a1,a2,λb hb=>Oq _ (a3 b hb),λn=>a5 (OG.mp n).2.1,λUv H' d2 B2 s q sb k nd=>?_⟩;have n:=OG.mp nd;obtain⟨B',b1,b2⟩:=a4 Uv H' d2 B2 s q sb (λq hq=>k q (Oq _ hq)) n.2.1;refine⟨B++B',.cons (T6.mono s h λp hp o w=>k p (Ot _ hp) (λz=>n.2.2 p hp p (a3 p z) rfl) o w) b1,P0 (O7 _) b2⟩
def N6{α:Type}{xs:Ql α}{n:Int}{x:α}(e:UO xs n=Qs x):∃j,Vn xs.length n=Qs j/\xs[j]?=Qs x:=by
 unfold L2.UO at e;cases e1:Vn xs.length n with
 |none=>rw[e1]at e;cases e
 |some j=>rw[e1]at e;exact⟨j,rfl,e⟩
inductive FDp(K:Ou)(H0 H:Hp)(t:Th)(σ:L2.St)(A:List Xl)(i:Nat)(d:D):Prop
 |mk (v B:_) (_:σ[i]?=Qs (Qs v)) (_:(∀b∈B,b∈A)) (_:B.Nodup) (_:T6 K H0 H d v B) (_:∀Uv H' d2 B2,Tj H0 Uv->T6 K Uv H' d2 v B2->B2.Sublist B->(∀q∈A,q∉B->∀o,H q=Qs o->H' q=Qs o)->∃A2,TK K Uv H' (t.set i (.dp d2)) σ A2/\A2.Sublist A)
def TK.zgS:∀{t:Th}{σ:L2.St}{A:Ql Xl},TK K H0 H t σ A->A.Nodup->∀{i:Nat}{d:D},t[i]?=Qs (.dp d)->FDp K H0 H t σ A i d:=by
 intro _ _ _ h
 induction h with
 |nil=>intro n i d e;simp at e
 |@no _ _ _ _ r ih=>
  intro n i d e;cases i with
  |zero=>simp at e
  |succ i=>obtain⟨v,B,a,b,n',c,k⟩:=ih n (i:=i) (d:=d) (by simpa using e);refine⟨v,B,by simpa using a,b,n',c,λUv H' d2 B2 s q sb w=>?_⟩;obtain⟨A2,x,y⟩:=k Uv H' d2 B2 s q sb w;exact⟨A2,.no x,y⟩
 |@val _ v _ _ _ h r ih=>
  intro n i d e;cases i with
  |zero=>simp at e
  |succ i=>obtain⟨v,B,a,b,n',c,k⟩:=ih n (i:=i) (d:=d) (by simpa using e);refine⟨v,B,by simpa using a,b,n',c,λUv H' d2 B2 s q sb w=>?_⟩;obtain⟨A2,x,y⟩:=k Uv H' d2 B2 s q sb w;exact⟨A2,.val (Rep.mono s h) x,y⟩
 |@own p _ _ _ _ _ h1 h2 r ih=>
  intro n i d e;cases i with
  |zero=>simp at e
  |succ i=>have n0:=OO.mp n;obtain⟨v,B,a,b,n',c,k⟩:=ih n0.2 (i:=i) (d:=d) (by simpa using e);refine⟨v,B,by simpa using a,λx hx=>Ov _ (b x hx),n',c,λUv H' d2 B2 s q sb w=>?_⟩;obtain⟨A2,x,y⟩:=k Uv H' d2 B2 s q sb (λq hq=>w q (Ov _ hq));exact⟨p::A2,.own (w p (Ox ..) (λz=>n0.1 (b p z)) _ h1) (Ts.mono s h2) x,y.cons₂ _⟩
 |@dp _ v C _ _ _ h r ih=>
  intro n i d e;cases i with
  |zero=>simp at e;subst e;have n0:=OG.mp n;refine⟨v,C,rfl,λx hx=>Ot _ hx,n0.1,h,λUv H' d2 B2 s q sb w=>?_⟩;exact⟨_,.dp q (TK.mono s r λp hp=>w p (Oq _ hp) λz=>n0.2.2 p z p hp rfl),P0 sb (O7 _)⟩
  |succ i=>have n0:=OG.mp n;obtain⟨v,B,a,b,n',c,k⟩:=ih n0.2.1 (i:=i) (d:=d) (by simpa using e);refine⟨v,B,by simpa using a,λx hx=>Oq _ (b x hx),n',c,λUv H' d2 B2 s q sb w=>?_⟩;obtain⟨A2,x,y⟩:=k Uv H' d2 B2 s q sb (λq hq=>w q (Oq _ hq));exact⟨C++A2,.dp (T6.mono s h λp hp=>w p (Ot _ hp) λz=>n0.2.2 p hp p (b p z) rfl) x,P0 (O7 _) y⟩
def toDn:Ev->Qo D
 |.cl d=>if flat d then Qs d else Qn
 |.tm d=>if flat d then Qs d else Qn
 |.nw xs=>if Ui xs then Qs (.lst xs) else Qn
 |.dn d=>Qs d
def T8.toDn{K:Ou}{F A:Ql Xl}{H H':Hp}{r:Ev}{v:V}{d:D}(m:Ul H (A++F))(g:Tj H H')(h:T8 K F A H H' r v)(e:toDn r=Qs d):T8 K F A H H' (.dn d) v:=by
 cases r with
 |cl d0=>
  simp only[DL.toDn]at e;split at e
  .rename_i f;cases e;exact⟨[],Pl,λb hb=>(by cases hb),.flat f h⟩
  .cases e
 |tm d0=>
  simp only[DL.toDn]at e;split at e
  .rename_i f;cases e;exact⟨[],Pl,λb hb=>(by cases hb),.flat f (Rep.UC (m.mono g) f (Rep.mono (aZ _ _) h))⟩
  .cases e
 |nw xs=>
  simp only[DL.toDn]at e;split at e
  .rename_i f;cases e;obtain⟨p,vs,rfl,h1,h2,h3⟩:=h;exact⟨[p],by simp,λb hb=>by simp at hb;subst hb;exact h1,.lst h2 (TL.Zw f h3)⟩
  .cases e
 |dn d0=>cases e;exact h
abbrev DN:=Th->Qo (D×Ql Nat)
abbrev l5:=Th->Qo (Ql D×Ql Nat)
def Fi(H:Hp)(t:Th)(σ:L2.St)(I:Ql Nat)(b:Xl):Prop:=H b=Qn\/∃i∈I,∃xs,t[i]?=Qs (.own xs)/\σ[i]?=Qs (Qs (.ref b))
inductive dN(K:Ou)(F:List Xl)(f:DN)(σ:L2.St)(H:Hp)(Q:VK):Prop
 |mk (A t d I:_) (_:RS K F H A t σ) (_:f t=Qs (d,I)) (_:∀v H' B,Tj H H'->B.Nodup->(∀b∈B,Fi H t σ I b)->T6 K (ah (B++(A++F)) H') H' d v B->Q v H')
inductive dNs(K:Ou)(F:List Xl)(f:l5)(σ:L2.St)(H:Hp)(Q:List V->Hp->Prop):Prop
 |mk (A t ds I:_) (_:RS K F H A t σ) (_:f t=Qs (ds,I)) (_:∀vs H' B,Tj H H'->B.Nodup->(∀b∈B,Fi H t σ I b)->TL K (ah (B++(A++F)) H') H' ds vs B->Q vs H')
def TK.zeP{b:Xl}:∀{t:Th}{σ:L2.St}{A:Ql Xl},TK K H0 H t σ A->A.Nodup->∀{i j:Nat}{xs ys:Ql D},t[i]?=Qs (.own xs)->t[j]?=Qs (.own ys)->σ[i]?=Qs (Qs (.ref b))->σ[j]?=Qs (Qs (.ref b))->i=j:=by
 intro _ _ _ h
 induction h with
 |nil=>intro w0 i j xs ys e1 e2 s1 s2;simp at e1
 |@no _ _ _ _ r ih=>
  intro n i j xs ys e1 e2 s1 s2;cases i with
  |zero=>simp at e1
  |succ i=>
   cases j with
   |zero=>simp at e2
   |succ j=>exact congrArg (·+1) (ih n (i:=i) (j:=j) (xs:=xs) (ys:=ys) (by simpa using e1) (by simpa using e2) (by simpa using s1) (by simpa using s2))
 |@val _ _ _ _ _ _ r ih=>
  intro n i j xs ys e1 e2 s1 s2;cases i with
  |zero=>simp at e1
  |succ i=>
   cases j with
   |zero=>simp at e2
   |succ j=>exact congrArg (·+1) (ih n (i:=i) (j:=j) (xs:=xs) (ys:=ys) (by simpa using e1) (by simpa using e2) (by simpa using s1) (by simpa using s2))
 |@own _ _ _ _ _ _ _ _ r ih=>
  intro n i j xs ys e1 e2 s1 s2;cases i with
  |zero=>
   cases j with
   |zero=>exact rfl
   |succ j=>obtain⟨p,vs,a1,a2,_⟩:=r.Wm (i:=j) (ds:=ys) (by simpa using e2);simp at s1 s2;rw[a1]at s2;simp at s2;subst s1;subst s2;exact absurd a2 (OO.mp n).1
  |succ i=>
   cases j with
   |zero=>obtain⟨p,vs,a1,a2,_⟩:=r.Wm (i:=i) (ds:=xs) (by simpa using e1);simp at s1 s2;rw[a1]at s1;simp at s1;subst s1;subst s2;exact absurd a2 (OO.mp n).1
   |succ j=>exact congrArg (·+1) (ih (OO.mp n).2 (i:=i) (j:=j) (xs:=xs) (ys:=ys) (by simpa using e1) (by simpa using e2) (by simpa using s1) (by simpa using s2))
 |@dp _ _ _ _ _ _ _ r ih=>
  intro n i j xs ys e1 e2 s1 s2;cases i with
  |zero=>simp at e1
  |succ i=>
   cases j with
   |zero=>simp at e2
   |succ j=>exact congrArg (·+1) (ih (OG.mp n).2.1 (i:=i) (j:=j) (xs:=xs) (ys:=ys) (by simpa using e1) (by simpa using e2) (by simpa using s1) (by simpa using s2))
section
variable {fs:Ql DE}{fn:DN}{fns:l5}
def fH(f:DE):DN:=λt=>(f t).bind λr=>(toDn r).map λd=>(d,[])
def Bv(he:PE X a (dE X.K F fa)):PE X a (dN X.K F (fH fa)):=by
 refine PE.imp he ?_;rintro σ H Q ⟨A,t,d,I,R,e,h⟩;unfold fH at e;rcases e1:fa t with _|r
 .rw[e1]at e;cases e
 rw[e1]at e;simp only[Oz]at e;rcases e2:toDn r with _|d0
 .rw[e2]at e;cases e
 rw[e2]at e;cases e;refine⟨A,t,r,R,e1,λv H' gs q=>?_⟩;obtain⟨B,b1,b2,b3⟩:=q.toDn R.mu gs e2;exact h v H' B gs b1 (λb hb=>.inl (b2 b hb)) b3
def mO:l5:=λ_=>Qs ([],[])
def gn(f:DN)(g:l5):l5:=λt=>(f t).bind λq=>(g t).bind λw=>if q.2.all (λi=>!w.2.contains i) then Qs (q.1::w.1,q.2++w.2) else Qn
def Jl:PA X [] (dNs X.K F mO):=PA.imp gF λσ H Q ⟨A,t,rs,I,R,e,h⟩=>by cases e;exact h [] H [] (Tj.refl H) Pl (λb hb=>by cases hb) .nil
def Bu(ha:PE X a (dN X.K F fn))(hr:PA X es (dNs X.K F fns))(hs:OP (a::es) X.env=(Qf,eval a X.env)::OP es X.env:=by rfl):PA X (a::es) (dNs X.K F (gn fn fns)):=by
 refine PA.imp (gm ha hr hs) ?_;rintro σ H Q ⟨A,t,ds,I,R,e,h⟩;unfold gn at e;rcases e1:fn t with _|q1
 .rw[e1]at e;cases e
 rcases e2:fns t with _|q2
 .rw[e1,e2]at e;cases e
 obtain⟨d1,I1⟩:=q1;obtain⟨VW,I2⟩:=q2;rw[e1,e2]at e;simp only[Oz]at e;replace e:=Ve e;obtain⟨dj,e⟩:=e;cases e;have dj:∀i∈I1,i∉I2:=λi hi=>by have:=PF.mp dj i hi;simpa using this
 refine⟨A,t,d1,I1,R,e1,λv H1 B1 g1 n1 f1 r1=>⟨A,t,VW,I2,R.grow g1,e2,λvs H2 B2 g2 n2 f2 r2=>?_⟩⟩;have g:=g1.trans g2;have l1:=r1.lists;have l1':Ul H2 B1:=l1.mono g2;have l2:=r2.lists;have lA:=R.mu.mono g;refine h _ H2 (B1++B2) g (OG.mpr ⟨n1,n2,λx hx y hy e=>?_⟩) (λb hb=>?_) (.cons (T6.UC ((l1'.app l2).app lA) (aZ _ _) (T6.mono (cY g2) r1 λ_ _ _ w=>g2 _ _ w)) (TL.UC ((l1'.app l2).app lA) (aZ _ _) r2))
 .subst e;obtain⟨ws,hw⟩:=l1 x hx;rcases f2 x hy with z|⟨j,hj,ys,j1,j2⟩
  .rw[z]at hw;cases hw
  .rcases f1 x hx with z|⟨i,hi,xs,i1,i2⟩
   .obtain⟨p,us,a1,_,a3,_⟩:=R.rel.Wm j1;rw[a1]at j2;simp at j2;subst j2;rw[z]at a3;cases a3
   .have:=R.rel.zeP R.nd i1 j1 i2 j2;subst this;exact dj i hi hj
 .rcases Ow.mp hb with z|z
  .rcases f1 b z with w|⟨i,hi,w⟩
   .exact .inl w
   .exact .inr ⟨i,Ot _ hi,w⟩
  .rcases f2 b z with w|⟨i,hi,w⟩
   .exact .inl (Tj.free g1 w)
   .exact .inr ⟨i,Oq _ hi,w⟩
end
def TL.zdI{K:Ou}{H0 H:Hp}{d:D}{v:V}{C:Ql Xl}(q:T6 K H0 H d v C):∀{ds:Ql D}{vs:Ql V}{B:Ql Xl},TL K H0 H ds vs B->TL K H0 H (ds++[d]) (vs++[v]) (B++C)
 |_,_,_,.nil=>by have:=TL.cons q .nil;simpa using this
 |_,_,_,.cons h r=>by have:=TL.cons h (TL.zdI q r);simpa[Pm] using this
def fN(k:D->Th->Qo Th)(ft:DT)(fe:DE):Ql D->Th->Qo (Ql D)
 |[],_=>Qs []
 |d::ds,t=>(k d t).bind λt1=>(ft t1).bind λb=>if b then(fe t1).bind λr=>(toDn r).bind λd=>(fN k ft fe ds t1).map λxs=>d::xs else fN k ft fe ds t1
def jb(n:Nat)(cap:Ql Nat)(fs:DI)(k:D->Th->Qo Th)(ft:DT)(fe:DE):DE:=λt=>(fs t).bind λq=>(fZ t cap).bind λc=>if q.2.length<=50000 then(fN k ft fe q.2 (OR n Sl.no++c.2.map Sl.val)).map λxs=>.dn (.lst xs) else Qn
def y6{k:D->Th->Qo Th}{ft:DT}{fe:DE}:∀{ds:Ql D}{t:Th}{xs:Ql D},fN k ft fe ds t=Qs xs->xs.length<=ds.length
 |[],t,xs,e=>by cases e;simp
 |d::ds,t,xs,e=>by
  unfold fN at e;refine aB e λt1 e1 e=>?_;have e:((ft t1).bind λb=>if b then(fe t1).bind λr=>(toDn r).bind λd=>(fN k ft fe ds t1).map λxs=>d::xs else fN k ft fe ds t1)=Qs xs:=e;refine aB e λb e2 e=>?_;cases b with
  |false=>have:=y6 (ds:=ds) (t:=t1) e;simp;lia
  |true=>
   have e:((fe t1).bind λr=>(toDn r).bind λd=>(fN k ft fe ds t1).map λxs=>d::xs)=Qs xs:=e;refine aB e λr e3 e=>?_;have e:((toDn r).bind λd=>(fN k ft fe ds t1).map λxs=>d::xs)=Qs xs:=e;refine aB e λd0 e5 e=>?_;have e:((fN k ft fe ds t1).map λxs=>d0::xs)=Qs xs:=e;cases e4:fN k ft fe ds t1 with
   |none=>rw[e4]at e;cases e
   |some ys=>rw[e4]at e;cases e;have:=y6 e4;simp;lia
inductive CN(K:Ou)(kt:D->Th->Option Th)(ft:DT)(fe:DE)(ds xs:List D)(H1:Hp)(P:List Xl)(p:Xl)(Good:List Xl->Hp->Prop)(i m:Nat)(σ:L2.St)(H:Hp):Prop
 |mk (th:Th) (acc rest:List D) (vs:List V) (B:List Xl) (hm:i+m=ds.length) (R:RS K P H [] th σ) (ec:fN kt ft fe (ds.drop i) th=Qs rest) (ex:acc++rest=xs) (hv:H p=Qs (.lst vs)) (hr:TL K (ah P H) H acc vs B) (nd:B.Nodup) (np:p∉B) (fr:∀b∈B,H1 b=Qn) (sm:Tj H1 H) (gg:Good P H)
def CN.step{xs:Ql D}{P:Ql Xl}{Good:Ql Xl->Hp->Prop}{g:TG}{m:Nat}(src:Src K ds J Good)(hk:cX K P g kt)(hp:p∈P)(hn:H1 p=Qn)(hx:xs.length<=50000) (c:CN K kt ft fe ds xs H1 P p Good i (m+1) σ H):J.go i H/\∃N:L2.St->Hp->Prop,(∀σ2 H2,N σ2 H2->∃m',m'<m+1/\CN K kt ft fe ds xs H1 P p Good (i+1) m' σ2 H2)/\∀x H2,J.Vw i H x H2->g x σ H2 λσ2 H3=>∃F',dT K F' ft σ2 H3 λb H4=>
   if b=Qt then ∃F',dE K F' fe σ2 H4 λv H5=>∃vs,H5 p=Qs (.lst vs)/\vs.length<O3/\N σ2 (upd H5 p (.lst (vs++[v]))) else N σ2 H4:=by
 obtain⟨th,acc,rest,vs,B,hm,R,ec,ex,hv,hr,nd,np,fr,sm,gg⟩:=c;have V2:i<ds.length:=by lia
 have Yb:i+1+m=ds.length:=by lia
 refine⟨src.go _ _ i gg V2,CN K kt ft fe ds xs H1 P p Good (i+1) m,λ_ _ q=>⟨m,PB m,q⟩,λx H2 y=>?_⟩;obtain⟨Uq,d,hd,rd⟩:=src.Vw _ _ i x H2 gg R.mu y V2;rw[yS V2 hd]at ec;refine aB ec λt1 k1 ec=>?_;refine aB ec λbb k2 ec=>?_;refine hk σ H2 [] th t1 d x _ (R.grow Uq) rd k1 λσ2 A2 Vp R2=>?_;cases wU R2 Vp;refine⟨P,[],t1,bb,R2,k2,λH3 Xr=>?_⟩;have s3:=Uq.trans Xr;have R3:=R2.grow Xr;clear R R2 Uq Xr Vp k1 k2 y rd V2 hm;cases bb with
 |false=>exact oW ⟨t1,acc,rest,vs,B,Yb,R3,ec,ex,s3 _ _ hv,TL.mono (cY s3) hr λp _ o w=>s3 _ _ w,nd,np,fr,sm.trans s3,src.keep _ _ _ _ gg (cY s3)⟩
 |true=>
  refine aB (show(fe t1).bind _=Qs rest from ec) λre k3 ec=>?_;refine aB ec λde k5 ec=>?_;refine sT ec λys k4 ec=>?_;subst ec;refine oV ⟨P,[],t1,re,R3,k3,λv H4 XO q4=>⟨vs,XO _ _ (s3 _ _ hv),zD hr.length ex hx,?_⟩⟩;have s4:=s3.trans XO;have hu:Tj (ah P H4) (ah P (upd H4 p (.lst (vs++[v])))):=tM hp;have s5:=(cY s4).trans hu;obtain⟨B4,n4,f4,r4⟩:=q4.toDn R3.mu XO k5;have nD4:p∉B4:=λz=>by cases(f4 _ z).symm.trans (s3 _ _ hv)
  refine⟨t1,acc++[de],ys,vs++[v],B++B4,Yb,RS.Zm (R3.grow XO) hp,k4,by rw[Pm];exact ex,bB,?_,?_,?_,?_,AI hn sm s4,src.keep _ _ _ _ gg s5⟩
  .refine TL.zdI (T6.mono hu (T6.UC (R3.mu.mono XO) (aZ _ _) r4) λb hb o w=>?_) (TL.mono s5 hr λb hb o w=>?_)
   .rw[aS (λz:b=p=>nD4 (z▸hb))];exact w
   .rw[aS (λz:b=p=>np (z▸hb))];exact s4 _ _ w
  .refine OG.mpr ⟨nd,n4,λx hx y hy e=>?_⟩;subst e;obtain⟨us,w⟩:=hr.lists x hx;have:=s3 _ _ w;rw[f4 x hy]at this;cases this
  .exact λz=>(Ow.mp z).elim np nD4
  .exact λb hb=>(Ow.mp hb).elim (fr b) λz=>Tj.free (sm.trans s3) (f4 b z)
def FY{fs:DI}{g:TG}(hk:∀F',cX X.K F' g kt) (h:dE X.K F (jb n cap fs kt ft fe) σ H Q):mi n cap (dI X.K F fs) g (λσ H Q=>∃F',dT X.K F' ft σ H Q) (λσ H Q=>∃F',dE X.K F' fe σ H Q) σ H Q:=by
 obtain⟨A,t,r,R,e,h⟩:=h;refine aB e λq e1 e=>?_;refine aB e λc e2 e=>?_;obtain⟨b,ds⟩:=q;obtain⟨c,Z2⟩:=c;refine bW e λhlen e=>?_;refine sT e λxs e3 e=>?_;subst e;obtain⟨Z1,YJ,YI⟩:=ug R e2;refine⟨A,t,b,ds,R,e1,λJ H1 Good gs src gd p hD=>?_⟩;have YQ:Ul H1 (A++F):=R.mu.mono gs;refine⟨CN X.K kt ft fe ds xs H1 (p::Vd (b&&c) A F) p Good,⟨ds.length,⟨_,[],xs,[],[],QM _,RS.block YQ hD tO Dm gs YJ YI,e3,rfl,bB,.nil,Pl,Rr,λ_ z=>(Rr z).elim,dX hD,src.keep _ _ _ _ gd ((bf H1 Dp).trans (kB hD))⟩⟩,λi m σ' H' c'=>?_⟩;cases m with
 |succ m=>exact .inr (c'.step src (hk _) (Ox ..) hD (Pr (y6 e3) hlen))
 |zero=>
  obtain⟨th,acc,rest,vs,B,hm,_,ec,ex,hv,hr,nd,np,fr,sm,gg⟩:=c';cases hm;rw[Qy]at ec;cases ec;rw[Po]at ex;subst ex;refine .inl ⟨src.stop _ _ gg,h _ H' (gs.trans sm) ⟨p::B,OO.mpr ⟨np,nd⟩,λx hx=>?_,.lst hv (TL.UC (λq hq=>?_) (aZ _ _) hr)⟩⟩
  .rcases OC.mp hx with rfl|z
   .exact Tj.free gs hD
   .exact Tj.free gs (fr x z)
  .rcases Ow.mp hq with z|z
   .rcases OC.mp z with rfl|z
    .exact⟨mL vs,hv⟩
    .exact hr.lists q z
   .obtain⟨us,w⟩:=YQ q z;exact⟨us,sm _ _ w⟩
def JG{fs:DI}{g:TG}(S:VS X scope)(hc:X.calm=Qt)(hi:PI X tg iter (dI X.K F fs)) (hN:N'.length=n+cap.length) (Vo:∀(k:Nat) (j:Nat),cap[k]?=Qs j->∃x,N'[n+k]?=Qs x/\X.N[j]?=Qs x/\(x,Pq)∈scope.names) (hg:∀C s₃ H₃ fp pins,PG (bC X N' scope C s₃ H₃ fp pins) tg g) (hk:∀F',cX X.K F' g kt) (ht:∀C s₃ H₃ fp pins F',Vy (bC X N' scope C s₃ H₃ fp pins) ifs (dT X.K F' ft)) (he:∀C s₃ H₃ fp pins F',PE (bC X N' scope C s₃ H₃ fp pins) elt (dE X.K F' fe)) (hs:∀x,foldedSetIterable iter X.env x=pure x:=by intro _;rfl):PE X (.ListComp elt [⟨tg,iter,ifs,0⟩] scope pos) (dE X.K F (jb n cap fs kt ft fe)):=PE.imp (wJ (g:=g) S hc hi hN Vo hg (λC s₃ H₃ fp pins VL s σ H Q I ⟨F',q⟩=>ht C s₃ H₃ fp pins F' VL s σ H Q I q) (λC s₃ H₃ fp pins VL s σ H Q I ⟨F',q⟩=>he C s₃ H₃ fp pins F' VL s σ H Q I q) hs) λ_ _ _ h=>FY hk h
def BG{fs:DI}{g:TG}(n:Nat)(cap:Ql Nat)(N':Ql Str)(hc:X.calm=Qt)(hi:PI X tg iter (dI X.K F fs)) (hg:∀C s₃ H₃ fp pins,PG (bC X N' scope C s₃ H₃ fp pins) tg g) (hk:∀F',cX X.K F' g kt) (ht:∀C s₃ H₃ fp pins F',Vy (bC X N' scope C s₃ H₃ fp pins) ifs (dT X.K F' ft)) (he:∀C s₃ H₃ fp pins F',PE (bC X N' scope C s₃ H₃ fp pins) elt (dE X.K F' fe)) (W7:scope.kind=.function:=by rfl) (W8:lS scope.names X.env.kindOf=Qt:=by rfl) (hN:N'.length=n+cap.length:=by rfl) (Vo:jR N' X.N n scope.names 0 cap=Qt:=by rfl) (hs:∀x,foldedSetIterable iter X.env x=pure x:=by intro _;rfl):PE X (.ListComp elt [⟨tg,iter,ifs,0⟩] scope pos) (dE X.K F (jb n cap fs kt ft fe)):=JG (uc W7 W8) hc hi hN (λk j e=>by simpa using pO Vo k j e) hg hk ht he hs
section
variable {fs:Ql DE} 
def xv:Ev->Ev->Qo Ev:=λr1 r2=>match r1,r2.d with
 |.nw xs,.int k=>if xs.length<=100&&decide (-1000000<=k/\k<=1000) then Qs (.nw (OR k.toNat xs).flatten) else Qn
 |_,_=>Qn
def Ts.rep{K:Ou}{H:Hp}{ds:Ql D}{vs:Ql V}(r:Ts K H ds vs):∀k:Nat,Ts K H (OR k ds).flatten (OR k vs).flatten
 |0=>by simpa using .nil
 |k+1=>by simpa[PZ] using r.app (Ts.rep r k)
def fW:Vh X F (binaryOp .Mult) xv:=by
 intro pins s σ H0 H A x y v u Q r1 r2 r I m g0 rx ry q1 q2 e hq;unfold xv at e;split at e
 .rename_i xs k z;split at e
  .rename_i ok;simp only[OH,UX]at ok;cases e;have p2:=q2.full;rw[z]at p2;cases cI p2;obtain⟨p,vs,rfl,h1,h2,h3⟩:=q1;refine J2 pins s σ H _ _ v u Q I rx ry ⟨p,k,vs,rfl,rfl,h2,by lia,by lia,?_,λl hl=>hq _ _ (dX hl) ⟨l,_,rfl,Tj.free g0 hl,bB,Ts.mono (kB hl) (Ts.rep (Ts.mono (bf H λa z=>Ov _ z) h3) _)⟩⟩;refine W4 ?_;rw[h3.length];have h5:k.toNat<=1000:=by lia
   exact Pr (SY ok.1 h5) (by decide)
  .cases e
 .cases e
end
def kU(a b c:Int):Bool:=Builtin.Range.small a b c&&decide (c≠0/\c.natAbs<1000000/\0<=Builtin.Range.rangeSize a b c)
def rP(a b c:Int):Ql D:=(Pk (Builtin.Range.rangeSize a b c).toNat).map λi=>.int (a+(i:Nat)*c)
def dh(k:Nat)(N:Ql Str)(g:DS):Ql D->Qo Ev:=λds=>if ds.length=k then(g (mm N ds)).bind dg else Qn
def Lp{k:Nat}(e:dh k N g ds=Qs r):ds.length=k:=by
 unfold dh at e;split at e
 .assumption
 .cases e
def Ln{k:Nat}(e:dh k N g ds=Qs r):∃o,g (mm N ds)=Qs o/\dg o=Qs r:=by
 unfold dh at e;split at e
 .cases e1:g (mm N ds) with
  |none=>rw[e1]at e;cases e
  |some o=>rw[e1]at e;exact⟨o,rfl,e⟩
 .cases e
section
variable {X1:Pos}{fs:DI}{g:TG}{y:Str}
def Nt (up:∀{σ:L2.St}{H:Hp}{Q:VK},dE X.K F fc σ H Q->mi n cap (dI X.K F fs) g (λσ H Q=>∃F',dT X.K F' ft σ H Q) (λσ H Q=>∃F',dE X.K F' fe σ H Q) σ H Q)(hc:X.calm=Qt)(hi:PI X tg iter (dI X.K F fs)) (hg:∀C s₃ H₃ fp pins,PG (bC X N' scope C s₃ H₃ fp pins) tg g) (ht:∀C s₃ H₃ fp pins F',Vy (bC X N' scope C s₃ H₃ fp pins) ifs (dT X.K F' ft)) (he:∀C s₃ H₃ fp pins F',PE (bC X N' scope C s₃ H₃ fp pins) elt (dE X.K F' fe)) (ZT:X.N.Nodup) (ZQ:X.N[i]?=Qs y) (hy:Loc X.env.scope y) (Wh:swapsWith (.ListComp elt [⟨tg,iter,ifs,0⟩] scope pos) (Qs (.Name y py)) X1.line X.env=pure Qt) (hf:X.fn y=Qt\/X.env.scope.names.lookup y=Qs .local) (W7:scope.kind=.function) (W8:lS scope.names X.env.kindOf=Qt) (hN:N'.length=n+cap.length) (Vo:jR N' X.N n scope.names 0 cap=Qt) (hs:∀x,foldedSetIterable iter X.env x=pure x):PS X (.Assign [.Name y py] (.ListComp elt [⟨tg,iter,ifs,0⟩] scope pos) X1) (dS X.K F (aN i fc)):=by
 refine PS.imp (IU (g:=g) (wi:=dI X.K F fs) (tt:=λσ H Q=>∃F',dT X.K F' ft σ H Q) (te:=λσ H Q=>∃F',dE X.K F' fe σ H Q) (uc W7 W8) hc hi hN (λk j e=>by simpa using pO Vo k j e) hg (λC s₃ H₃ fp pins VL s σ H Q I ⟨F',q⟩=>ht C s₃ H₃ fp pins F' VL s σ H Q I q) (λC s₃ H₃ fp pins VL s σ H Q I ⟨F',q⟩=>he C s₃ H₃ fp pins F' VL s σ H Q I q) ZT ZQ hy Wh hf hs) ?_;rintro E σ H ⟨A,t,o,R,e,h⟩;unfold aN at e;refine aB e λr1 e1 e=>?_;have e:(cR t i r1).map Out.nx=Qs o:=e;rcases e2:cR t i r1 with _|t'
 .rw[e2]at e;cases e
 rw[e2]at e;cases e;refine up ⟨A,t,r1,R,e1,λv H' gs q=>?_⟩;obtain⟨A',g',R'⟩:=R.put gs q e2;exact h _ _ _ g' R'
def v8(n:Nat)(cap:Ql Nat)(N':Ql Str)(ZT:X.N.Nodup)(ZQ:X.N[i]?=Qs y)(hy:Loc X.env.scope y)(hc:X.calm=Qt)(hi:PI X tg iter (dI X.K F fs)) (hg:∀C s₃ H₃ fp pins,PG (bC X N' scope C s₃ H₃ fp pins) tg g) (hk:∀F',cX X.K F' g kt) (ht:∀C s₃ H₃ fp pins F',Vy (bC X N' scope C s₃ H₃ fp pins) ifs (dT X.K F' ft)) (he:∀C s₃ H₃ fp pins F',PE (bC X N' scope C s₃ H₃ fp pins) elt (dE X.K F' fe)) (Wh:swapsWith (.ListComp elt [⟨tg,iter,ifs,0⟩] scope pos) (Qs (.Name y py)) X1.line X.env=pure Qt:=by rfl) (hf:X.fn y=Qt\/X.env.scope.names.lookup y=Qs .local:=by first|exact .inl rfl|exact .inr rfl) (W7:scope.kind=.function:=by rfl) (W8:lS scope.names X.env.kindOf=Qt:=by rfl) (hN:N'.length=n+cap.length:=by rfl) (Vo:jR N' X.N n scope.names 0 cap=Qt:=by rfl) (hs:∀x,foldedSetIterable iter X.env x=pure x:=by intro _;rfl):PS X (.Assign [.Name y py] (.ListComp elt [⟨tg,iter,ifs,0⟩] scope pos) X1) (dS X.K F (aN i (bE n cap fs kt ft fe))):=Nt (λh=>Ag hk h) hc hi hg ht he ZT ZQ hy Wh hf W7 W8 hN Vo hs
end
section
variable {fs:Ql DE} 
def km:Ev->Ev->Qo Ev:=λr1 r2=>match r2.d with
 |.lst ds=>if aM r1.d&&ds.all (λd=>aM d&&bT 0 d r1.d) then Qs (.cl (.bl (!ds.any λd=>cq d r1.d))) else Qn
 |.tup ds=>if aM r1.d&&ds.all (λd=>aM d&&bT 0 d r1.d) then Qs (.cl (.bl (!ds.any λd=>cq d r1.d))) else Qn
 |_=>Qn
def wN:Vh X F (compareOp .NotIn) km:=by
 intro pins s σ H0 H A x y v u Q r1 r2 r I m g0 rx ry q1 q2 e hq;unfold km at e;have p1:=q1.full;have p2:=q2.full;split at e
 .rename_i ds z;rw[z]at p2;refine bW e λc e=>?_;rw[OH]at c;cases e;cases p2 with
  |@lst _ p vs h1 h2=>
   obtain⟨a,b⟩:=xJ p1 c.1 h2 c.2;exact BM pins s σ H x _ v u Q I rx ry ⟨p,vs,rfl,.inl h1,AH p1 c.1,a,by
    show Q (.bl (!jH x vs)) H;rw[b];exact hq _ H (Tj.refl H) (.bl _)⟩
 .rename_i ds z;rw[z]at p2;refine bW e λc e=>?_;rw[OH]at c;cases e;cases p2 with
  |@tup _ p vs h1 h2=>
   obtain⟨a,b⟩:=xJ p1 c.1 h2 c.2;exact BM pins s σ H x _ v u Q I rx ry ⟨p,vs,rfl,.inr h1,AH p1 c.1,a,by
    show Q (.bl (!jH x vs)) H;rw[b];exact hq _ H (Tj.refl H) (.bl _)⟩
 .cases e
def dQ:Int->Ql Int->Int
 |m,[]=>m
 |m,n::r=>dQ (if n<m then n else m) r
def xl:∀(r:Ql Int) (m:Int),dQ m r∈m::r/\∀a∈m::r,dQ m r<=a
 |[],m=>⟨by simp[dQ],by simp[dQ]⟩
 |n::r,m=>by
  obtain⟨h1,h2⟩:=xl r (if n<m then n else m);have h3:=h2 (if n<m then n else m) (Ox ..);have k1:(if n<m then n else m)<=m:=by split<;>lia
  have k2:(if n<m then n else m)<=n:=by split<;>lia
  refine⟨?_,λa ha=>?_⟩
  .show dQ (if n<m then n else m) r∈m::n::r;rcases OC.mp h1 with z|z
   .rw[z];split<;>simp
   .simp[z]
  .show dQ (if n<m then n else m) r<=a;rcases OC.mp ha with z|z
   .subst z;lia
   .rcases OC.mp z with w|w
    .subst w;lia
    .exact h2 a (Ov _ w)
def K7{ys:Array (Int×Tok)}(hj:j<ys.size):numAt ys j∈ys.toList.map (·.1):=by rw[numAt_eq];exact getD_mem (by simpa using hj)
def NL(hc:X.calm=Qt):gc X (.builtin "min") (λxs H Q=>∃(p:Xl) (ns:Ql Int) (M:Int),xs=[.ref p]/\TZ X.K H p (ns.map V.int)/\M∈ns/\(∀a∈ns,M<=a)/\Q (.int M) H):=by
 intro pins s σ H xs us Q I r h;obtain⟨p,ns,M,rfl,hs,hm,hle,q⟩:=h;obtain⟨u,rfl,ru⟩:=j3 r;cases ru;obtain⟨TH,rv,pl,_⟩:=I.list hs;have hi:IntsAre TH ns:=tL rv;obtain⟨ys,e⟩:=hi.allInts.items;have hl:s.heap.IsList p (intItems ys):=by rw[<-e];exact PlainL.VE pl
 have X9:ys.toList.map (·.1)=ns:=by
  have e2:numsOf (intItems ys).toList=ns:=by rw[<-e];exact hi.numsOf
  rw[<-nums_intItems];exact e2
 have hsz:0<ys.size:=by have:0<ns.length:=Ra hm;rw[<-X9]at this;simpa using this
 refine min_intList (I.ok.hd hc) hl hsz λv h' tk hv hk=>?_;obtain⟨t,rfl⟩:=intItems_at hv;obtain⟨h1,h2⟩:=argBest_lt (numAt ys) (ys.size-1);refine⟨.int M,H,I.kept (t':=tk) hk,⟨t,?_⟩,q⟩;have a1:=hle _ (X9▸K7 (ys:=ys) (j:=argBest (λi j=>decide (numAt ys i<numAt ys j)) (ys.size-1)) (by lia));rw[<-X9]at hm;obtain⟨j,hj,ej⟩:=mem_getD hm;have ZP:j<ys.size:=by simpa using hj
 have a2:=h2 j (by lia);rw[numAt_eq ys j,ej]at a2;congr 1;lia
end
section
variable {fs:Ql DE} 
def lF(f:Int->Ql Int->Int):Ql Ev->Qo Ev:=λrs=>match rs with
 |[r]=>(match r.d with
  |.lst ds=>(match dW ds with
   |some (n::ns)=>Qs (.cl (.int (f n ns)))
   |_=>Qn)
  |_=>Qn)
 |_=>Qn
def NF{id':String}{f:Int->Ql Int->Int}(h:∀n ns,gc X (.builtin id') (λxs H Q=>∃p:Xl,xs=[.ref p]/\TZ X.K H p ((n::ns).map V.int)/\Q (.int (f n ns)) H)):Vt X F (.builtin id') (lF f):=by
 intro pins s σ H0 H A xs us Q rs r I m g v q ek hq;unfold lF at ek;split at ek
 case h_2=>cases ek
 rename_i r0;cases q with
 |@cons _ y _ ys q1 q2=>
  cases q2;split at ek
  case h_2=>cases ek
  rename_i ds z;split at ek
  case h_2=>cases ek
  rename_i n ns z2;cases ek;have p:=q1.full;rw[z,lG z2]at p;cases p with
  |@lst _ l ws h1 h2=>rw[iO h2]at h1;exact h n ns pins s σ H _ us Q I v ⟨l,rfl,h1,hq _ H (Tj.refl H) (.int _)⟩
def ND(hc:X.calm=Qt):Vt X F (.builtin "min") (lF dQ):=NF λn ns pins s σ H xs us Q I v ⟨p,e,h1,q⟩=>NL hc pins s σ H xs us Q I v ⟨p,n::ns,dQ n ns,e,h1,(xl ns n).1,(xl ns n).2,q⟩
def NT:bootBuiltins "list"=Qs (.type "list"):=by decide+kernel
def z6:∀{xs:Ql V}{us:Ql OM},xs.length=us.length->(∀(i:Nat) (x:V) (u:OM),xs[i]?=Qs x->us[i]?=Qs u->RelV x u)->Vals xs us
 |[],[],_,_=>.nil
 |[],_::_,h,_=>by simp at h
 |_::_,[],h,_=>by simp at h
 |x::xs,u::us,h,k=>.cons (k 0 x u rfl rfl) (z6 (by simpa using h) λi y w e1 e2=>k (i+1) y w (by simpa using e1) (by simpa using e2))
def Mj{k:Int}{acc:Array OM}(h:ItemsOf (λi v=>∃t,v=.int (lo+i*k) t) acc n):Vals ((Pk n).map λi=>V.int (lo+(i:Nat)*k)) acc.toList:=by
 refine z6 (by simp[h.1]) λi x u e1 e2=>?_;obtain⟨t,rfl⟩:=h.2 i u (by simpa using e2);have hi:i<n:=by
  cases Nat.lt_or_ge i n with
  |inl z=>exact z
  |inr z=>rw[O1,Su (by simpa using z)]at e1;cases e1
 rw[O1,Qu hi]at e1;simp at e1;subst e1;exact⟨t,rfl⟩
def xi{hi k:Int}{t u v:Tok}{tk:Nat}(hc:X.calm=Qt)(I:L2.Inv X pins σ H s)(ok:kU lo hi k=Qt)(sz:Builtin.Range.rangeSize lo hi k<=50000) (q:∀p,H p=Qn->Q (.ref p) (upd H p (.lst ((Pk (Builtin.Range.rangeSize lo hi k).toNat).map λi=>V.int (lo+(i:Nat)*k))))):wpAny (model X.prog X.w) X.A (call (.type "list") [.ref s.heap.objs.size]) (EP X pins σ Q) X.xe {s with heap:=s.heap.push {cls:=.type "range",data:=.fields #[.int lo t,.int hi u,.int k v]},toks:=tk}:=by
 simp only[kU,OH,UX]at ok;have I1:L2.Inv X pins σ H {s with heap:=s.heap.push {cls:=.type "range",data:=.fields #[.int lo t,.int hi u,.int k v]},toks:=tk}:=I.kept λb o e=>OA _ e;have en:Builtin.Range.rangeSize lo hi k=(((Builtin.Range.rangeSize lo hi k).toNat:Nat):Int):=by lia
 refine call_list_range (I.ok.hd hc) (IsRange.new ..) ok.1 en (by lia) λh' tk' acc c' hk hS zgn=>?_;refine⟨.ref _,_,I1.laid (o:=HO.lst ((Pk (Builtin.Range.rangeSize lo hi k).toNat).map λi=>V.int (lo+(i:Nat)*k))) (t':=tk') hk (OL _) ⟨?_,acc.toList,c',Mj zgn,by simpa using hS⟩,rfl,q _ I1.fresh⟩;refine W4 ?_;rw[OI,RZ];lia
def rY:Ql D->Qo (Int×Int×Int)
 |[.int n]=>Qs (0,n,1)
 |[.int i,.int j]=>Qs (i,j,1)
 |[.int i,.int j,.int k]=>Qs (i,j,k)
 |_=>Qn
def jP(g:DA):DE:=λt=>(g t).bind λrs=>(rY (rs.map Ev.d)).bind λq=>if kU q.1 q.2.1 q.2.2&&decide (Builtin.Range.rangeSize q.1 q.2.1 q.2.2<=50000) then Qs (.nw (rP q.1 q.2.1 q.2.2)) else Qn
def wB (hc:X.calm=Qt)(hgl:Gl X "list")(hml:X.mg "list"=Qn)(XM:Gl X "range")(hmr:X.mg "range"=Qn)(ha:PA X (a::es) (dA X.K F ga)) (UT:OP [.Call (.Name "range" p1) (a::es) [] p2] X.env=[(Qf,eval (.Call (.Name "range" p1) (a::es) [] p2) X.env)]:=by rfl) (zfu:OP (a::es) X.env=(Qf,eval a X.env)::OP es X.env:=by rfl) (ZJ:(QJ p2 (OP es X.env)).any (·.1)=Qf:=by rfl):PE X (.Call (.Name "list" p0) [.Call (.Name "range" p1) (a::es) [] p2] [] pos) (dE X.K F (jP ga)):=by
 intro pins s σ H Q I h;obtain⟨A,t,r,R,e,h⟩:=h;unfold jP at e;rcases e1:ga t with _|rs
 .rw[e1]at e;cases e
 rw[e1]at e;simp only[Oz]at e;rcases e2:rY (rs.map Ev.d) with _|q
 .rw[e2]at e;cases e
 rw[e2]at e;simp only[Oz]at e;replace e:=Ve e;obtain⟨ok,e⟩:=e;simp only[OH,UX]at ok;cases e;have mk:∀(H1:Hp),Tj H H1->∀p,H1 p=Qn->Q (.ref p) (upd H1 p (.lst ((Pk (Builtin.Range.rangeSize q.1 q.2.1 q.2.2).toNat).map λi=>V.int (q.1+(i:Nat)*q.2.2)))):=λH1 g1 p hp=>by
  refine h _ _ (g1.trans (dX hp)) ⟨p,_,rfl,Tj.free g1 hp,bB,?_⟩;have e3:rP q.1 q.2.1 q.2.2=((Pk (Builtin.Range.rangeSize q.1 q.2.1 q.2.2).toNat).map λi=>q.1+(i:Nat)*q.2.2).map D.int:=by simp[rP]
  have e4:((Pk (Builtin.Range.rangeSize q.1 q.2.1 q.2.2).toNat).map λi=>V.int (q.1+(i:Nat)*q.2.2))=((Pk (Builtin.Range.rangeSize q.1 q.2.1 q.2.2).toNat).map λi=>q.1+(i:Nat)*q.2.2).map V.int:=by simp
  rw[e3,e4];exact Ts.ints _
 refine wpAny_Call_Name_kw (iR I hgl hml NT (PyProof.Rows.callWith_type1 ?_ (by rw[UT];rfl) rfl));rw[UT];show wpAny _ _ (spliced ((Qf,eval (.Call (.Name "range" p1) (a::es) [] p2) X.env)::QJ pos (OP [] X.env))) _ _ s;refine Calls.spliced_cons (Call_ (iR I XM hmr boot_range (PyProof.Rows.callWith_type1 (aE (ha p2 pins s σ H (λvs H1=>Tj H H1/\UQ X.K F A H H1 rs vs) I ⟨A,t,rs,R,e1,λvs H1 g1 q1=>⟨g1,q1⟩⟩) λus s1 ⟨vs,H1,I1,r1,g1,q1⟩=>?_) zfu ZJ)));have full:=q1.full;obtain⟨q0,qh,qk⟩:=q;unfold rY at e2;split at e2
 .rename_i n z;cases e2;rw[z]at full;have ev:=iO (ns:=[qh]) full;subst ev;obtain⟨u,rfl,ru⟩:=r1.one;obtain⟨t1,rfl⟩:=ru;exact call_range_1 (Calls.spliced_nil (xi hc I1 ok.1 ok.2 (mk H1 g1)))
 .rename_i i j z;cases e2;rw[z]at full;have ev:=iO (ns:=[q0,qh]) full;subst ev;obtain⟨u,w,rfl,ru,VI⟩:=r1.two;obtain⟨t1,rfl⟩:=ru;obtain⟨t2,rfl⟩:=VI;exact call_range_2 (Calls.spliced_nil (xi hc I1 ok.1 ok.2 (mk H1 g1)))
 .rename_i i j k z;cases e2;rw[z]at full;have ev:=iO (ns:=[q0,qh,qk]) full;subst ev;cases r1 with
  |cons r rr=>
   cases rr with
   |cons r' rr=>
    cases rr with
    |cons r'' rr=>cases rr;obtain⟨t1,rfl⟩:=r;obtain⟨t2,rfl⟩:=r';obtain⟨t3,rfl⟩:=r'';have ok':=ok.1;simp only[kU,OH,UX]at ok';have lg:qk.natAbs.log2<9000:=Pa (Cw (k:=20) (by have:=ok'.2.2.1;lia)) (by decide);exact call_range_3 ok'.2.1 (Calls.spliced_nil (xi hc I1 ok.1 ok.2 (mk H1 g1))) (.inl (PyProof.noPylong_of_log2 lg))
 .cases e2
end
section
variable {fs:Ql DE} 
def Dv:Fd X (oj X.K):=by
 intro pins s σ H o i ov iv Q I ro ri h;obtain⟨p,xs,k,z,rfl,rfl,hq,he,q⟩:=h;cases ro;obtain⟨t,rfl⟩:=ri;obtain⟨TH,r,pl,hz⟩:=I.list hq;obtain⟨j,h1,h2,h3,h4,h5⟩:=zx he;obtain⟨w,ew,VI⟩:=r.get h2;have hl:=r.length;have hn:=lu;have fin:EP X pins σ Q w s:=⟨z,H,I,VI,q⟩;cases Int.lt_or_le k 0 with
 |inr h0=>have hj:k.toNat=j:=O4 (by rw[<-seqIndex_of h0 h5];exact h1);exact wpAny_getItem_list (PlainL.VE pl) h0 (by lia) (by rw[hj];simpa using ew) fin
 |inl h0=>
  have hj:(k+(TH.toArray.size:Int)).toNat=j:=by rw[OV,<-hl];exact O4 (by rw[<-seqIndex_neg h0 h4];exact h1)
  exact wpAny_getItem_list_neg (PlainL.VE pl) h0 (by rw[OV];lia) (by lia) (by rw[hj];simpa using ew) fin
end
def MR:Sl->Sl
 |.own xs=>.val (.lst xs)
 |.dp d=>.val d
 |s=>s
def lI(t:Th)(i:Nat):Th:=match t[i]? with
 |some s=>t.set i (MR s)
 |none=>t
def tY(s:Sl)(t:Th)(i:Nat):lI (s::t) (i+1)=s::lI t i:=by unfold lI;simp only[Qp];cases t[i]?<;>simp
def TK.give{K:Ou}{H0 H:Hp}:∀{t:Th}{σ:L2.St}{A:Ql Xl} (i:Nat),TK K H0 H t σ A->A.Nodup->∃(B A':Ql Xl),A'.Sublist A/\(∀b∈B,b∈A/\b∉A')/\∀H1,Tj H0 H1->(∀b∈B,∀o,H b=Qs o->H1 b=Qs o)->TK K H1 H (lI t i) σ A'
 |_,_,_,i,.nil,_=>⟨[],[],O7 _,λb hb=>(by cases hb),λH1 e _=>by simpa[lI] using TK.nil⟩
 |_,_,A,0,.no r,n=>⟨[],A,O7 _,λb hb=>(by cases hb),λH1 e _=>.no (TK.mono e r λ_ _ _ h=>h)⟩
 |_,_,A,0,.val h r,n=>⟨[],A,O7 _,λb hb=>(by cases hb),λH1 e _=>.val (Rep.mono e h) (TK.mono e r λ_ _ _ h=>h)⟩
 |_,_,_,0,.own (p:=p) (A:=A) h1 h2 r,n=>by
  have n0:=OO.mp n;refine⟨[p],A,QL _ _,λb hb=>?_,λH1 e k=>?_⟩
  .simp at hb;subst hb;exact⟨Ox ..,n0.1⟩
  .exact .val (.lst (TZ.of (k p (by simp) _ h1)) (Ts.mono e h2)) (TK.mono e r λ_ _ _ h=>h)
 |_,_,_,0,.dp (B:=B) (A:=A) h r,n=>by have n0:=OG.mp n;refine⟨B,A,QZ _ _,λb hb=>⟨Ot _ hb,λz=>n0.2.2 b hb b z rfl⟩,λH1 e k=>?_⟩;exact .val (h.rep e k) (TK.mono e r λ_ _ _ h=>h)
 |_,_,_,i+1,.no r,n=>by obtain⟨B,A',a1,a2,a3⟩:=TK.give i r n;refine⟨B,A',a1,a2,λH1 e k=>?_⟩;rw[tY];exact .no (a3 H1 e k)
 |_,_,_,i+1,.val h r,n=>by obtain⟨B,A',a1,a2,a3⟩:=TK.give i r n;refine⟨B,A',a1,a2,λH1 e k=>?_⟩;rw[tY];exact .val (Rep.mono e h) (a3 H1 e k)
 |_,_,_,i+1,.own (p:=p) h1 h2 r,n=>by
  have n0:=OO.mp n;obtain⟨B,A',a1,a2,a3⟩:=TK.give i r n0.2;refine⟨B,p::A',a1.cons₂ _,λb hb=>⟨Ov _ (a2 b hb).1,λz=>?_⟩,λH1 e k=>?_⟩
  .rcases OC.mp z with w|w
   .exact n0.1 (w▸(a2 b hb).1)
   .exact(a2 b hb).2 w
  .rw[tY];exact .own h1 (Ts.mono e h2) (a3 H1 e k)
 |_,_,_,i+1,.dp (B:=C) h r,n=>by
  have n0:=OG.mp n;obtain⟨B,A',a1,a2,a3⟩:=TK.give i r n0.2.1;refine⟨B,C++A',P0 (O7 _) a1,λb hb=>⟨Oq _ (a2 b hb).1,λz=>?_⟩,λH1 e k=>?_⟩
  .rcases Ow.mp z with w|w
   .exact n0.2.2 b w b (a2 b hb).1 rfl
   .exact(a2 b hb).2 w
  .rw[tY];exact .dp (T6.mono e h λ_ _ _ w=>w) (a3 H1 e k)
def RS.give{K:Ou}{F A:Ql Xl}{H:Hp}{t:Th}{σ:L2.St}(R:RS K F H A t σ)(i:Nat):∃A',RS K F H A' (lI t i) σ/\Gr A H A' H:=by
 obtain⟨B,A',a1,a2,a3⟩:=R.rel.give i R.nd;have sub:∀x∈A',x∈A:=λx hx=>a1.subset hx;refine⟨A',⟨λq hq=>R.mu q ((Ow.mp hq).elim (λz=>Ot _ (sub q z)) λz=>Oq _ z),R.nd.sublist a1,λp hp=>R.dj p (sub p hp),a3 _ (bf H λa z=>(Ow.mp z).elim (λz=>Ot _ (sub a z)) λz=>Oq _ z) λb hb o h=>bA h λz=>?_⟩,⟨λ_ _ _ h=>h,λb hb=>?_,λb hb=>.inl (sub b hb)⟩⟩
 .rcases Ow.mp z with w|w
  .exact(a2 b hb).2 w
  .exact R.dj b (a2 b hb).1 w
 .obtain⟨vs,q⟩:=R.mu b (Ot _ hb);rw[q];simp
def pH(i:Nat)(g:DS):DS:=λt=>g (lI t i)
def Nn{E:Ends}(h:dS K F (pH i g) E σ H):dS K F g E σ H:=by obtain⟨A,t,o,R,e,p⟩:=kG h;obtain⟨A',R',gr⟩:=R.give i;exact kH R' e (p.back gr)
def Bk (i:Nat)(h:PS X st (dS X.K F g)):PS X st (dS X.K F (pH i g)):=PS.imp h λ_ _ _ q=>Nn q
section
variable {fs:Ql DE} 
def jG(n:Int):Ql Int->Ql Int
 |[]=>[n]
 |m::r=>if n<=m then n::m::r else m::jG n r
def U6:Ql Int->Ql Int
 |[]=>[]
 |n::r=>jG n (U6 r)
def xI(n:Int):∀r:Ql Int,(jG n r).Perm (n::r)
 |[]=>QC _
 |m::r=>by
  unfold jG;split
  .exact QC _
  .exact(Ua m (xI n r)).trans (Ub n m r)
def Xk:∀r:Ql Int,(U6 r).Perm r
 |[]=>QC _
 |n::r=>(xI n _).trans (Ua n (Xk r))
def Dj(n:Int):∀r:Ql Int,r.Pairwise (·<=·)->(jG n r).Pairwise (·<=·)
 |[],_=>by simp[jG]
 |m::r,h=>by
  unfold jG;have hc:=PM.mp h;split
  .rename_i hle;refine PM.mpr ⟨λx hx=>?_,h⟩;rcases OC.mp hx with rfl|z
   .exact hle
   .exact QO hle (hc.1 x z)
  .rename_i hle;refine PM.mpr ⟨λx hx=>?_,Dj n r hc.2⟩;rcases OC.mp ((xI n r).mem_iff.mp hx) with rfl|z
   .lia
   .exact hc.1 x z
def zaj:∀r:Ql Int,(U6 r).Pairwise (·<=·)
 |[]=>List.Pairwise.nil
 |n::r=>Dj n _ (zaj r)
def zaK:∀{xs ys:Ql Int},xs.Perm ys->xs.Pairwise (·<=·)->ys.Pairwise (·<=·)->xs=ys
 |[],ys,p,_,_=>(List.Perm.nil_eq p)
 |x::xs,[],p,_,_=>absurd p.length_eq (by simp)
 |x::xs,y::ys,p,h1,h2=>by
  have c1:=PM.mp h1;have c2:=PM.mp h2;have e:x=y:=by
   have m1:x∈y::ys:=p.mem_iff.mp (Ox ..);have m2:y∈x::xs:=p.mem_iff.mpr (Ox ..);have l1:y<=x:=by rcases OC.mp m1 with z|z;lia;exact c2.1 x z
   have l2:x<=y:=by rcases OC.mp m2 with z|z;lia;exact c1.1 y z
   lia
  subst e;rw[zaK (S6 p) c1.2 c2.2]
def NJ:gc X (.builtin "sorted") (λxs H Q=>∃(p:Xl) (ns:Ql Int),xs=[.ref p]/\TZ X.K H p (ns.map V.int)/\ns.length<64/\∀l,H l=Qn->Q (.ref l) (upd H l (.lst ((U6 ns).map V.int)))):=by intro pins s σ H xs us Q I r h;obtain⟨p,ns,rfl,hs,h64,q⟩:=h;obtain⟨u,rfl,ru⟩:=j3 r;cases ru;obtain⟨TH,rv,pl,_⟩:=I.list hs;have hi:IntsAre TH ns:=tL rv;have hl:=hi.length;refine sorted_ints (PlainL.VE pl) hi (by lia) λout ns' hI hp ho=>?_;have e:ns'=U6 ns:=zaK (hp.trans (Xk ns).symm) ho (zaj ns);subst e;obtain⟨k,ek⟩:=sortedAll_at s.heap TH out;have fr:s.heap.objs.size<=s.heap.objs.size+1:=S4 _;refine⟨.ref _,_,I.laid (o:=HO.lst ((U6 ns).map V.int)) (t':=s.toks) (λb o e=>sortedAll_old e) fr ⟨?_,out.toList,k,qZ hI,by simpa[seqObj] using ek⟩,rfl,q _ (I.TY.fresh fr)⟩;refine W4 ?_;rw[OI,(Xk ns).length_eq];lia
def iS:Ql Ev->Qo Ev:=λrs=>match rs with
 |[r]=>(match r.d with
  |.lst ds=>(dW ds).bind λns=>if ns.length<64 then Qs (.nw ((U6 ns).map D.int)) else Qn
  |_=>Qn)
 |_=>Qn
def zp:Vt X F (.builtin "sorted") iS:=Vt.of NJ λH0 H A xs rs e Q m g q ek hq=>by
 unfold iS at ek;split at ek
 case h_2=>cases ek
 cases q with
 |cons q1 q2=>
  cases q2;split at ek
  case h_2=>cases ek
  rename_i ds z;rcases e1:dW ds with _|ns
  .rw[e1]at ek;cases ek
  rw[e1]at ek;simp only[Oz]at ek;replace ek:=Ve ek;obtain⟨c,ek⟩:=ek;cases ek;have p:=q1.full;rw[z,lG e1]at p;cases p with
  |lst h1 h2=>rw[iO h2]at h1;exact⟨_,ns,rfl,h1,c,λl hl=>hq _ _ (dX hl) ⟨l,_,rfl,Tj.free g hl,bB,Ts.ints _⟩⟩
end
def lB:Ev->Qo Ev:=λr=>match r.d with
 |.lst ds=>if r.ok||Ui ds then Qs (.nw ds.reverse) else Qn
 |_=>Qn
def Ts.rev{K:Ou}{H:Hp}:∀{ds:Ql D}{vs:Ql V},Ts K H ds vs->Ts K H ds.reverse vs.reverse
 |_,_,.nil=>.nil
 |_,_,.cons h r=>by rw[Rf,Rf];exact(Ts.rev r).app (Ts.one h)
def Jx{p3 p4:Pos}{j}(ha:PE X a (dE X.K F fa)):PE X (.Subscript a (.Slice Qn Qn (Qs (.UnaryOp .USub (.Constant (.int 1) j p3) p4)) p2) pos) (dE X.K F (d1 lB fa)):=by
 intro pins s σ H Q I h;obtain⟨A,t,r,R,e,h⟩:=h;unfold d1 at e;refine aB e λr1 e1 e=>?_;have e:lB r1=Qs r:=e;unfold lB at e;split at e
 case h_2=>cases e
 rename_i ds z;refine bW e λok e=>?_;cases e;refine Subscript_ (aE (ha pins s σ H (λx H1=>Tj H H1/\T8 X.K F A H H1 r1 x) I ⟨A,t,r1,R,e1,λx H1 gs q=>⟨gs,q⟩⟩) λv s1 ⟨x,H1,I1,rx,gs,q⟩=>?_);obtain⟨p,vs,rfl,h1,h2⟩:=q.items R.mu gs z ok;cases rx;refine wpAny_Slice ?_;rw[evalPart_none];refine OQ (OQ ?_);rw[evalPart_some];refine aE ((BE (F:=F) (aH (i:=1))) pins s1 σ H1 (λy H2=>y=.int (-1)/\H2=H1\/(y=.int (-1)/\Tj H1 H2)) I1 ⟨A,t,.cl (.int (-1)),R.grow gs,rfl,λy H2 Uq q2=>.inr ⟨cI q2.full,Uq⟩⟩) λu s2 ⟨y,H2,I2,ry,qy⟩=>?_;have Uq:Tj H1 H2:=by rcases qy with⟨_,e⟩|⟨_,e⟩;rw[e];exact Tj.refl _;exact e
 have ey:y=.int (-1):=by rcases qy with⟨e,_⟩|⟨e,_⟩<;>exact e
 subst ey;obtain⟨tk,rfl⟩:=ry;obtain⟨TH,rv,pl,hz⟩:=I2.list (TZ.mono Uq h1);have I3:L2.Inv X pins σ H2 {s2 with heap:=s2.heap.push {cls:=.type "slice",data:=.fields #[.none,.none,.int (-1) tk]}}:=I2.kept (t':=s2.toks) λb ob q=>OA _ q;have hl:=PlainL.VE pl;show wpAny (model X.prog X.w) X.A (subscriptTail a (.Slice Qn Qn (Qs (.UnaryOp .USub (.Constant (.int 1) j p3) p4)) p2) (.ref p) (.ref s2.heap.objs.size)) (EP X pins σ Q) X.xe {s2 with heap:=s2.heap.push {cls:=.type "slice",data:=.fields #[.none,.none,.int (-1) tk]}};refine tail_any (ops:=[.ref p,.ref s2.heap.objs.size]) (hl.push _).typeIs slot_list_getitem.lookup (wpAny_getItem_list_slice (hl.push _) (Heap.IsSliceOf.new ..) .none .none (.int (-1) tk) (by simp) ?_ ?_) (by with_unfolding_all rfl)
 .have l1:=rv.length;have hn:=I3.fresh;refine⟨.ref _,_,?_,rfl,h _ _ ((gs.trans Uq).trans (dX hn)) ⟨_,vs.reverse,rfl,Tj.free (gs.trans Uq) hn,bB,Ts.mono (kB hn) (Ts.mono (cY Uq) h2).rev⟩⟩;refine I3.laid (o:=HO.lst vs.reverse) (t':=s2.toks) (λb ob q=>OA _ q) (OL _) ⟨by rw[List.length_reverse];exact hz,TH.reverse,0,rv.reverse,?_⟩;rw[PySem.W.krv_pick];exact OU _ rfl
 .rw[OV,<-rv.length];exact hz
end DL
namespace L2
open PySem.W
def uh:Nat:=2^1048576
def zY:∀{ns:Ql Int}{n:Int},n∈ns->WData.weight (.int n)<=WData.weightAll (ns.map WData.int)
 |m::r,n,h=>by
  rw[OF];unfold WData.weightAll;rcases OC.mp h with rfl|z
  .lia
  .have:=zY z;lia
def NV{ns:Ql Int}(h:WData.layableAll [WData.list (ns.map WData.int)]=Qt):∀n∈ns,n.natAbs<uh:=λn hn=>by
 have h1:WData.layable (WData.list (ns.map WData.int))=Qt:=by simpa[WData.layableAll] using h
 have h2:WData.weight (WData.list (ns.map WData.int))<=2^20:=by unfold WData.layable at h1;simp only[OH,UX]at h1;exact h1.2
 have h3:WData.weight (.int n)<=2^20:=by
  refine Pr (zY hn) ?_;have e:WData.weight (WData.list (ns.map WData.int))=WData.weightAll (ns.map WData.int):=by simp[WData.weight]
  rw[<-e];exact h2
 by_cases z:n=0
 .subst z;unfold uh;exact Nat.pow_pos (by decide)
 .have h4:n.natAbs.log2+1<=2^20:=by
   have:WData.weight (.int n)=n.natAbs.log2+1:=by simp[WData.weight,z]
   rw[<-this];exact h3
  have h5:n.natAbs.log2<1048576:=by lia
  exact(Vr (by lia)).mp h5
end L2
namespace DL
open PySem.Spec L2
def NX:Nat:=2^1100000
def Om(i:Int):Bool:=decide (i.natAbs<NX)
def TK.ZE{K:Ou}{H0 H:Hp}{p:Xl}{xs:Ql D}:∀{t:Th}{σ:L2.St}{A:Ql Xl} (i:Nat),TK K H0 H t σ A->A.Nodup->t[i]?=Qs (.own xs)->σ[i]?=Qs (Qs (.ref p))->∃A':Ql Xl,A'.Sublist A/\p∉A'/\∀Uv H1,Tj H0 Uv->(∀b∈A',∀o,H b=Qs o->H1 b=Qs o)->TK K Uv H1 (t.set i .no) σ A'
 |_,_,_,i,.nil,_,e,_=>by simp at e
 |_,_,_,0,.no r,_,e,_=>by simp at e
 |_,_,_,0,.val h r,_,e,_=>by simp at e
 |_,_,_,0,.dp h r,_,e,_=>by simp at e
 |_,_,_,0,.own (p:=q) (A:=A) h1 h2 r,n,e,f=>by
  have n0:=OO.mp n;have:q=p:=by simpa using f
  subst this;exact⟨A,QL _ _,n0.1,λUv H1 s k=>.no (TK.mono s r k)⟩
 |_,_,_,i+1,.no r,n,e,f=>by obtain⟨A',a1,a2,a3⟩:=TK.ZE i r n (by simpa using e) (by simpa using f);exact⟨A',a1,a2,λUv H1 s k=>.no (a3 Uv H1 s k)⟩
 |_,_,_,i+1,.val h r,n,e,f=>by obtain⟨A',a1,a2,a3⟩:=TK.ZE i r n (by simpa using e) (by simpa using f);exact⟨A',a1,a2,λUv H1 s k=>.val (Rep.mono s h) (a3 Uv H1 s k)⟩
 |_,_,_,i+1,.own (p:=q) h1 h2 r,n,e,f=>by
  have n0:=OO.mp n;obtain⟨_,_,b1,b2,_,_⟩:=r.Wm (i:=i) (ds:=xs) (by simpa using e);have f':=f;rw[Qp,b1]at f';cases f';obtain⟨A',a1,a2,a3⟩:=TK.ZE i r n0.2 (by simpa using e) (by simpa using f);refine⟨q::A',a1.cons₂ _,λz=>?_,λUv H1 s k=>.own (k q (by simp) _ h1) (Ts.mono s h2) (a3 Uv H1 s λb hb=>k b (Ov _ hb))⟩;rcases OC.mp z with w|w
  .exact n0.1 (w▸b2)
  .exact a2 w
 |_,_,_,i+1,.dp (B:=C) h r,n,e,f=>by
  have n0:=OG.mp n;obtain⟨_,_,b1,b2,_,_⟩:=r.Wm (i:=i) (ds:=xs) (by simpa using e);have f':=f;rw[Qp,b1]at f';cases f';obtain⟨A',a1,a2,a3⟩:=TK.ZE i r n0.2.1 (by simpa using e) (by simpa using f);refine⟨C++A',P0 (O7 _) a1,λz=>?_,λUv H1 s k=>.dp (T6.mono s h λb hb=>k b (Ot _ hb)) (a3 Uv H1 s λb hb=>k b (Oq _ hb))⟩;rcases Ow.mp z with w|w
  .exact n0.2.2 p w p b2 rfl
  .exact a2 w
def HU{d:D}(r:Rep K H d v)(s:aM d=Qt):∀Hx,Rep K Hx d v:=λHx=>by
 cases r with
 |TX=>exact .TX
 |bl b=>exact .bl b
 |int i=>exact .int i
 |str x=>exact .str x
 |tup _ _=>cases s
 |lst _ _=>cases s
 |Uk _ _ _=>cases s
 |U1 _=>cases s
 |VN _=>cases s
 |adr _=>cases s
 |T4 _=>cases s
 |obj _ _ _=>cases s
def sV:D->V
 |.bl b=>.bl b
 |.int i=>.int i
 |.str x=>.str x
 |_=>.TX
def kh:D->Qo aD
 |.int i=>Qs (Sum.inl i)
 |.str x=>Qs (Sum.inr x)
 |_=>Qn
def mw{d:D}(r:Rep K H d v)(s:aM d=Qt):v=sV d:=by
 cases r with
 |TX=>rfl
 |bl b=>rfl
 |int i=>rfl
 |str x=>rfl
 |tup _ _=>cases s
 |lst _ _=>cases s
 |Uk _ _ _=>cases s
 |U1 _=>cases s
 |VN _=>cases s
 |adr _=>cases s
 |T4 _=>cases s
 |obj _ _ _=>cases s
def vb:∀{d:D},aM d=Qt->Rep K H d (sV d)
 |.TX,_=>.TX
 |.bl b,_=>.bl b
 |.int i,_=>.int i
 |.str x,_=>.str x
 |.tup _,s=>by cases s
 |.lst _,s=>by cases s
 |.Uk _ _,s=>by cases s
 |.U1 _,s=>by cases s
 |.VN _,s=>by cases s
 |.adr _,s=>by cases s
 |.T4 _,s=>by cases s
 |.obj _ _ _,s=>by cases s
def Ho:∀{d:D},aM d=Qt->flat d=Qt
 |.TX,_=>rfl
 |.bl b,_=>rfl
 |.int i,_=>rfl
 |.str x,_=>rfl
 |.tup _,s=>by cases s
 |.lst _,s=>by cases s
 |.Uk _ _,s=>by cases s
 |.U1 _,s=>by cases s
 |.VN _,s=>by cases s
 |.adr _,s=>by cases s
 |.T4 _,s=>by cases s
 |.obj _ _ _,s=>by cases s
def og{K:Ou}{H:Hp}:∀{ds:Ql D}{vs:Ql V},Ts K H ds vs->ds.all aM=Qt->vs=ds.map sV
 |_,_,.nil,_=>rfl
 |_,_,.cons h r,s=>by simp only[PN,OH]at s;rw[mw h s.1,og r s.2];rfl
def vR{K:Ou}{H0 H:Hp}:∀{ds:Ql D}{vs:Ql V}{B:Ql Xl},TL K H0 H ds vs B->ds.all aM=Qt->vs=ds.map sV/\B=[]
 |_,_,_,.nil,_=>⟨rfl,rfl⟩
 |_,_,_,.cons h r,s=>by
  simp only[PN,OH]at s;obtain⟨a,b⟩:=vR r s.2;subst a b;cases h with
  |flat f q=>rw[mw q s.1];exact⟨rfl,rfl⟩
  |tup _ _=>exact absurd s.1 (by simp[aM])
  |lst _ _=>exact absurd s.1 (by simp[aM])
  |Uk _ _ _=>exact absurd s.1 (by simp[aM])
  |U1 _=>exact absurd s.1 (by simp[aM])
  |obj _ _ _=>exact absurd s.1 (by simp[aM])
def va{K:Ou}{H0 H:Hp}:∀{ds:Ql D},ds.all aM=Qt->TL K H0 H ds (ds.map sV) []
 |[],_=>.nil
 |d::ds,s=>by simp only[PN,OH]at s;exact .cons (B:=[]) (C:=[]) (.flat (Ho s.1) (vb s.1)) (va s.2)
def RS.zcx (R:RS K F H A t σ)(e:t[i]?=Qs (.dp (.Uk ks ds)))(sc:ds.all aM=Qt):∃p,σ[i]?=Qs (Qs (.ref p))/\p∈A/\ks.length=ds.length/\H p=Qs (.dK (cU ks (ds.map sV)))/\∀H1 X6 VW,Tj H H1->X6.length=VW.length->VW.all aM=Qt->∃A2,RS K F (L2.upd H1 p (.dK (cU X6 (VW.map sV)))) A2 (t.set i (.dp (.Uk X6 VW))) σ/\Gr A H A2 (L2.upd H1 p (.dK (cU X6 (VW.map sV)))):=by
 obtain⟨v,B,a1,a2,a3,a4,a5⟩:=R.rel.zgS R.nd e;cases a4 with
 |flat f _=>simp[flat]at f
 |@Uk _ _ p vs B' l h r=>
  obtain⟨rfl,rfl⟩:=vR r sc;have pA:p∈A:=a2 p (by simp);refine⟨p,a1,pA,by simpa using l,h,λH1 X6 VW gs l2 sc2=>?_⟩;have hh:Tj (ah (A++F) H) (ah (A++F) (L2.upd H1 p (.dK (cU X6 (VW.map sV))))):=λb o q=>by obtain⟨n,q⟩:=cN q;have nb:b≠p:=λz=>n (Ot _ (z▸pA));exact bA (by rw[aS nb];exact gs _ _ q) n
  obtain⟨A2,d1,d3⟩:=a5 _ _ (.Uk X6 VW) [p] hh (.Uk (by simpa using l2) bB (va sc2)) (O7 _) (λq hq nq o w=>by rw[aS (by simpa using nq)];exact gs _ _ w);have sub:∀x∈A2,x∈A:=λx hx=>d3.subset hx;have mu:Ul (L2.upd H1 p (.dK (cU X6 (VW.map sV)))) (A++F):=λq hq=>by
   by_cases z:q=p
   .exact⟨mD _,by rw[z];exact bB⟩
   .obtain⟨us,w⟩:=R.mu q hq;exact⟨us,by rw[aS z];exact gs _ _ w⟩
  refine⟨A2,⟨λq hq=>mu q ?_,R.nd.sublist d3,λq hq=>R.dj q (sub q hq),TK.mono (bf _ λa z=>?_) d1 λ_ _ _ h=>h⟩,λb o n h=>?_,λb hb=>?_,λb hb=>.inl (sub b hb)⟩
  .exact(Ow.mp hq).elim (λz=>Ot _ (sub q z)) (λz=>Oq _ z)
  .exact(Ow.mp z).elim (λz=>Ot _ (sub a z)) (λz=>Oq _ z)
  .rw[aS (λz=>n (by rw[z];exact pA))];exact gs _ _ h
  .obtain⟨us,w⟩:=mu b (Ot _ hb);rw[w];simp
def eO:Ql aD->Ql D->aD->Qo D
 |k'::ks,d::ds,k=>if k'=k then Qs d else eO ks ds k
 |_,_,_=>Qn
def gV(ks:Ql aD)(k:aD):Bool:=ks.any λk'=>decide (k'=k)
def fD(ks:Ql aD)(ds:Ql D)(k:aD)(d:D):Ql aD×Ql D:=if gV ks k then(ks,RT (λk' d'=>if k'=k then d else d') ks ds) else(ks++[k],ds++[d])
def uH(k:aD):∀{ks:Ql aD}{ds:Ql D},ks.length=ds.length->fS (cU ks (ds.map sV)) k=(eO ks ds k).map sV
 |[],[],_=>rfl
 |k'::ks,d::ds,h=>by
  have i:=uH k (ks:=ks) (ds:=ds) (by simpa using h);unfold cU at i ⊢;simp only[OF,Pu,eO];by_cases e:k'=k
  .rw[ma (p:=(k',sV d)) e,S9 e];rfl
  .rw[md (p:=(k',sV d)) e,Tr e,i]
 |[],_::_,h=>by simp at h
 |_::_,[],h=>by simp at h
def xP(k:aD):∀{ks:Ql aD}{vs:Ql V},ks.length=vs.length->(fS (cU ks vs) k).isSome=gV ks k
 |[],[],_=>rfl
 |k'::ks,d::ds,h=>by
  have i:=xP k (ks:=ks) (vs:=ds) (by simpa using h);unfold cU gV at i ⊢;simp only[Pu,Qh];by_cases e:k'=k
  .rw[ma (p:=(k',d)) e,Uc e];rfl
  .rw[md (p:=(k',d)) e,UJ e,i];rfl
 |[],_::_,h=>by simp at h
 |_::_,[],h=>by simp at h
def ua:DE:=λ_=>Qs (.dn (.Uk [] []))
def Jz:PE X (.Dict [] [] pos) (dE X.K F ua):=by refine PE.imp JR ?_;rintro σ H Q ⟨A,t,r,R,e,h⟩;cases e;intro p hp;refine h _ _ (dX hp) ⟨[p],by simp,λb hb=>by simp at hb;subst hb;exact hp,.Uk (vs:=[]) rfl bB .nil⟩
def oR(neg:Bool):Ev->Ev->Qo Ev:=λr1 r2=>match r2.d with
 |.Uk ks ds=>(kh r1.d).map λk=>.cl (.bl (if neg then !gV ks k else gV ks k))
 |_=>Qn
def mV{d:D}{k:aD}(r:Rep K H d v)(e:kh d=Qs k):v=kV k:=by cases r<;>cases e<;>rfl
def K1(hu:X.A.units+64<cLine):Vh X F (compareOp .In) (oR Qf):=by
 intro pins s σ H0 H A x y v u Q r1 r2 r I m g0 rx ry q1 q2 e hq;unfold oR at e;split at e
 case h_2=>cases e
 rename_i ks ds z;rcases ek:kh r1.d with _|k
 .rw[ek]at e;cases e
 rw[ek]at e;cases e;have p1:=mV q1.full ek;have p2:=q2.full;rw[z]at p2;cases p2 with
 |@Uk _ _ p vs l h1 h2=>subst p1;cases(show u=OY p from ry);refine Es (by lia) I (WZ.k h1) rx λs' I'=>?_;rw[xP k l];exact⟨.bl _,H,I',rfl,hq _ H (Tj.refl H) (.bl _)⟩
def A8(k:aD)(d:D) (h:ks.length=ds.length):fg (cU ks (ds.map sV)) k (sV d)=cU (fD ks ds k d).1 ((fD ks ds k d).2.map sV)/\(fD ks ds k d).1.length=(fD ks ds k d).2.length:=by
 have ha:(cU ks (ds.map sV)).any (λkv=>decide (kv.1=k))=gV ks k:=by rw[uI,xP k (by simpa using h)]
 unfold fg fD;rw[ha];by_cases hc:gV ks k=Qt
 .rw[S9 hc,S9 hc];refine⟨?_,by simp;lia⟩;clear hc ha;unfold cU
  induction ks generalizing ds with
  |nil=>simp
  |cons k' ks ih=>
   cases ds with
   |nil=>simp at h
   |cons d' ds=>
    have i:=ih (ds:=ds) (by simpa using h);simp only[OF,Pu,QP,i];by_cases e:k'=k
    .simp[e]
    .simp[e]
 .rw[Tr hc,Tr hc];refine⟨?_,by simp;lia⟩;unfold cU;rw[PH,List.zip_append (by simpa using h)];rfl
def A9{k:aD}{d:D}(sd:aM d=Qt):∀{ds:Ql D},ds.all aM=Qt->(fD ks ds k d).2.all aM=Qt:=λ{ds} s=>by
 unfold fD;split
 .show(RT _ ks ds).all aM=Qt;rename_i hc;clear hc
  induction ks generalizing ds with
  |nil=>simp
  |cons k' ks ih=>
   cases ds with
   |nil=>simp
   |cons d' ds=>
    simp only[PN,OH]at s;simp only[QP,PN,OH];refine⟨?_,ih s.2⟩;split
    .exact sd
    .exact s.1
 .show(ds++[d]).all aM=Qt;rw[List.all_append,s];simp[sd]
def jE(t:Th)(i:Nat)(r k:Ev):Qo Out:=match t[i]?,kh k.d with
 |some (.dp (.Uk ks ds)),Qs kk=>if ds.all aM&&aM r.d&&decide (ks.length<100000) then Qs (.nx (t.set i (.dp (.Uk (fD ks ds kk r.d).1 (fD ks ds kk r.d).2)))) else Qn
 |_,_=>Qn
def ja(i:Nat)(fk fv:DE):DS:=λt=>(fv t).bind λr=>(fk t).bind λk=>jE t i r k
def IK(i:Nat) (hu:X.A.units+64<cLine)(hb:PE X b (dE X.K F fb))(he:PE X a (dE X.K F fa))(hN:X.N[i]?=Qs x:=by rfl)(hv:dt X.env.scope x:=by first|exact Or.inl rfl|exact Or.inr (Or.inl rfl)|exact Or.inr (Or.inr rfl))(hd:UR x:=by decide) (UI:Vz x:=by decide) (hs:swapsWith a (Qs (.Subscript (.Name x p0) b Vx)) pos.line X.env=pure Qf:=by rfl):PS X (.Assign [.Subscript (.Name x p0) b Vx] a pos) (dS X.K F (ja i fb fa)):=by
 refine PS.imp (IT (by lia) (dH (i:=i) hN hv hd UI) hb he hs) ?_;rintro E σ H ⟨A,t,o,R,e,h⟩;unfold ja at e;refine aB e λr e1 e=>?_;refine aB e λkk e2 e=>?_;have e:jE t i r kk=Qs o:=e;unfold jE at e;split at e
 case h_2=>cases e
 rename_i ks ds k z ek;refine bW e λok e=>?_;simp only[OH,UX]at ok;cases e;obtain⟨p,a1,a2,l,hp,mk⟩:=R.zcx z ok.1.1;refine⟨A,t,r,R,e1,λv0 H1 Va q1=>⟨_,a1,A,t,kk,R.grow Va,e2,λy H2 Uq q2=>?_⟩⟩;have gs:=Va.trans Uq;have ey:=mV q2.full ek;have ev:=mw q1.full ok.1.2;subst ey ev;obtain⟨pz,pl⟩:=A8 k r.d l;obtain⟨A2,R',g'⟩:=mk H2 _ _ gs pl (A9 ok.1.2 ok.1.1);have hlen:(cU ks (ds.map sV)).length<O3:=by unfold cU;rw[RI];exact Pa (TM _ _) (OS ok.2 (by rw[sizeLine_eq];decide))
 refine⟨p,_,rfl,YS.k (gs _ _ hp) hlen,?_⟩;rw[pz];exact h _ _ _ g' R'
def xT{k:aD}{d:D}:∀{ks:Ql aD}{ds:Ql D},ds.all aM=Qt->eO ks ds k=Qs d->aM d=Qt
 |[],ds,_,e=>by simp[eO]at e
 |_::_,[],_,e=>by simp[eO]at e
 |k'::ks,d'::ds,s,e=>by
  simp only[PN,OH]at s;unfold eO at e;split at e
  .cases e;exact s.1
  .exact xT s.2 e
def kr:Ev->Ev->Qo Ev:=λr1 r2=>match r1.d,kh r2.d with
 |.Uk ks ds,Qs k=>if ds.all aM then(eO ks ds k).map Ev.cl else Qn
 |_,_=>Qn
def wF(hu:X.A.units+64<cLine)(ha:PE X a (dE X.K F fa))(hb:PE X b (dE X.K F fb))(hs:zL b:=by intro _ _;rfl):PE X (.Subscript a b pos) (dE X.K F (d2 kr fa fb)):=by
 refine PE.imp (JU (by lia) ha hb hs) ?_;intro σ H Q h;obtain⟨A,t,r1,r2,r,R,e1,e2,e,h,w⟩:=two h;refine⟨A,t,r1,R,e1,λx H1 Va q1=>⟨A,t,r2,R.grow Va,e2,λy H2 Uq q2=>?_⟩⟩;have gs:=Va.trans Uq;have p1:=(q1.mono Uq).full;have p2:=q2.full;unfold kr at e;split at e
 case h_2=>cases e
 rename_i ks ds k z ek;replace e:=Ve e;obtain⟨sc,e⟩:=e;rcases eg:eO ks ds k with _|d
 .rw[eg]at e;cases e
 rw[eg]at e;cases e;rw[z]at p1;cases p1 with
 |@Uk _ _ p vs l h1 h2=>
  have ev:=og h2 sc;subst ev;have ey:=mV p2 ek;subst ey;have l':ks.length=ds.length:=by simpa using l
  have hv:=uH k (ks:=ks) (ds:=ds) l';rw[eg]at hv;have sd:=xT sc eg;refine⟨p,sV d,rfl,?_,h _ H2 gs (vb sd)⟩;have:=WZ.k (k:=k) h1;rw[hv]at this;exact this
def pM(fa fb fc:DE):DE:=λt=>(fa t).bind λr1=>(fb t).bind λr2=>(fc t).bind λr3=>match r1.d,kh r2.d with
 |.Uk ks ds,Qs k=>if ds.all aM&&aM r3.d then Qs (.cl ((eO ks ds k).getD r3.d)) else Qn
 |_,_=>Qn
def JF (hu:X.A.units+64<cLine)(ha:PE X a (dE X.K F fa))(hb:PE X b (dE X.K F fb))(hc:PE X c (dE X.K F fc))(m:M2 X a "get" apos b c Uw:=by exact⟨rfl,rfl,rfl,rfl⟩):PE X (.Call (.Attribute a "get" apos) [b,c] [] Uw) (dE X.K F (pM fa fb fc)):=by
 refine PE.imp (JT (by lia) ha hb hc m) ?_;rintro σ H Q ⟨A,t,r,R,e,h⟩;unfold pM at e;rcases e1:fa t with _|r1
 .rw[e1]at e;cases e
 rcases e2:fb t with _|r2
 .rw[e1,e2]at e;cases e
 rcases e3:fc t with _|r3
 .rw[e1,e2,e3]at e;cases e
 rw[e1,e2,e3]at e;simp only[Oz]at e;split at e
 case h_2=>cases e
 rename_i ks ds k z ek;replace e:=Ve e;obtain⟨sc,e⟩:=e;simp only[OH]at sc;cases e;refine⟨A,t,r1,R,e1,λx H1 Va q1=>?_⟩;have p1:=q1.full;rw[z]at p1;cases p1 with
 |@Uk _ _ p vs l h1 h2=>
  have ev:=og h2 sc.1;subst ev;have l':ks.length=ds.length:=by simpa using l
  refine⟨p,rfl,.inl ⟨_,.inl h1⟩,A,t,r2,R.grow Va,e2,λy H2 Uq q2=>⟨A,t,r3,(R.grow Va).grow Uq,e3,λy3 H3 Xr q3=>?_⟩⟩;have ey:=mV q2.full ek;have e3':=mw q3.full sc.2;subst ey e3';have hv:=uH k (ks:=ks) (ds:=ds) l';refine⟨_,WZ.k (Xr _ _ (Uq _ _ h1)),?_⟩;rw[hv];have fin:((eO ks ds k).map sV).getD (sV r3.d)=sV ((eO ks ds k).getD r3.d):=by cases eO ks ds k<;>rfl
  rw[fin];refine h _ H3 ((Va.trans Uq).trans Xr) (vb ?_);cases eg:eO ks ds k with
  |none=>exact sc.2
  |some d=>exact xT sc.1 eg
end DL
namespace PySem.SeqAt
open PySem.Spec
def Fe(op:CmpOp)(A:Qq)(s:OJ)(a b:OM)(k:Bool):Prop:=∀(prog:Pe) (w:QI) (E:OM->OJ->Prop) (Q:OM->OJ->Prop),Q (.bool k) s->wpAny (model prog w) A (richCompare op a b) Q E s
end PySem.SeqAt
namespace DL
open PySem.Spec L2
def Ez(mx:Bool)(i j:Int):Bool:=if mx then decide (i>j) else decide (i<j)
def CA(mx:Bool):Ql Int->Ql Int->Bool
 |i::r,j::q=>if decide (i=j) then CA mx r q else Ez mx i j
 |_,_=>Qf
def EA(mx:Bool):D->D->Qo Bool
 |.int i,.int j=>Qs (Ez mx i j)
 |.tup xs,.tup ys=>(dW xs).bind λis=>(dW ys).bind λjs=>if is.length=js.length then Qs (CA mx is js) else Qn
 |_,_=>Qn
def pD(K:Ou)(mx:Bool):V->V->Hp->Bool->Prop:=λy z H c=>∃d e,Rep K H d y/\Rep K H e z/\EA mx d e=Qs c
def ET(mx:Bool)(fb:DE)(cs:Ql D):D->D->Ql D->Qo D
 |b,_,[]=>Qs b
 |b,k,d::ds=>(fb (.val d::cs.map Sl.val)).bind λr=>if flat r.d then(EA mx r.d k).bind λc=>if c then ET mx fb cs d r.d ds else ET mx fb cs b k ds else Qn
end DL
namespace L2
open PySem.Spec PySem.W
def LZ(x:Str):Str:=x++".<locals>."++"<lambda>"
def Cg{β:Type}:∀{l:Ql (Nat×β)}{a:Nat}{o:β},l.lookup a=Qs o->(a,o)∈l
 |[],_,_,e=>by cases e
 |(b,x)::r,a,o,e=>by
  rw[Pg]at e;cases hb:a==b with
  |true=>rw[hb]at e;cases e;rw[eq_of_beq hb];exact .head _
  |false=>rw[hb]at e;exact .tail _ (Cg e)
def du(K:Frag)(names:Ql Str):Ql (Xl×Str):=names.filterMap λx=>(tabIn K x).map λq=>(q.2,LZ x)
def KS{K:Frag}{names:Ql Str}{p:Xl×Str}(h:p∈du K names):∃x∈names,∃c,tabIn K x=Qs (c,p.1):=by
 obtain⟨x,hx,e⟩:=RM.mp h;cases q:tabIn K x with
 |none=>rw[q]at e;cases e
 |some r=>rw[q]at e;cases e;exact⟨x,hx,r.1,q⟩
def pW(K:Frag)(names:Ql Str):Prop:=∀p∈du K names,(du K names).lookup p.1=Qs p.2/\K.lookup p.1=Qn
def Ga{K:Frag}:pW K []:=λp hp=>by cases hp
def LV{K:Frag}{mg mb:Str->Qo OM}{k:Nat}{fa a:Xl}{s₁:OJ}{vs:Ql OM}{ns:Ql Int}{names:Ql Str} (KX:K.In s₁.heap) (X9:s₁.heap.Ns mainGlobals mg) (hb:s₁.heap.Ns builtinsNs mb) (hbb:∀x:Str,x≠"__name__"->mb x=bootBuiltins x) (zfQ:s₁.heap.NoLimit) (hbm:∃(bm:Xl) (ob:Obj),mg "__builtins__"=Qs (.ref bm)/\bm≠builtinsNs/\s₁.heap.get? bm=Qs ob/\ob.cls=.type "module"/\ob.dict=Qs builtinsNs/\ob.data=.plain) (hg:s₁.gens=#[]) (ha:s₁.heap.get? a=Qs {cls:=.type "list",data:=.seq vs.toArray}) (hi:IntsAre vs ns) (hl:ns.length<=O3) (hr:UP k callerA) (hT:∀x∈names,∀c P,tabIn K x=Qs (c,P)->CodeHd s₁.heap c P/\s₁.heap.get? P=Qs (tabObj #[])) (hn:pW K names) (F:∀base:VZ,base.tabs=du K names->K.In base->base.Ns mainGlobals mg->(∀x∈names,∀c P,tabIn K x=Qs (c,P)->CodeHd base c P)->Um P w K mg base CX k fa fd [x] sp) (zgj:∀(s:OJ) (u:OM),BindsTo s fd ⟨[u],[]⟩ [(x,u)]) (X8:∀H:Hp,TZ K H a (ns.map V.int)->sp [.ref a] H (λv _=>v=.bl Qt) λ_ _ _=>False) (hCX:∀H e s',CX [] H s₁ (λ_ _ _=>False) e s'->False):codeAny (model P w) callerA (.call (.ref fa) ⟨[.ref a],[]⟩) (λr s'=>r=.ok (.ret (.bool Qt))/\OldK s₁.heap s'.heap/\s'.os=s₁.os/\AllBare s'.gens) s₁:=by
 have rv:=qZ hi;have zfd:=hi.length;have Zo:∀p∈du K names,∃c,CodeHd s₁.heap c p.1/\s₁.heap.get? p.1=Qs (tabObj #[]):=λp hp=>by obtain⟨y,hy,c,e⟩:=KS hp;exact⟨c,hT y hy c p.1 e⟩
 have core:∀H:Hp,TZ K H a (ns.map V.int)->U7 P w H s₁.heap->(∀p∈du K names,H p.1=Qs (.Wa p.2))-> (∀b o,H b=Qs o->(b=a/\K.lookup a=Qn/\∃ob xs,o=.Vb ob (.lst xs))\/∃q,o=.Wa q/\(b,q)∈du K names)->codeAny (model P w) callerA (.call (.ref fa) ⟨[.ref a],[]⟩) (λr s'=>r=.ok (.ret (.bool Qt))/\OldK s₁.heap s'.heap/\s'.os=s₁.os/\AllBare s'.gens) s₁:=by
  intro H hS TY hTB hH;have free:∀{b:Xl}{o:Obj},s₁.heap.get? b=Qs o->(o.cls=.type "list"->False)->o≠tabObj #[]->H b=Qn:=λ{b o} e n1 n2=>by
   cases q:H b with
   |none=>rfl
   |some u=>
    rcases hH b u q with⟨rfl,_⟩|⟨qq,rfl,hm⟩
    .rw[ha]at e;cases e;exact(n1 rfl).elim
    .obtain⟨c,_,e2⟩:=Zo _ hm;have e2:s₁.heap.get? b=Qs (tabObj #[]):=e2;rw[e]at e2;cases e2;exact(n2 rfl).elim
  have nsK:∀{b:Xl}{m:Str->Qo OM},s₁.heap.Ns b m->(iV s₁.heap H).Ns b m:=λ{b m} ⟨o,es,ep,e,d,r⟩=>⟨o,es,ep,tN e (by
   cases q:H b with
   |none=>rfl
   |some u=>
    rcases hH b u q with⟨rfl,_⟩|⟨qq,rfl,hm⟩
    .rw[ha]at e;cases e;cases d
    .obtain⟨c,_,e2⟩:=Zo _ hm;have e2:s₁.heap.get? b=Qs (tabObj #[]):=e2;rw[e]at e2;cases e2;cases d),d,r⟩
  have hKb:K.In (iV s₁.heap H):=λb o e=>tN (KX b o e) (by
   cases q:H b with
   |none=>rfl
   |some u=>
    rcases hH b u q with⟨rfl,n,_⟩|⟨qq,rfl,hm⟩
    .rw[n]at e;cases e
    .have n:K.lookup b=Qn:=(hn _ hm).2;rw[n]at e;cases e)
  have hM:Mod K mg ⟨iV s₁.heap H,du K names⟩:=⟨hKb,nsK X9,⟨mb,nsK hb,hbb⟩,let ⟨mc,h1,h2⟩:=zfQ;⟨mc,nsK h1,h2⟩,by
   obtain⟨bm,ob,b1,b2,b3,b4,b5,b6⟩:=hbm;exact⟨bm,ob,b1,b2,tN b3 (free b3 (λz=>by rw[b4]at z;simp at z) λz=>by rw[z]at b4;cases b4),b4,b5,b6⟩⟩
  have hCd:∀x∈names,∀c P,tabIn K x=Qs (c,P)->CodeHd (iV s₁.heap H) c P:=λx hx c P e=>by obtain⟨⟨o,vs,file,tf,flags,tg,Wz,text,tt,e1,r1,r⟩,_⟩:=hT x hx c P e;exact⟨o,vs,file,tf,flags,tg,Wz,text,tt,tN e1 (free e1 (λz=>by rw[r1]at z;simp at z) λz=>by rw[z]at r1;cases r1),r1,r⟩
  have e0:YR P w K mg ⟨iV s₁.heap H,du K names⟩ callerA [] s₁ H:=⟨rfl,hM,λb o e=>KW e,UZ (MG _ _),trivial,λb hb=>absurd (show b∈([]:Ql Xl) from hb) (by simp),TY,.of_eq hg,hTB⟩;refine codeAny_mono ((F ⟨iV s₁.heap H,du K names⟩ rfl hKb (nsK X9) hCd).run callerA [] s₁ H ⟨[.ref a],[]⟩ [.ref a] [.ref a] _ _ hr e0 (zgj s₁ (.ref a)) (.cons rfl .nil) (X8 H hS)) λr s' h=>?_;cases r with
  |error e=>exact(hCX H e s' h).elim
  |ok fl=>
   cases fl with
   |next=>exact False.elim h
   |brk=>exact False.elim h
   |cont=>exact False.elim h
   |ret u=>
    obtain⟨v,H',os,bare,un,zbn,r',q⟩:=h;have q':v=.bl Qt:=q;subst q';obtain rfl:u=Tt Qt:=r';have kp:∀b o,s₁.heap.get? b=Qs o->s'.heap.get? b=Qs o\/∃qq,H b=Qs (.Wa qq):=λb o e=>by
     cases q:H b with
     |none=>exact .inl (un.keep b o e q (by intro z;exact absurd (show b∈([]:Ql Xl) from z) (by simp)) (by simp))
     |some u=>
      rcases hH b u q with⟨rfl,_,ob,xs,rfl⟩|⟨qq,rfl,hm⟩
      .obtain⟨e1,_⟩:=TY b _ q;obtain⟨e2,_⟩:=zbn b _ (un.Xs b ob _ q);rw[e]at e1;cases e1;exact .inl e2
      .exact .inr ⟨qq,rfl⟩
    refine⟨rfl,⟨λb o e=>?_,λb o e=>?_⟩,os,bare⟩
    .rcases kp b o e with z|⟨qq,z⟩
     .exact .inl z
     .rcases hH b _ z with⟨_,_,ob,xs,z2⟩|⟨q2,z2,hm⟩
      .cases z2
      .obtain⟨c,C,e2⟩:=Zo _ hm;have e2:s₁.heap.get? b=Qs (tabObj #[]):=e2;rw[e]at e2;cases e2;obtain⟨ps,e3,_⟩:=zbn b _ (un.Wv b _ z);have C:CodeHd s₁.heap c b:=C;exact .inr (.inl ⟨(C.tab e).isCodeTable,rfl,#[],ps,rfl,by simpa using e3⟩)
    .rcases kp b o e with z|⟨qq,z⟩
     .exact⟨o,z⟩
     .obtain⟨ps,e3,_⟩:=zbn b _ (un.Wv b _ z);exact⟨_,e3⟩
 have zb9:∀(H:Hp) (p:Xl×Str),p∈du K names->U5 P w H s₁.heap p.1 (.Wa p.2):=λH p hp=>by obtain⟨c,_,e⟩:=Zo p hp;exact⟨#[],e,trivial,λpos cv z=>by cases z⟩
 have lk:∀b q,(du K names).lookup b=Qs q->(b,q)∈du K names:=λb q e=>Cg e;have aT:∀q,(a,q)∈du K names->False:=λq hm=>by obtain⟨c,_,e⟩:=Zo _ hm;have e:s₁.heap.get? a=Qs (tabObj #[]):=e;rw[ha]at e;cases e
 cases hk:K.lookup a with
 |some o=>
  have e:=KX a o hk;rw[ha]at e;cases e;refine core (λb=>((du K names).lookup b).map HO.Wa) (.inr ⟨_,vs.toArray,_,hk,rfl,rfl,rfl,by rw[OV,zfd];exact hl,by simpa using rv⟩) (λb u z=>?_) (λp hp=>by simp only[(hn p hp).1,P7]) λb u z=>?_
  .cases q:(du K names).lookup b with
   |none=>simp only[q]at z;cases z
   |some qq=>simp only[q]at z;cases z;exact zb9 _ _ (lk b qq q)
  .cases q:(du K names).lookup b with
   |none=>simp only[q]at z;cases z
   |some qq=>simp only[q]at z;cases z;exact .inr ⟨qq,rfl,lk b qq q⟩
 |none=>
  refine core (λb=>if b=a then Qs (.Vb {cls:=.type "list",data:=.seq vs.toArray} (.lst (ns.map V.int))) else((du K names).lookup b).map HO.Wa) (.inl (.inr ⟨{cls:=.type "list",data:=.seq vs.toArray},S9 rfl⟩)) (λb u z=>?_) (λp hp=>?_) λb u z=>?_
  .by_cases hb:b=a
   .have z':=(S9 hb).symm.trans z;cases z';subst hb;exact⟨ha,by rw[OI];exact hl,vs,_,rv,ha⟩
   .have z':=(Tr hb).symm.trans z;cases q:(du K names).lookup b with
    |none=>simp only[q]at z';cases z'
    |some qq=>simp only[q]at z';cases z';exact zb9 _ _ (lk b qq q)
  .have:p.1≠a:=λe=>aT p.2 (by rw[<-e];exact hp);simp only[this,if_false,(hn p hp).1,P7]
  .by_cases hb:b=a
   .have z':=(S9 hb).symm.trans z;cases z';exact .inl ⟨hb,hk,_,_,rfl⟩
   .have z':=(Tr hb).symm.trans z;cases q:(du K names).lookup b with
    |none=>simp only[q]at z';cases z'
    |some qq=>simp only[q]at z';cases z';exact .inr ⟨qq,rfl,lk b qq q⟩
open PySem.W
def zd5{l:TN}{k:Nat}{q:Pe}{loose:Ql Str}{XP:(Str->Qo OM)->Xm->Prop}{YP:QI->Xm->Prop}{d:DefRec}{K:Params->Ou}{CX:QI->iG}{sp:QI->Sp}{names:Ql Str} (hn:l.most=Qs n) (Y8:n<=O3) (hdf:d.params.defaults=[]) (hr:UP k callerA) (hY:∀(w:QI) (h:Xm),YP w h->(K w.params).In h) (zbj:∀x∈names,∃dr,(recsOf q).find? (λe=>e.name==x)=Qs dr) (F:∀(w:QI) (mg:Str->Qo OM) (fa:Xl) (h:Xm),(K w.params).In h->h.Ns mainGlobals mg->mg d.name=Qs (.ref fa)->pW (K w.params) names/\∃fd:PX,(∀(s:OJ) (u:OM),BindsTo s fd ⟨[u],[]⟩ [(x,u)])/\∀base:VZ,base.tabs=du (K w.params) names->(K w.params).In base->base.Ns mainGlobals mg->(∀x∈names,∀c P,tabIn (K w.params) x=Qs (c,P)->CodeHd base c P)->Um l.prog w (K w.params) mg base (CX w) k fa fd [x] (sp w)) (X8:∀(w:QI) (H:Hp) (a:Xl) (ns:Ql Int),ns.length<=n->(∀i∈ns,i.natAbs<uh)->TZ (K w.params) H a (ns.map V.int)->sp w [.ref a] H (λv _=>v=.bl Qt) λ_ _ _=>False) (hCX:∀(w:QI) (H:Hp) (s:OJ) (e:OM) (s':OJ),CX w [] H s (λ_ _ _=>False) e s'->False):Uz q loose XP YP l.row.toRowW d [] (λf vs=>PySem.call f vs):=by
 intro w s₀ s₁ mg mb G Y fa o pm cd doc dV kV ho hd UI hD hmg hg args vals as zau zfS hrd Y7 hlo;obtain rfl:dV=.none:=Dflts.none hD hdf;obtain rfl:kV=.none:=Dflts.noKw hD;obtain⟨a,vs,ns,rfl,rfl,zfD,hints,hlen⟩:=Att.zer hn zau Y7;have hb:=NV zfS;have KX:=hY w _ Y;obtain⟨TY,fd,hbd,hF⟩:=F w mg fa _ KX G.T.g hmg;refine enter_call (codeAny_mono (LV KX G.T.g G.T.b G.T.builtins G.T.nolimit G.T.bmain hg zfD hints (Pr hlen Y8) hr (λx hx c P e=>by
  obtain⟨dr,h⟩:=zbj x hx;exact tab_of G.T KX h e) TY hF hbd (λH hS=>X8 w H a ns hlen hb hS) λH e s'=>hCX w H s₁ e s') λr s' hq=>?_)
 obtain⟨rfl,h2,h3,h4⟩:=hq;exact⟨.inl ⟨.bool Qt,.bool Qt,[],rfl,λ_=>rfl,.bool Qt,Att.zeL l _,λ_=>⟨List.Pairwise.nil,λ_ hm=>(nomatch hm)⟩⟩,h2,h3,h4⟩
end L2
namespace DL
open PySem.Spec L2
def Mm:Xn->Bool
 |.Starred _ _=>Qt
 |_=>Qf
def kS (h:Mm a=Qf):OP (a::es) env=(Qf,eval a env)::OP es env:=by cases a<;>first|rfl|cases h
def RS.zeJ{d:D}(R:RS K (B++F) H A t σ)(nb:B.Nodup)(dj:∀b∈B,b∉F)(r:T6 K (ah (A++(B++F)) H) H d v B)(hi:i<t.length):∃A',(∀x∈A',x∈B\/x∈A)/\RS K F H A' (t.set i (.dp d)) (σ.set i (Qs v)):=by
 have lb:=r.lists;obtain⟨A2,r2,zaf,nd2⟩:=TK.Y0 (s:=.dp d) (v:=v) (B:=B) (λq=>.dp r q) i R.rel hi;refine⟨A2,zaf,⟨λp hp=>?_,nd2 R.nd nb (λb hb z=>R.dj b z (Ot _ hb)),λp hp=>?_,TK.mono (bf H λx hx=>?_) r2 λ_ _ _ w=>w⟩⟩
 .rcases Ow.mp hp with z|z
  .rcases zaf p z with w|w
   .exact lb p w
   .exact R.mu p (Ot _ w)
  .exact R.mu p (Oq _ (Oq _ z))
 .rcases zaf p hp with w|w
  .exact dj p w
  .exact λz=>R.dj p w (Oq _ z)
 .rcases Ow.mp hx with z|z
  .rcases zaf x z with w|w
   .exact Oq _ (Ot _ w)
   .exact Ot _ w
  .exact Oq _ (Oq _ z)
def RS.less{F':Ql Xl}(R:RS K F H A t σ)(h:∀b∈F',b∈F):RS K F' H A t σ:=⟨λp hp=>R.mu p ((Ow.mp hp).elim (Ot _) λz=>Oq _ (h p z)),R.nd,λp hp z=>R.dj p hp (h p z),TK.mono (bf H λx hx=>(Ow.mp hx).elim (Ot _) λz=>Oq _ (h x z)) R.rel λ_ _ _ w=>w⟩
inductive LDp(K:Ou)(H0 H:Hp)(t:Th)(σ:L2.St)(A:List Xl)(i:Nat)(d:D):Prop
 |mk (v B A':_) (_:σ[i]?=Qs (Qs v)) (_:T6 K H0 H d v B) (_:TK K H0 H (t.set i .no) σ A') (_:(∀x∈A',x∈A)) (_:(∀x∈B,x∈A)) (_:(∀x∈A,x∈B\/x∈A')) (_:B.Nodup) (_:A'.Nodup) (_:(∀x∈A',x∉B))
def TK.zfa:∀{t:Th}{σ:L2.St}{A:Ql Xl},TK K H0 H t σ A->A.Nodup->∀{i:Nat}{d:D},t[i]?=Qs (.dp d)->LDp K H0 H t σ A i d:=by
 intro _ _ _ h
 induction h with
 |nil=>intro n i d e;simp at e
 |@no _ _ _ _ r ih=>
  intro n i d e;cases i with
  |zero=>simp at e
  |succ i=>obtain⟨v,B,A',a1,a2,a3,a4,a5,a6,a7,a8,a9⟩:=ih n (i:=i) (d:=d) (by simpa using e);exact⟨v,B,A',by simpa using a1,a2,.no a3,a4,a5,a6,a7,a8,a9⟩
 |@val _ _ _ _ _ h r ih=>
  intro n i d e;cases i with
  |zero=>simp at e
  |succ i=>obtain⟨v,B,A',a1,a2,a3,a4,a5,a6,a7,a8,a9⟩:=ih n (i:=i) (d:=d) (by simpa using e);exact⟨v,B,A',by simpa using a1,a2,.val h a3,a4,a5,a6,a7,a8,a9⟩
 |@own p _ _ _ _ _ h1 h2 r ih=>
  intro n i d e;cases i with
  |zero=>simp at e
  |succ i=>
   have n0:=OO.mp n;obtain⟨v,B,A',a1,a2,a3,a4,a5,a6,a7,a8,a9⟩:=ih n0.2 (i:=i) (d:=d) (by simpa using e);refine⟨v,B,p::A',by simpa using a1,a2,.own h1 h2 a3,λx hx=>?_,λx hx=>Ov _ (a5 x hx),λx hx=>?_,a7,OO.mpr ⟨λz=>n0.1 (a4 p z),a8⟩,λx hx z=>?_⟩
   .rcases OC.mp hx with w|w
    .rw[w];exact Ox ..
    .exact Ov _ (a4 x w)
   .rcases OC.mp hx with w|w
    .rw[w];exact .inr (Ox ..)
    .exact(a6 x w).imp id (Ov _)
   .rcases OC.mp hx with w|w
    .exact n0.1 (w▸a5 x z)
    .exact a9 x w z
 |@dp _ v C _ _ A h r ih=>
  intro n i d e;cases i with
  |zero=>simp at e;subst e;have n0:=OG.mp n;exact⟨v,C,A,rfl,h,.no r,λx hx=>Oq _ hx,λx hx=>Ot _ hx,λx hx=>Ow.mp hx,n0.1,n0.2.1,λx hx z=>n0.2.2 x z x hx rfl⟩
  |succ i=>
   have n0:=OG.mp n;obtain⟨v,B,A',a1,a2,a3,a4,a5,a6,a7,a8,a9⟩:=ih n0.2.1 (i:=i) (d:=d) (by simpa using e);refine⟨v,B,C++A',by simpa using a1,a2,.dp h a3,λx hx=>?_,λx hx=>Oq _ (a5 x hx),λx hx=>?_,a7,OG.mpr ⟨n0.1,a8,λx hx y hy e=>n0.2.2 x hx y (a4 y hy) e⟩,λx hx z=>?_⟩
   .rcases Ow.mp hx with w|w
    .exact Ot _ w
    .exact Oq _ (a4 x w)
   .rcases Ow.mp hx with w|w
    .exact .inr (Ot _ w)
    .exact(a6 x w).imp id (Oq _)
   .rcases Ow.mp hx with w|w
    .exact n0.2.2 x w x (a5 x z) rfl
    .exact a9 x w z
def RS.zhS (R:RS K F H A t σ)(g:Tj H H')(fr:∀b∈B,H b=Qn)(lb:Ul H' B):RS K (B++F) H' A t σ:=by
 have np:∀b∈B,b∉A++F:=λb hb=>eM R.mu (fr b hb);refine⟨λp hp=>?_,R.nd,λp hp z=>?_,TK.mono (λb o h=>?_) R.rel λb _ o h=>g _ _ h⟩
 .rcases Ow.mp hp with z|z
  .exact(R.mu.mono g) p (Ot _ z)
  .rcases Ow.mp z with z|z
   .exact lb p z
   .exact(R.mu.mono g) p (Oq _ z)
 .rcases Ow.mp z with z|z
  .exact np p z (Ot _ hp)
  .exact R.dj p hp z
 .obtain⟨n,h⟩:=cN h;refine bA (g _ _ h) λz=>?_;rcases Ow.mp z with z|z
  .exact n (Ot _ z)
  .rcases Ow.mp z with z|z
   .rw[fr b z]at h;cases h
   .exact n (Oq _ z)
abbrev DM:=Th->Qo (D×Th)
abbrev nI:=Th->Qo (Ql D×Th)
structure Mv(K:Ou)(F A:List Xl)(H H':Hp)(B A':List Xl)(t':Th)(σ:L2.St):Prop where
 sm:Tj H H'
 nd:B.Nodup
 dj:∀b∈B,b∉F
 rs:RS K (B++F) H' A' t' σ
 fr:∀b∈B,b∈A\/H b=Qn
 sb:∀b∈A',b∈A
inductive dM(K:Ou)(F:List Xl)(f:DM)(σ:L2.St)(H:Hp)(Q:VK):Prop
 |mk (A t d t':_) (_:RS K F H A t σ) (_:f t=Qs (d,t')) (_:∀v H' B A',Mv K F A H H' B A' t' σ->T6 K (ah (A'++(B++F)) H') H' d v B->Q v H')
inductive dMs(K:Ou)(F:List Xl)(f:nI)(σ:L2.St)(H:Hp)(Q:List V->Hp->Prop):Prop
 |mk (A t ds t':_) (_:RS K F H A t σ) (_:f t=Qs (ds,t')) (_:∀vs H' B A',Mv K F A H H' B A' t' σ->TL K (ah (A'++(B++F)) H') H' ds vs B->Q vs H')
inductive zia(K:Ou)(H0 H:Hp)(t:Th)(σ:L2.St)(A:List Xl)(i:Nat)(ds:List D):Prop
 |mk (p vs A':_) (_:σ[i]?=Qs (Qs (.ref p))) (_:H p=Qs (.lst vs)) (_:Ts K H0 ds vs) (_:TK K H0 H (t.set i .no) σ A') (_:(∀x∈A',x∈A)) (_:p∈A) (_:(∀x∈A,x=p\/x∈A')) (_:A'.Nodup) (_:p∉A')
def TK.ze9:∀{t:Th}{σ:L2.St}{A:Ql Xl},TK K H0 H t σ A->A.Nodup->∀{i:Nat}{ds:Ql D},t[i]?=Qs (.own ds)->zia K H0 H t σ A i ds:=by
 intro _ _ _ h
 induction h with
 |nil=>intro n i d e;simp at e
 |@no _ _ _ _ r ih=>
  intro n i d e;cases i with
  |zero=>simp at e
  |succ i=>obtain⟨v,B,A',a1,a2,XU,a3,a4,a5,a6,a7,a8⟩:=ih n (i:=i) (ds:=d) (by simpa using e);exact⟨v,B,A',by simpa using a1,a2,XU,.no a3,a4,a5,a6,a7,a8⟩
 |@val _ _ _ _ _ h r ih=>
  intro n i d e;cases i with
  |zero=>simp at e
  |succ i=>obtain⟨v,B,A',a1,a2,XU,a3,a4,a5,a6,a7,a8⟩:=ih n (i:=i) (ds:=d) (by simpa using e);exact⟨v,B,A',by simpa using a1,a2,XU,.val h a3,a4,a5,a6,a7,a8⟩
 |@own q vs _ _ _ A h1 h2 r ih=>
  intro n i d e;cases i with
  |zero=>simp at e;subst e;have n0:=OO.mp n;exact⟨q,vs,A,rfl,h1,h2,.no r,λx hx=>Ov _ hx,Ox ..,λx hx=>OC.mp hx,n0.2,n0.1⟩
  |succ i=>
   have n0:=OO.mp n;obtain⟨p,vs,A',a1,a2,XU,a3,a4,a5,a6,a7,a8⟩:=ih n0.2 (i:=i) (ds:=d) (by simpa using e);refine⟨p,vs,q::A',by simpa using a1,a2,XU,.own h1 h2 a3,λx hx=>?_,Ov _ a5,λx hx=>?_,OO.mpr ⟨λz=>n0.1 (a4 q z),a7⟩,λz=>?_⟩
   .rcases OC.mp hx with w|w
    .rw[w];exact Ox ..
    .exact Ov _ (a4 x w)
   .rcases OC.mp hx with w|w
    .rw[w];exact .inr (Ox ..)
    .exact(a6 x w).imp id (Ov _)
   .rcases OC.mp z with w|w
    .exact n0.1 (w▸a5)
    .exact a8 w
 |@dp _ _ C _ _ _ h r ih=>
  intro n i d e;cases i with
  |zero=>simp at e
  |succ i=>
   have n0:=OG.mp n;obtain⟨p,vs,A',a1,a2,XU,a3,a4,a5,a6,a7,a8⟩:=ih n0.2.1 (i:=i) (ds:=d) (by simpa using e);refine⟨p,vs,C++A',by simpa using a1,a2,XU,.dp h a3,λx hx=>?_,Oq _ a5,λx hx=>?_,OG.mpr ⟨n0.1,a7,λx hx y hy e=>n0.2.2 x hx y (a4 y hy) e⟩,λz=>?_⟩
   .rcases Ow.mp hx with w|w
    .exact Ot _ w
    .exact Oq _ (a4 x w)
   .rcases Ow.mp hx with w|w
    .exact .inr (Ot _ w)
    .exact(a6 x w).imp id (Oq _)
   .rcases Ow.mp z with w|w
    .exact n0.2.2 p w p a5 rfl
    .exact a8 w
inductive zhW(K:Ou)(F A:List Xl)(H:Hp)(t:Th)(σ:L2.St)(i:Nat)(ds:List D):Prop
 |mk (p vs A':_) (_:σ[i]?=Qs (Qs (.ref p))) (_:RS K ([p]++F) H A' (t.set i .no) σ) (_:p∉F) (_:H p=Qs (.lst vs)) (_:Ts K (ah (A'++([p]++F)) H) ds vs) (_:(∀x∈A',x∈A)) (_:p∈A)
def RS.zel (R:RS K F H A t σ)(e:t[i]?=Qs (.own ds)):zhW K F A H t σ i ds:=by
 obtain⟨p,vs,A',a1,a2,XU,a3,a4,a5,a6,a7,a8⟩:=R.rel.ze9 R.nd e;have s:Tj (ah (A++F) H) (ah (A'++([p]++F)) H):=bf H λx hx=>by
  rcases Ow.mp hx with z|z
  .exact Ot _ (a4 x z)
  .rcases Ow.mp z with z|z
   .rw[Oy.mp z];exact Ot _ a5
   .exact Oq _ z
 refine⟨p,vs,A',a1,⟨λq hp=>?_,a7,λq hp z=>?_,TK.mono s a3 λ_ _ _ w=>w⟩,R.dj p a5,a2,Ts.mono s XU,a4,a5⟩
 .rcases Ow.mp hp with z|z
  .exact R.mu q (Ot _ (a4 q z))
  .rcases Ow.mp z with z|z
   .rw[Oy.mp z];exact R.mu p (Ot _ a5)
   .exact R.mu q (Oq _ z)
 .rcases Ow.mp z with z|z
  .rw[Oy.mp z]at hp;exact a8 hp
  .exact R.dj q (a4 q hp) z
section
variable {fn:DM}{fns:nI}
def eN(f:DE):DM:=λt=>(f t).bind λr=>(toDn r).map λd=>(d,t)
def ME{F:Ql Xl}:Tj (ah (B++(A++F)) H) (ah (A++(B++F)) H):=bf H λx hx=>by
 rcases Ow.mp hx with z|z
 .exact Oq _ (Ot _ z)
 .rcases Ow.mp z with z|z
  .exact Ot _ z
  .exact Oq _ (Oq _ z)
def Bx(he:PE X a (dE X.K F fa)):PE X a (dM X.K F (eN fa)):=by
 refine PE.imp he ?_;rintro σ H Q ⟨A,t,d,t',R,e,h⟩;unfold eN at e;rcases e1:fa t with _|r
 .rw[e1]at e;cases e
 rw[e1]at e;simp only[Oz]at e;rcases e2:toDn r with _|d0
 .rw[e2]at e;cases e
 rw[e2]at e;cases e;refine⟨A,t,r,R,e1,λv H' gs q=>?_⟩;obtain⟨B,b1,b2,b3⟩:=q.toDn R.mu gs e2;exact h v H' B A ⟨gs,b1,λb hb z=>eM R.mu (b2 b hb) (Oq _ z),R.zhS gs b2 b3.lists,λb hb=>.inr (b2 b hb),λb hb=>hb⟩ (T6.mono ME b3 λ_ _ _ w=>w)
def kg:nI:=λt=>Qs ([],t)
def gq(f:DM)(g:nI):nI:=λt=>(f t).bind λq=>(g q.2).bind λw=>Qs (q.1::w.1,w.2)
def Jm:PA X [] (dMs X.K F kg):=PA.imp gF λσ H Q ⟨A,t,ds,t',R,e,h⟩=>by cases e;exact h [] H [] A ⟨Tj.refl H,Pl,λb hb=>(by cases hb),R,λb hb=>(by cases hb),λb hb=>hb⟩ .nil
def Bw(ha:∀F,PE X a (dM X.K F fn))(hr:∀F,PA X es (dMs X.K F fns))(hs:OP (a::es) X.env=(Qf,eval a X.env)::OP es X.env:=by rfl):PA X (a::es) (dMs X.K F (gq fn fns)):=by
 intro p pins s σ H Q I h;obtain⟨A,t,ds,t',R,e,h⟩:=h;unfold gq at e;rcases e1:fn t with _|q1
 .rw[e1]at e;cases e
 obtain⟨d1,t1⟩:=q1;rw[e1]at e;simp only[Oz]at e;rcases e2:fns t1 with _|q2
 .rw[e2]at e;cases e
 obtain⟨VW,t2⟩:=q2;rw[e2]at e;cases e;rw[hs];show wpAny _ _ (spliced ((Qf,eval a X.env)::QJ p (OP es X.env))) _ _ s;refine Calls.spliced_cons (aE (ha F pins s σ H (λv H1=>∃B1 A1,Mv X.K F A H H1 B1 A1 t1 σ/\T6 X.K (ah (A1++(B1++F)) H1) H1 d1 v B1) I ⟨A,t,d1,t1,R,e1,λv H1 B1 A1 m1 r1=>⟨B1,A1,m1,r1⟩⟩) λu s1 ⟨x,H1,I1,rx,B1,A1,m1,r1⟩=>?_);refine aE (hr (B1++F) p pins s1 σ H1 (λvs H2=>Q (x::vs) H2) I1 ⟨A1,t1,VW,t2,m1.rs,e2,λvs H2 B2 A2 m2 r2=>?_⟩) λus s2 ⟨xs,H2,I2,rx2,q2⟩=>⟨x::xs,H2,I2,.cons rx rx2,q2⟩;have l1:Ul H2 B1:=r1.lists.mono m2.sm;have d21:∀b∈B2,b∉B1:=λb hb z=>m2.dj b hb (Ot _ z);have mem:∀x,x∈A2++((B1++B2)++F)->x∈A2++(B2++(B1++F)):=λx hx=>by
  simp only[Ow]at hx ⊢;rcases hx with z|(z|z)|z
  .exact .inl z
  .exact .inr (.inr (.inl z))
  .exact .inr (.inl z)
  .exact .inr (.inr (.inr z))
 have ze3:∀x,x∈(B1++B2)++F->x∈B2++(B1++F):=λx hx=>by
  simp only[Ow]at hx ⊢;rcases hx with(z|z)|z
  .exact .inr (.inl z)
  .exact .inl z
  .exact .inr (.inr z)
 refine h (x::vs) H2 (B1++B2) A2 ⟨m1.sm.trans m2.sm,OG.mpr ⟨m1.nd,m2.nd,λy hy z hz e=>d21 z hz (e▸hy)⟩,λb hb=>?_,m2.rs.less ze3,λb hb=>?_,λb hb=>m1.sb b (m2.sb b hb)⟩ (.cons (B:=B1) (C:=B2) (T6.UC (λy hy=>m2.rs.mu y (mem y hy)) (aZ _ _) (T6.mono (Uv:=ah B1 H2) (λb o w=>?_) r1 λ_ _ _ w=>m2.sm _ _ w)) (TL.mono (bf H2 mem) r2 λ_ _ _ w=>w))
 .rcases Ow.mp hb with z|z
  .exact m1.dj b z
  .exact λw=>m2.dj b z (Oq _ w)
 .rcases Ow.mp hb with z|z
  .exact m1.fr b z
  .rcases m2.fr b z with w|w
   .exact .inl (m1.sb b w)
   .exact .inr (Tj.free m1.sm w)
 .obtain⟨n,w⟩:=cN w;exact bA (m2.sm _ _ w) λz=>n (Oq _ (Ot _ z))
def oC(g:nI):DM:=λt=>(g t).bind λq=>if q.1.length<=1000 then Qs (.tup q.1,q.2) else Qn
def Jn{x1}(h:PA X es (dMs X.K F fns)):PE X (.Tuple es x1 pos) (dM X.K F (oC fns)):=by
 refine PE.imp (wG h) ?_;rintro σ H Q ⟨A,t,d,t',R,e,h⟩;unfold oC at e;rcases e1:fns t with _|q
 .rw[e1]at e;cases e
 obtain⟨ds,t2⟩:=q;rw[e1]at e;simp only[Oz]at e;refine bW e λhl e=>?_;cases e;refine⟨A,t,ds,t',R,e1,λvs H1 B A1 m1 r1=>⟨by rw[r1.length];exact W4 (by lia),λp hp=>?_⟩⟩;have s1:=dX (o:=HO.tup vs) hp;have np:p∉A1++(B++F):=eM m1.rs.mu hp;exact h _ _ B A1 ⟨m1.sm.trans s1,m1.nd,m1.dj,m1.rs.grow s1,m1.fr,m1.sb⟩ (.tup (UA.of (bA bB np)) (TL.mono (cY s1) r1 λ_ _ _ w=>s1 _ _ w))
def pk(f:DM):DS:=λt=>(f t).bind λq=>Qs (.rt (.dn q.1))
def IF(ha:PE X a (dM X.K F fn)):PS X (.Return (Qs a) pos) (dS X.K F (pk fn)):=by refine PS.imp (sq ha) ?_;rintro E σ H ⟨A,t,o,R,e,h⟩;unfold pk at e;refine aB e λq e1 e=>?_;cases e;refine⟨A,t,q.1,q.2,R,e1,λv H' B A' m r1=>h v H' A (Gr.of_same R.mu.left m.sm) ⟨B,m.nd,λb hb=>⟨m.fr b hb,m.dj b hb⟩,T6.mono (bf H' λa z=>Oq _ z) r1 λ_ _ _ w=>w⟩⟩
end
end DL
namespace TS
section
variable (κ π:Keyed->Int)
def rk(x:Keyed):Int:=κ x*1048576+π x
variable {κ π}
variable {X Y out:Ql Keyed}
end
def kA(f:Keyed->Int)(xs:Array Keyed)(i:Nat):Int:=match xs[i]? with
 |some p=>f p
 |none=>0
end TS
namespace L2
open PySem.Spec TS
section
variable {A:Qq}
def Aw{kw:Ql (Str×OM)}{Q:OM->OJ->Prop}{P:Ql OM->Prop}(ha1:argsOk "sorted" ⟨[u],kw⟩)(ha2:∀x,argsOk "list.sort" ⟨[.ref x],kw⟩) (col:∀R:Ql OM->OJ->Prop,(∀(h':Xm) (tk:Nat) (us:Ql OM),(∀b o,s.heap.get? b=Qs o->h'.get? b=Qs o)->s.heap.objs.size<=h'.objs.size->P us->us.length<=100000->R us {s with heap:=h',toks:=tk})->wpAny (model prog w) A.in1 (collect u) R E s) (Yo:∀(h':Xm) (tk:Nat) (us:Ql OM),(∀b o,s.heap.get? b=Qs o->h'.get? b=Qs o)->s.heap.objs.size<=h'.objs.size->P us->us.length<=100000->wpAny (model prog w) A.in1.in1 (Builtin.«list.sort» ⟨[.ref h'.objs.size],kw⟩) (λfin s'=>fin=.done (.ret .none)/\Q (.ref h'.objs.size) s') E {s with heap:=h'.push (seqObj "list" us.toArray 0),toks:=tk}):wpAny (model prog w) A (call (.builtin "sorted") [u] kw) Q E s:=by refine call_function_entry_kw kind_sorted plain_sorted entry_sorted ha1 ?_;unfold Builtin.«sorted»;refine OB (m:=checkCount "sorted" 1 1 _) (OQ ?_);refine OB (col _ λh' tk us hk hz hp hl=>?_);refine OB (wpAny_newList ?_ (by rw[sizeLine_eq];lia));have hoL:(h'.push (seqObj "list" us.toArray 0)).get? h'.objs.size=Qs (seqObj "list" us.toArray 0):=OU _ rfl;refine OB (wpAny_holding (wpAny_call_entry_kw slot_list_sort ⟨_,hoL,rfl⟩ entry_list_sort ?_ (ha2 _)));refine wpAny_mono (Yo h' tk us hk hz hp hl) (λfin s' hq=>?_) λ_ _ e=>e;obtain⟨rfl,hq⟩:=hq;exact⟨_,rfl,OQ ⟨_,rfl,hq⟩⟩
end
end L2
namespace DL
open PySem.Spec L2 TS
def av(n:Nat):Ql Int:=(Pk n).map λ(i:Nat)=>(i:Int)
def Le(n:Nat):(av n).length=n:=by simp[av]
def Lf{x:Int}(h:(av n)[i]?=Qs x):x=(i:Int)/\i<n:=by
 unfold av at h;rw[O1]at h;rcases e:(Pk n)[i]? with _|j
 .rw[e]at h;cases h
 rw[e]at h;obtain⟨h1,h2⟩:=O6.mp e;simp at h1 h2;cases h;exact⟨by rw[h2],h1⟩
def sW{i:Int}(h0:0<=i)(h1:i<=100000):Builtin.Range.rangeFitsLong i=Qt:=by
 unfold Builtin.Range.rangeFitsLong;have e:(2:Int)^63=9223372036854775808:=by decide
 rw[e];simp only[OH,UX];lia
def GV{n:Int}(h0:0<=n)(h1:n<=100000):Builtin.Range.small 0 n 1=Qt:=by
 have rs:Builtin.Range.rangeSize 0 n 1=n:=by simp only[Builtin.Range.rangeSize];lia
 unfold Builtin.Range.small;rw[rs,sW (i:=0) (by lia) (by lia),sW h0 h1,sW (i:=1) (by lia) (by lia),S9 (by lia),sW (i:=n+(1-1)) (by lia) (by lia),P1];rfl
open PySem.Spec L2
def lH(i:Nat):Th->Nat:=λt=>match t[i]? with
 |some (.val (.int n))=>n.natAbs+1
 |_=>0
end DL
namespace TS
def Z4(h:Xm)(d:Xl)(es:Array DictEntry)(ep:Nat):Prop:=∃o,h.get? d=Qs o/\o.ExactDict/\o.data=.dict es ep
def Z4.ty{d:Xl}{es:Array DictEntry}(x:Z4 s.heap d es ep):s.TypeIs (.ref d) "dict":=let ⟨o,a,r,_⟩:=x;⟨o,a,r.1⟩
section
variable {A:Qq}
def HX{d:Xl}{es:Array DictEntry}{Q:OM->OJ->Prop}(nm:(d == sysModules)=Qf)(x:Z4 s.heap d es ep)
  (q:Q (.ref s.heap.objs.size) { s with heap:=s.heap.push { cls:=.type "dict_keyiterator",data:=.fields #[.ref d,.int 0 0,.int es.size 0,.int ep 0] } }):wpAny (model prog w) A (pyIter (.ref d)) Q E s:=by have ty:=x.ty;obtain⟨o,a,r,dd⟩:=x;refine wpAny_pyIter_slot ty Sj (wpAny_call_entry Sj ty PySem.F.entry_dict_iter ?_ (PySem.F.args_dict_iter_1 _));unfold Builtin.«dict.__iter__» Builtin.Dict.dictSlotNone;refine OB (OB (wpAny_notOrdered_dict ty ?_));show wpAny _ _ (pure (OY d)) _ _ s;refine OQ ?_;show wpAny _ _ (Builtin.Dict.showsAll d >>= _) _ _ s;unfold Builtin.Dict.showsAll;rw[Tr (by rw[nm];exact OD)];refine OB (OQ (OB (wpAny_dictEntries a dd (OB (wpAny_dictEpoch a dd ?_)))));exact OB (wpAny_newObj_type (OQ ⟨_,rfl, "dict_keyiterator",_,⟨_,OU _ rfl,rfl⟩,PySem.F.slot_dict_keyiterator_next.lookup,by simpa[rawInt] using q⟩))
def HY{it d:Xl}{es:Array DictEntry}{Q:Qo OM->OJ->Prop}(ki:s.heap.IsKeyIter it d i es.size ep)(x:Z4 s.heap d es ep)(hi:i<es.size)
  (q:∀h',h'.IsKeyIter it d (i+1) es.size ep->Heap.SameBut it s.heap h'->Q (Qs es[i].key) { s with heap:=h' }):wpAny (model prog w) A (pyNext (.ref it)) Q E s:=by
 have ty:=ki.typeIs;obtain⟨o,ho,hc,hd⟩:=ki;obtain⟨od,a,r,dd⟩:=x;have ow:Builtin.Dict_items.ownsTuple "dict_keyiterator"=Qf:=by decide
 have nn : ¬ ((OY d == QS)=Qt):=OD;unfold pyNext;refine OB (wpAny_attempt (wpAny_callSpecial?_slot (name:=Str.ofString "__next__") ty P2 (wpAny_call_entry P2 ty Q1 ?_ (QW _))));refine OB (OQ (OB (OB ?_)))
 first | refine OB (wpAny_typeNameOfWhole_keyiter ty (OQ (OB (wpAny_fieldsOf ho hd ?_)))) |refine OB (wpAny_typeNameOf_keyiter ty (OQ (OB (wpAny_fieldsOf ho hd ?_))))
 simp only[ow,PJ,if_false];show wpAny _ _ (if(OY d == QS)=Qt then _ else _) _ _ s;rw[Tr nn];refine OB (OQ (OB (wpAny_dictEntries a dd ?_)));rw[Tr (by simp)];refine OB (OQ (OB (wpAny_dictEpoch a dd ?_)));rw[Tr (by simp)];refine OQ ?_;have ng : ¬ ((i:Int)<0):=by lia
 simp only[ng,if_false,Qc,RO hi];refine OB ?_
 first | refine OB (wpAny_typeNameOfWhole_keyiter ty (OQ (OB (wpAny_isOneOf_keyiter ty ?_)))) |refine OB (wpAny_typeNameOf_keyiter ty (OQ (OB (wpAny_isOneOf_keyiter ty ?_))))
 show wpAny _ _ (setField (.ref it) 1 (rawInt ((i:Int)+1)) >>= _) _ _ s;refine OB (wpAny_setField ho hd (by simp) ?_);have k2:(s.heap.update it (Obj.mapFields (·.setIfInBounds 1 (rawInt ((i:Int)+1))))).IsKeyIter it d (i+1) es.size ep:=⟨_,Rk _ ho (Obj.isFreed_of_fields (Obj.data_mapFields hd _)),(Obj.cls_mapFields ..).trans hc,by rw[Obj.data_mapFields hd];simp[rawInt]⟩;refine OB (wpAny_holding (OB (wpAny_isOneOf_keyiter (s:={ s with heap:=s.heap.update it (Obj.mapFields (·.setIfInBounds 1 (rawInt ((i:Int)+1)))) }) k2.typeIs ?_)));show wpAny _ _ (pure es[i].key) _ _ _;exact OQ (OQ ⟨_,rfl,OQ (q _ k2 (Heap.SameBut.update ..))⟩)
def HZ{it d:Xl}{es:Array DictEntry}{Q:Qo OM->OJ->Prop}(hh:A.handled=Qn)(ki:s.heap.IsKeyIter it d es.size es.size ep)(x:Z4 s.heap d es ep) (q:∀h',Heap.ExtBut it s.heap h'->Q Qn {s with heap:=h'}):wpAny (model prog w) A (pyNext (.ref it)) Q E s:=by
 have ty:=ki.typeIs;obtain⟨o,ho,hc,hd⟩:=ki;obtain⟨od,a,r,dd⟩:=x;have ow:Builtin.Dict_items.ownsTuple "dict_keyiterator"=Qf:=by decide
 have nn:¬((OY d==QS)=Qt):=OD;unfold pyNext;refine OB (wpAny_attempt (wpAny_callSpecial?_slot (name:=Str.ofString "__next__") ty P2 (wpAny_call_entry P2 ty Q1 ?_ (QW _))));refine OB (OQ (OB (OB ?_)))
 first|refine OB (wpAny_typeNameOfWhole_keyiter ty (OQ (OB (wpAny_fieldsOf ho hd ?_))))|refine OB (wpAny_typeNameOf_keyiter ty (OQ (OB (wpAny_fieldsOf ho hd ?_))))
 simp only[ow,PJ,if_false];show wpAny _ _ (if(OY d==QS)=Qt then _ else _) _ _ s;rw[Tr nn];refine OB (OQ (OB (wpAny_dictEntries a dd ?_)));rw[Tr (by simp)];refine OB (OQ (OB (wpAny_dictEpoch a dd ?_)));rw[Tr (by simp)];refine OQ ?_;have ng:¬((es.size:Int)<0):=by lia
 simp only[ng,if_false,Qc,Array.getElem?_eq_none (OL es.size)];refine OB ?_
 first|refine OB (wpAny_typeNameOfWhole_keyiter ty (OQ ?_))|refine OB (wpAny_typeNameOf_keyiter ty (OQ ?_))
 show wpAny _ _ (setField (.ref it) 0 .none>>=_) _ _ s;refine OB (wpAny_setField ho hd (by simp) ?_);show wpAny _ _ (newExc (.type "StopIteration") []>>=_) _ _ _;refine OB ?_;simp only[newExc,newTuple];refine OB (wpAny_newObj_type (OB (m:=firstArgMember _ _) (wpAny_of_eq (a:=QS) (by first|rfl|(simp only[firstArgMember];rfl)) ?_)) (by size_fits));refine wpAny_newObj_type ?_ (by size_fits);simp only[raiseNew];refine OB (wpAny_handled ?_);rw[show A.in1.handled=Qn from hh];refine OB (OQ (wpAny_throw ?_));refine OB (wpAny_isInstance (T:= "StopIteration") (b:=Qt) ⟨_,OU _ rfl,rfl⟩ isSubtype_stop ?_);exact OQ (q _ (((Heap.SameBut.update ..).extBut.push _).push _))
end
def adr:OM->Xl
 |.ref a=>a
 |_=>0
end TS
namespace DL
open PySem.Spec L2
def Pn(I:Ql Nat)(σ σ':L2.St):Prop:=∀i∈I,σ'[i]?=σ[i]?
inductive dP(K:Ou)(F:List Xl)(I:List Nat)(g:DS)(E:Ends)(σ:L2.St)(H:Hp):Prop
 |mk (A t t':_) (_:RS K F H A t σ) (_:g t=Qs (.nx t')) (_:∀σ' H' A',Gr A H A' H'->RS K F H' A' t' σ'->Pn I σ σ'->E.nx σ' H')
def kL(g:DS):Prop:=∀t o,g t=Qs o->∃t',o=.nx t'
def d4(h1:PS X st (dP X.K F I g1))(h2:Uu X rest (dP X.K F I g2)):Uu X (st::rest) (dP X.K F I (aF g1 g2)):=by
 refine Uu.imp (v3 h1 h2) ?_;rintro E σ H ⟨A,t,t2,R,e,h⟩;unfold aF at e;refine aB e λo1 e1 e=>?_;cases o1 with
 |nx t'=>exact⟨A,t,t',R,e1,λσ' H' A' g' R' n'=>⟨A',t',t2,R',e,λYT Xg A'' g'' R'' n''=>h _ _ _ (g'.trans g'') R'' λi hi=>(n'' i hi).trans (n' i hi)⟩⟩
 |rt r=>cases e
 |bk t2=>cases e
 |ct t2=>cases e
def mz(h1:PS X st (dP X.K F I g1)):Uu X [st] (dP X.K F I g1):=sj h1
end DL
namespace L2
open PySem.Spec
def GG(te:TE)(g1 g2:TG):TS:=λD σ H=>te σ H λx H1=>g1 x σ H1 λσ2 H2=>g2 x σ2 H2 D.nx
def IV{t1 t2:Xn}{g1 g2:TG}(he:PE X e te)(hg1:PG X t1 g1)(hg2:PG X t2 g2)(hs:swapsWithSole [t1,t2] e pos.line X.env=pure Qf:=by rfl)(hw:swappedStores [t1,t2] e X.env=pure Qn:=by rfl) (h1:(assignEach [t1,t2] X.env).map (·.2)=[assign t1 X.env,assign t2 X.env]:=by rfl):PS X (.Assign [t1,t2] e pos) (GG te g1 g2):=by intro pins s σ H D I h;refine wpAny_Assign_stores (aE (he pins s σ H _ I h) λv s1 ⟨x,H1,I1,r1,q1⟩=>?_) hs hw;rw[h1];show wpAny _ _ (holding [v] (assign t1 X.env v)>>=λ_=>assign t2 X.env v) _ _ s1;refine OB (wpAny_holding (aE (hg1 pins s1 σ H1 x v _ I1 r1 q1) λ_ s2 q=>?_));obtain⟨σ2,H2,I2,q2⟩:=q;exact aE (hg2 pins s2 σ2 H2 x v _ I2 r1 q2) λ_ s3 ⟨σ',H',I',q⟩=>⟨σ',H',I',q⟩
def vS:V->V->V->Hp->(Hp->Prop)->Prop:=λo i v H Q=>∃p H',o=.ref p/\YS H p i v H'/\Q H'
def GY(hu:X.A.units+1<cLine):uA X vS:=by intro pins s σ H o i v ov iv u Q I ro ri rv h;obtain⟨p,H',rfl,g,q⟩:=h;cases ro;exact Er hu I g ri rv λs' I'=>⟨H',I',q⟩
end L2
namespace DL
open PySem.Spec L2
def zH(K:Ou)(F:Ql Xl)(g:TG)(k:D->Th->Qo Th):Prop:=∀σ H A t t' d (Q:L2.St->Hp->Prop),RS K F H A t σ->aM d=Qt->k d t=Qs t'->After K F A H Q t'->g (sV d) σ H Q
section
variable {gt2:TG}{kt2:D->Th->Qo Th}
def gu(i:Nat)(fk:DE):D->Th->Qo Th:=λd t=>match ja i fk (dC d) t with
 |some (.nx t')=>Qs t'
 |_=>Qn
def Af:zH X.K F (yn (uO i) (dE X.K F fb) vS) (gu i fb):=by
 intro σ H A t t' d Q R sd e h;unfold gu ja at e;simp only[dC,Oz]at e;rcases e2:fb t with _|kk
 .rw[e2]at e;cases e
 rw[e2]at e;simp only[Oz]at e;rcases eo:jE t i (.cl d) kk with _|o
 .rw[eo]at e;cases e
 rw[eo]at e;unfold jE at eo;split at eo
 case h_2=>cases eo
 rename_i ks ds k z ek;replace eo:=Ve eo;obtain⟨ok,eo⟩:=eo;simp only[OH,UX]at ok;cases eo;cases e;obtain⟨p,a1,a2,l,hp,mk⟩:=R.zcx z ok.1.1;refine⟨_,a1,A,t,kk,R,e2,λy H2 gs q2=>?_⟩;have ey:=mV q2.full ek;subst ey;obtain⟨pz,pl⟩:=A8 k d l;obtain⟨A2,R',g'⟩:=mk H2 _ _ gs pl (A9 sd ok.1.1);have hlen:(cU ks (ds.map sV)).length<O3:=by unfold cU;rw[RI];exact Pa (TM _ _) (OS ok.2 (by rw[sizeLine_eq];decide))
 refine⟨p,_,rfl,YS.k (gs _ _ hp) hlen,?_⟩;rw[pz];exact h _ _ _ g' R'
def m7(k1 k2:D->Th->Qo Th)(f:DE):DS:=λt=>(f t).bind λr=>if aM r.d then(k1 r.d t).bind λt1=>(k2 r.d t1).map Out.nx else Qn
def IL{t1 t2:Xn}(he:PE X a (dE X.K F fa))(hg1:PG X t1 gt)(hg2:PG X t2 gt2)(h1:zH X.K F gt kt)(h2:zH X.K F gt2 kt2)(hs:swapsWithSole [t1,t2] a pos.line X.env=pure Qf:=by rfl)(hw:swappedStores [t1,t2] a X.env=pure Qn:=by rfl) (hh:(assignEach [t1,t2] X.env).map (·.2)=[assign t1 X.env,assign t2 X.env]:=by rfl):PS X (.Assign [t1,t2] a pos) (dS X.K F (m7 kt kt2 fa)):=by
 refine PS.imp (IV he hg1 hg2 hs hw hh) ?_;rintro E σ H ⟨A,t,o,R,e,h⟩;unfold m7 at e;rcases e1:fa t with _|r
 .rw[e1]at e;cases e
 rw[e1]at e;simp only[Oz]at e;replace e:=Ve e;obtain⟨sd,e⟩:=e;rcases e3:kt r.d t with _|ta
 .rw[e3]at e;cases e
 rw[e3]at e;simp only[Oz]at e;rcases e4:kt2 r.d ta with _|tb
 .rw[e4]at e;cases e
 rw[e4]at e;cases e;refine⟨A,t,r,R,e1,λv H1 gs q=>?_⟩;have ev:=mw q.full sd;subst ev;refine h1 σ H1 A t ta r.d _ (R.grow gs) sd e3 λσ2 H2 A2 Vp R2=>?_;refine h2 σ2 H2 A2 ta tb r.d _ R2 sd e4 λσ3 H3 A3 Xa R3=>?_;exact h _ _ _ (((Gr.of_same R.mu.left gs).trans Vp).trans Xa) R3
def BB(i:Nat) (hu:X.A.units+64<cLine)(hb:PE X b (dE X.K F fb))(hN:X.N[i]?=Qs x:=by rfl)(hv:dt X.env.scope x:=by first|exact Or.inl rfl|exact Or.inr (Or.inl rfl)|exact Or.inr (Or.inr rfl))(hd:UR x:=by decide) (UI:Vz x:=by decide) (ha:∀v,assign (.Subscript (.Name x p0) b Vx) X.env v=(do
   let ov<-holding [v] (eval (.Name x p0) X.env)
   let iv<-holding [v,ov] (eval b X.env)
   standAt Vx
   holding [v,ov,iv] (setItem ov iv v)
   release [v,ov,iv] []):=by intro _;rfl):PG X (.Subscript (.Name x p0) b Vx) (yn (uO i) (dE X.K F fb) vS):=wy (dH (i:=i) hN hv hd UI) hb (GY (by lia)) ha
end
end DL
namespace TS
section
variable {A:Qq}
def Eh{I:Xl}{fp:Ql Xl}{items:Array OM}{St:Nat->Xm->Prop}(W:Walks prog w A I fp [I] items.size (λi v=>items[i]?=Qs v) St):∀(n i:Nat) (s:OJ) (Q:Ql OM->OJ->Prop),St i s.heap->i+n<=items.size ->(∀h' tk,St (i+n) h'->(∀b o,b≠I->s.heap.get? b=Qs o->h'.get? b=Qs o)->Q ((items.toList.drop i).take n) { s with heap:=h',toks:=tk })->wpAny (model prog w) A (draw (.ref I) n) Q E s
 |0,i,s,Q,st,_,hQ=>by show wpAny _ _ (pure []) Q E s;exact OQ (by simpa using hQ s.heap s.toks st λ_ _ _ e=>e)
 |n+1,i,s,Q,st,hle,hQ=>by
  have lt:i<items.size:=by lia
  show wpAny _ _ (pyNext (.ref I) >>= _) Q E s;refine OB (W.item i s _ _ lt st λv h1 tk p st1 k1=>?_);have ev:v=items[i]:=by rw[RO lt]at p;exact(O4 p).symm
  subst ev;refine OB (wpAny_holding (Eh W n (i+1) _ _ st1 (by lia) λh2 tk2 Yn k2=>OQ ?_));have hd:items.toList.drop i=items[i]::items.toList.drop (i+1):=by simp[Py,lt]
  have:=hQ h2 tk2 (by rw[show i+(n+1)=i+1+n by lia];exact Yn) λb o nb e=>k2 b o nb (k1 b o (by simpa using nb) e);rw[hd,List.take_succ_cons]at this;exact this
def FE{items:Array OM}{targets:Ql (Bool×(OM->Sem Unit))}{Q:Unit->OJ->Prop}(hh:A.handled=Qn)(hl:s.heap.IsList l items)(hn:targets.length=items.size)(hs:targets.findIdx? (·.1)=Qn) (h:∀h' tk,(∀b o,s.heap.get? b=Qs o->h'.get? b=Qs o)->wpAny (model prog w) A (assignInOrder (targets.map (·.2)) items.toList) Q E {s with heap:=h',toks:=tk}):wpAny (model prog w) A (unpack (.ref l) targets) Q E s:=by
 have ll:l<s.heap.objs.size:=by obtain⟨o,g,_⟩:=hl;exact OT g
 unfold unpack;rw[hn,hs];refine OB (wpAny_holding ?_);unfold unpackItems;refine OB ?_;unfold notIterableAtAll;refine OB (wpAny_specialOf hl.typeIs PySem.F.slot_list_iter.lookup ?_);refine OQ ?_;simp only[PJ,if_false];refine OB (wpAny_holding (wpAny_pyIter_list hl ?_));have W:=Walks.list (prog:=prog) (w:=w) (A:=A) hh s.heap.objs.size l (Ph ll) items;refine OB (wpAny_holding (Eh W items.size 0 _ _ ⟨⟨_,OU _ rfl,rfl,rfl⟩,hl.push _⟩ (by lia) λh1 tk st1 k1=>?_));have Yg:List.take items.size (List.drop 0 items.toList)=items.toList:=by rw[List.drop_zero];exact QN (by simp)
 rw[Yg,Tr (by simp)];rw[QM]at st1;refine OB (wpAny_holding (W.done _ _ _ st1 λh2 tk2 k2=>?_));simp only[Option.isSome_none,PJ,if_false];refine OQ (h h2 tk2 λb o e=>k2 b o (λz=>absurd (OT e) (by rw[Oy.mp z];exact Qg _)) (k1 b o (Ph (OT e)) (OA _ e)))
end
end TS
namespace L2
open PySem.Spec TS
def yq(K:Ou)(n:Nat)(t:fz):TG:=λv σ H Q=>∃a xs,v=.ref a/\TZ K H a xs/\xs.length=n/\t xs σ H Q
def wz{k:Nat}{t:fz}(hc:X.calm=Qt)(h:p9 X es t)(hn:(assignEach es X.env).length=n:=by rfl)(UT:(assignEach es X.env).findIdx? (·.1)=Qn:=by rfl):PG X (.Tuple es k pos) (yq X.K n t):=by intro pins s σ H v u Q I r hw;obtain⟨a,xs,e1,hq,hl,hw⟩:=hw;subst e1;cases r;obtain⟨TH,rv,pl,hz⟩:=I.list hq;rw[arm_assign_Tuple];refine OB (wpAny_standAt (FE (I.ok.hd hc) (DL.PlainL.VE pl) (by simp[hn,<-hl,rv.length]) UT λh' tk hk=>?_));exact h pins _ σ H xs _ Q (I.kept (t':=tk) hk) (by simpa using rv) hw
end L2
namespace DL
open PySem.Spec L2
def kE(n:Nat)(k:Ql D->Th->Qo Th):D->Th->Qo Th:=λd t=>match d with
 |.lst ds=>if ds.length=n then k ds t else Qn
 |_=>Qn
def uN{g':fz}{k':Ql D->Th->Qo Th}(h2:pV K F g' k'):cX K F (yq K n g') (kE n k'):=by
 intro σ H A t t' d x Q R r e h;unfold kE at e;split at e
 .rename_i ds;split at e
  .rename_i hl;cases r with
   |@lst _ p vs h1 hr=>exact⟨p,vs,rfl,TZ.mono (aZ _ _) h1,by rw[hr.length];exact hl,h2 σ H A t t' ds vs Q R hr e h⟩
  .cases e
 .cases e
end DL
namespace L2
open PySem.Spec
def HV{k:aD}{v:OM}(h:jD k v=Qt):RelV (kV k) v:=by
 rcases il h with⟨i,t,rfl,rfl⟩|⟨x,t,rfl,rfl⟩
 .exact⟨t,rfl⟩
 .exact⟨t,rfl⟩
end L2
namespace DL
open PySem.Spec L2
def RS.zaI{d:D}(R:RS K F H A t σ)(e:t[i]?=Qs (.dp d)):∃v B A',σ[i]?=Qs (Qs v)/\RS K (B++F) H A' (t.set i .no) σ/\B.Nodup/\(∀b∈B,b∉F)/\T6 K (ah (A++F) H) H d v B/\(∀x∈A',x∈A)/\(∀x∈B,x∈A):=by
 obtain⟨v,B,A',a1,a2,a3,a4,a5,a6,a7,a8,a9⟩:=R.rel.zfa R.nd e;have s:Tj (ah (A++F) H) (ah (A'++(B++F)) H):=bf H λx hx=>by
  rcases Ow.mp hx with z|z
  .exact Ot _ (a4 x z)
  .rcases Ow.mp z with z|z
   .exact Ot _ (a5 x z)
   .exact Oq _ z
 refine⟨v,B,A',a1,⟨λp hp=>?_,a8,λp hp z=>?_,TK.mono s a3 λ_ _ _ w=>w⟩,a7,λb hb=>R.dj b (a5 b hb),a2,a4,a5⟩
 .rcases Ow.mp hp with z|z
  .exact R.mu p (Ot _ (a4 p z))
  .rcases Ow.mp z with z|z
   .exact R.mu p (Ot _ (a5 p z))
   .exact R.mu p (Oq _ z)
 .rcases Ow.mp z with z|z
  .exact a9 p hp z
  .exact R.dj p (a4 p hp) z
def Jc (hJ:i∉I)(hN:X.N.Nodup)(hi:X.N[i]?=Qs x)(hx:Loc X.env.scope x)(he:PE X a (dE X.K F fa))(hs:swapsWith a (Qs (.Name x pos')) pos.line X.env=pure Qf:=by rfl)(hf:X.fn x=Qt\/X.env.scope.names.lookup x=Qs .local:=by first|exact .inl rfl|exact .inr rfl|assumption):PS X (.Assign [.Name x pos'] a pos) (dP X.K F I (aN i fa)):=by
 refine PS.imp (wg hN hi hx he hs hf) ?_;rintro E σ H ⟨A,t,t',R,e,h⟩;unfold aN at e;rcases e1:fa t with _|r1
 .rw[e1]at e;cases e
 rw[e1]at e;have e:(cR t i r1).map Out.nx=Qs (.nx t'):=e;rcases e2:cR t i r1 with _|t2
 .rw[e2]at e;cases e
 rw[e2]at e;cases e;refine⟨A,t,r1,R,e1,λv H' gs q=>?_⟩;obtain⟨A',g',R'⟩:=R.put gs q e2;exact h _ _ _ g' R' λk hk=>Pc (λ(z:i=k)=>hJ (z▸hk))
def xx(k r:Ev):Qo Ev:=match kh k.d with
 |some kk=>if aM r.d then Qs (.dn (.Uk [kk] [r.d])) else Qn
 |none=>Qn
def ub(fk fv:DE):DE:=λt=>(fk t).bind λk=>(fv t).bind λr=>xx k r
def JD(hk:PE X a (dE X.K F fa))(hv:PE X b (dE X.K F fb)):PE X (.Dict [Qs a] [b] pos) (dE X.K F (ub fa fb)):=by
 refine PE.imp (JS (Ja hk hv I0) rfl rfl (by simp) (by simp)) ?_;rintro σ H Q ⟨A,t,r,R,e,h⟩;intro p hp;unfold ub at e;refine aB e λk e1 e=>?_;refine aB e λv e2 e=>?_;have e:xx k v=Qs r:=e;unfold xx at e;split at e
 case h_2=>cases e
 rename_i kk ek;refine bW e λok e=>?_;cases e;have g0:=dX (o:=.dK []) hp;refine⟨A,t,k,R.grow g0,e1,λx H1 Va q1=>⟨A,t,v,(R.grow g0).grow Va,e2,λy H2 Uq q2=>?_⟩⟩;have ex:=mV q1.full ek;have ey:=mw q2.full ok;subst ex ey;refine⟨Uq _ _ (Va _ _ bB),[(kk,sV v.d)],rfl,by simp,?_⟩;refine h _ _ ?_ ⟨[p],by simp,λb hb=>by simp at hb;subst hb;exact hp,.Uk (vs:=[sV v.d]) rfl bB (va (ds:=[v.d]) (by simp[ok]))⟩;intro c o hc;have n:c≠p:=λz=>by rw[z,hp]at hc;cases hc
 show upd H2 p _ c=Qs o;rw[upd];simp only[n,if_false];exact Uq _ _ (Va _ _ (g0 _ _ hc))
def fX(f:DE):DI:=λt=>(f t).bind λr=>match r.d with
 |.tup ds=>Qs (r.ok,ds)
 |_=>Qn
def GO (hl:vs.length=ds.length):Src K ds (zN K p) (λP H=>UA K (ah P H) p vs/\Ts K (ah P H) ds vs) where
 keep:=λP H P' H' q s=>⟨UA.mono s q.1,Ts.mono s q.2⟩
 stop:=λP H q=>⟨vs,UA.mono (aZ _ _) q.1,by lia⟩
 go:=λP H i q hi=>⟨vs,vs[i]'(by lia),UA.mono (aZ _ _) q.1,OE (by lia)⟩
 Vw:=λP H i x H' q mu y hi=>by obtain⟨e1,e2⟩:=y;subst e1;exact⟨Tj.refl _,q.2.Xb (e2 vs (UA.mono (aZ _ _) q.1))⟩
def sC(hl:PE X a (dE X.K F fa)):PI X tg a (dI X.K F (fX fa)):=by
 refine PI.imp (Jr hl) ?_;rintro σ H R ⟨A,t,b,ds,RR,e,h⟩;unfold fX at e;refine aB e λr e1 e=>?_;refine⟨A,t,r,RR,e1,λv H1 gs q=>?_⟩;have e:(match r.d with|.tup ds=>Qs (r.ok,ds)|_=>Qn)=Qs (b,ds):=e;split at e
 case h_2=>cases e
 rename_i Zg z;cases e;have cl:=T8.Vd RR.mu gs q;rw[z]at cl;cases cl with
 |@tup _ p vs h1 h2=>exact⟨p,rfl,⟨vs,UA.mono (aZ _ _) h1⟩,h _ H1 _ gs (GO h2.length) ⟨h1,h2⟩⟩
mutual
def T6.fl{K:Ou}{H0 H:Hp}:∀{d:D}{v:V}{B:List Xl},T6 K H0 H d v B->flat d=Qt->Rep K H0 d v/\B=[]
 |_,_,_,.flat _ r,_=>⟨r,rfl⟩
 |_,_,_,.tup h r,f=>⟨.tup h (TL.fl r (by simpa[flat] using f)).1,(TL.fl r (by simpa[flat] using f)).2⟩
 |_,_,_,.lst _ _,f=>by simp[flat]at f
 |_,_,_,.Uk _ _ _,f=>by simp[flat]at f
 |_,_,_,.U1 _,f=>by simp[flat]at f
 |_,_,_,.obj _ _ _,f=>by simp[flat]at f
def TL.fl{K:Ou}{H0 H:Hp}:∀{ds:List D}{vs:List V}{B:List Xl},TL K H0 H ds vs B->Ui ds=Qt->Ts K H0 ds vs/\B=[]
 |_,_,_,.nil,_=>⟨.nil,rfl⟩
 |_,_,_,.cons h r,f=>by simp only[Ui,OH]at f;obtain⟨a1,a2⟩:=T6.fl h f.1;obtain⟨b1,b2⟩:=TL.fl r f.2;exact⟨.cons a1 b1,by rw[a2,b2];rfl⟩
end
def yW:DS:=λ_=>Qn
def IG:PS X st (dS X.K F yW):=by intro E pins s σ H I h;obtain⟨A,t,o,R,e,h⟩:=h;cases e
def UW:∀ns:Ql Int,Ui (ns.map D.int)=Qt
 |[]=>rfl
 |n::ns=>by simp[Ui,flat,UW ns]
structure Res where
 γ:Type
 rel:Ou->Hp->Xl->γ->List Xl->Prop
 mono:∀{K:Ou}{H H':Hp}{p:Xl}{w:γ}{B:List Xl},rel K H p w B->(∀b o,H b=Qs o->(sP o=Qf\/b∈B)->H' b=Qs o)->rel K H' p w B
 lists:∀{K:Ou}{H:Hp}{p:Xl}{w:γ}{B:List Xl},rel K H p w B->Ul H B
structure RW(ρ:Res)(K:Ou)(F:List Xl)(H:Hp)(A:List Xl)(t:Th)(σ:L2.St)(p:Xl)(w:ρ.γ)(B:List Xl):Prop where
 rs:RS K (B++F) H A t σ
 rel:ρ.rel K H p w B
 nd:B.Nodup
 dj:∀b∈B,b∉F
def Ch(B:Ql Xl)(H H':Hp):Prop:=∀b o,b∉B->H b=Qs o->H' b=Qs o
def Ch.refl:Ch B H H:=λ_ _ _ h=>h
def Ch.of (g:Tj H H'):Ch B H H':=λb o _ h=>g b o h
def Ch.trans (a:Ch B H H1)(b:Ch B H1 H2):Ch B H H2:=λx o n h=>b x o n (a x o n h)
def gH(B:Ql Xl)(H H':Hp):Hp:=λb=>if b∈B then H' b else H b
def w8{b:Xl}(h:b∈B):gH B H H' b=H' b:=S9 h
def lr{b:Xl}(h:b∉B):gH B H H' b=H b:=Tr h
def oA (c:Ch B H H'):Tj (gH B H H') H':=λb o h=>by
 by_cases z:b∈B
 .rwa [w8 z]at h
 .rw[lr z]at h;exact c b o z h
section
variable {ρ:Res}{B':Ql Xl}{t':Th}{w w':ρ.γ}
def RW.grow(R:RW ρ K F H A t σ p w B)(g:Tj H H'):RW ρ K F H' A t σ p w B:=⟨R.rs.grow g,ρ.mono R.rel λb o h _=>g b o h,R.nd,R.dj⟩
def RW.Yq(R:RW ρ K F H A t σ p w B){b:Xl}(hb:b∈B):b∉A:=λz=>R.rs.dj b z (Ot _ hb)
def RW.step(R:RW ρ K F H A t σ p w B)(g:Gr A H A' H')(R':RS K (B++F) H' A' t' σ'):RW ρ K F H' A' t' σ' p w B:=⟨R',ρ.mono R.rel λb o h k=>g.kp b o (λz=>by
  rcases k with k|k
  .obtain⟨⟨u,m⟩,e⟩:=R.rs.mu b (Ot _ z);have m:sP u=Qt:=m;rw[h]at e;cases e;rw[k]at m;cases m
  .exact R.Yq k z) h,R.nd,R.dj⟩
def RW.chg(R:RW ρ K F H A t σ p w B)(c:Ch B H H')(q:ρ.rel K H' p w' B):RW ρ K F H' A t σ p w' B:=by
 have hs:Tj (ah (A++(B++F)) H) (ah (A++(B++F)) H'):=λb o h=>by obtain⟨n,h⟩:=cN h;exact bA (c b o (λz=>n (Oq _ (Ot _ z))) h) n
 refine⟨⟨λb hb=>?_,R.rs.nd,R.rs.dj,TK.mono hs R.rs.rel λb hb o h=>c b o (λz=>R.Yq z hb) h⟩,q,R.nd,R.dj⟩;by_cases z:b∈B
 .exact ρ.lists q b z
 .obtain⟨o,e⟩:=R.rs.mu b hb;exact⟨o,c b _ z e⟩
def RW.al(R:RW ρ K F H A t σ p w B){b:Xl}(hb:b∈B):H b≠Qn:=by obtain⟨o,e⟩:=ρ.lists R.rel b hb;rw[e];simp
def RW.Y5(R:RW ρ K F H A t σ p w B)(R':RW ρ K F H' A t σ p w' B):Ul (gH B H H') (A++(B++F)):=λb hb=>by
 by_cases z:b∈B
 .rw[w8 z];exact ρ.lists R'.rel b z
 .rw[lr z];exact R.rs.mu b hb
def RW.ze1(R:RW ρ K F H A t σ p w B)(R':RW ρ K F H' A t σ p w' B):RS K (B++F) (gH B H H') A t σ:=by refine⟨R.Y5 R',R.rs.nd,R.rs.dj,TK.mono (λb o h=>?_) R.rs.rel λb hb o h=>by rw[lr λz=>R.Yq z hb];exact h⟩;obtain⟨n,h⟩:=cN h;exact bA (by rw[lr λz=>n (Oq _ (Ot _ z))];exact h) n
def T8.WN(R:RW ρ K F H A t σ p w B)(h:T8 K (B++F) A H H2 r v):T8 K (B++F) A (gH B H H1) H2 r v:=by
 have fr:∀{b:Xl},H b=Qn->gH B H H1 b=Qn:=λ{b} e=>by rw[lr λz=>R.al z e];exact e
 cases r with
 |cl d=>exact h
 |tm d=>exact h
 |nw xs=>obtain⟨q,vs,rfl,h1,h2,h3⟩:=h;exact⟨q,vs,rfl,fr h1,h2,h3⟩
 |dn d=>obtain⟨C,h1,h2,h3⟩:=h;exact⟨C,h1,λb hb=>fr (h2 b hb),h3⟩
def T8.ze2(R':RW ρ K F H1 A t σ p w' B)(h:T8 K (B++F) A (gH B H H1) H2 r v):T8 K (B++F) A H H2 r v:=by
 have fr:∀{b:Xl},gH B H H1 b=Qn->H b=Qn:=λ{b} e=>by
  by_cases z:b∈B
  .rw[w8 z]at e;exact absurd e (R'.al z)
  .rwa [lr z]at e
 cases r with
 |cl d=>exact h
 |tm d=>exact h
 |nw xs=>obtain⟨q,vs,rfl,h1,h2,h3⟩:=h;exact⟨q,vs,rfl,fr h1,h2,h3⟩
 |dn d=>obtain⟨C,h1,h2,h3⟩:=h;exact⟨C,h1,λb hb=>fr (h2 b hb),h3⟩
def T8.zcf(R:RW ρ K F H A t σ p w B)(h:T8 K (B++F) A H H1 r v)(c:Ch B H1 H2):T8 K (B++F) A H H2 r v:=by
 have hs:∀P:Ql Xl,(∀b∈B,b∈P)->Tj (ah P H1) (ah P H2):=λP hP b o h=>by obtain⟨n,h⟩:=cN h;exact bA (c b o (λz=>n (hP b z)) h) n
 have s1:=hs (A++(B++F)) λb hb=>Oq _ (Ot _ hb);cases r with
 |cl d=>exact Rep.mono s1 h
 |tm d=>exact Rep.mono (hs (B++F) λb hb=>Ot _ hb) h
 |nw xs=>obtain⟨q,vs,rfl,h1,h2,h3⟩:=h;exact⟨q,vs,rfl,h1,c q _ (λz=>R.al z h1) h2,Ts.mono (hs _ λb hb=>Ov _ (Oq _ (Ot _ hb))) h3⟩
 |dn d=>obtain⟨C,h1,h2,h3⟩:=h;exact⟨C,h1,h2,T6.mono (hs _ λb hb=>Oq _ (Oq _ (Ot _ hb))) h3 λb hb o e=>c b o (λz=>R.al z (h2 b hb)) e⟩
def T8.early(R1:RW ρ K F H1 A t σ p w B)(c:Ch B H H1)(h:T8 K (B++F) A H1 H2 r v):T8 K (B++F) A H H2 r v:=by
 have fr:∀{b:Xl},H1 b=Qn->H b=Qn:=λ{b} e=>by
  cases z:H b with
  |none=>rfl
  |some o=>
   by_cases y:b∈B
   .exact absurd e (R1.al y)
   .rw[c b o y z]at e;cases e
 cases r with
 |cl d=>exact h
 |tm d=>exact h
 |nw xs=>obtain⟨q,vs,rfl,h1,h2,h3⟩:=h;exact⟨q,vs,rfl,fr h1,h2,h3⟩
 |dn d=>obtain⟨C,h1,h2,h3⟩:=h;exact⟨C,h1,λb hb=>fr (h2 b hb),h3⟩
def UQ.early(R1:RW ρ K F H1 A t σ p w B)(c:Ch B H H1):∀{rs:Ql Ev}{vs:Ql V},UQ K (B++F) A H1 H2 rs vs->UQ K (B++F) A H H2 rs vs
 |_,_,.nil=>.nil
 |_,_,.cons h r=>.cons (h.early R1 c) (UQ.early R1 c r)
def UQ.WN(R:RW ρ K F H A t σ p w B):∀{rs:Ql Ev}{vs:Ql V},UQ K (B++F) A H H2 rs vs->UQ K (B++F) A (gH B H H1) H2 rs vs
 |_,_,.nil=>.nil
 |_,_,.cons h r=>.cons (h.WN R) (UQ.WN R r)
end
abbrev WE(ρ:Res):=Th->ρ.γ->Qo (Ev×ρ.γ)
abbrev WA(ρ:Res):=Th->ρ.γ->Qo (Ql Ev×ρ.γ)
abbrev WT(ρ:Res):=Th->ρ.γ->Qo (Bool×ρ.γ)
inductive wE(ρ:Res)(K:Ou)(F:List Xl)(p:Xl)(f:WE ρ)(σ:L2.St)(H:Hp)(Q:VK):Prop
 |mk (A B t w r w':_) (_:RW ρ K F H A t σ p w B) (_:f t w=Qs (r,w')) (_:∀v H',Ch B H H'->RW ρ K F H' A t σ p w' B->T8 K (B++F) A H H' r v->Q v H')
inductive wA(ρ:Res)(K:Ou)(F:List Xl)(p:Xl)(f:WA ρ)(σ:L2.St)(H:Hp)(Q:List V->Hp->Prop):Prop
 |mk (A B t w rs w':_) (_:RW ρ K F H A t σ p w B) (_:f t w=Qs (rs,w')) (_:∀vs H',Ch B H H'->RW ρ K F H' A t σ p w' B->UQ K (B++F) A H H' rs vs->Q vs H')
inductive wT(ρ:Res)(K:Ou)(F:List Xl)(p:Xl)(f:WT ρ)(σ:L2.St)(H:Hp)(Q:Bool->Hp->Prop):Prop
 |mk (A B t w b w':_) (_:RW ρ K F H A t σ p w B) (_:f t w=Qs (b,w')) (_:∀H',Ch B H H'->RW ρ K F H' A t σ p w' B->Q b H')
def bQ(ρ:Res)(f:DE):WE ρ:=λt w=>(f t).map λr=>(r,w)
def j4(ρ:Res)(f:DT):WT ρ:=λt w=>(f t).map λr=>(r,w)
def cW{ρ:Res}(k:Ev->Ev->Qo Ev)(fa fb:WE ρ):WE ρ:=λt w=>(fa t w).bind λq1=>(fb t q1.2).bind λq2=>(k q1.1 q2.1).map λr=>(r,q2.2)
def V4{ρ:Res}:WA ρ:=λ_ w=>Qs ([],w)
def bZ{ρ:Res}(f:WE ρ)(g:WA ρ):WA ρ:=λt w=>(f t w).bind λq1=>(g t q1.2).bind λq2=>Qs (q1.1::q2.1,q2.2)
def ml{ρ:Res}(f:WE ρ):WT ρ:=λt w=>(f t w).bind λq=>match q.1.d with
 |.bl b=>Qs (b,q.2)
 |_=>Qn
def zca{ρ:Res}(f:WT ρ):WT ρ:=λt w=>(f t w).map λq=>(!q.1,q.2)
def XB{ρ:Res}(f g:WT ρ):WT ρ:=λt w=>(f t w).bind λq=>if q.1 then Qs q else g t q.2
def zcb{ρ:Res}(f g:WT ρ):WT ρ:=λt w=>(f t w).bind λq=>if q.1 then g t q.2 else Qs q
section
variable {ρ:Res}{fa fb fc:WE ρ}{g:WA ρ}{ft fu:WT ρ}
def bJ{f:DE}(h:∀F',PE X a (dE X.K F' f)):PE X a (wE ρ X.K F p (bQ ρ f)):=by
 rintro pins s σ H Q I ⟨A,B,t,w,r,w',R,e,k⟩;unfold bQ at e;rcases e1:f t with _|r1
 .rw[e1]at e;cases e
 rw[e1]at e;cases e;exact h (B++F) pins s σ H Q I ⟨A,t,_,R.rs,e1,λv H' gs q=>k v H' (Ch.of gs) (R.grow gs) q⟩
def Bc{f:DT}(h:∀F',PT X a (dT X.K F' f)):PT X a (wT ρ X.K F p (j4 ρ f)):=by
 rintro pins s σ H Q I ⟨A,B,t,w,r,w',R,e,k⟩;unfold j4 at e;rcases e1:f t with _|r1
 .rw[e1]at e;cases e
 rw[e1]at e;cases e;exact h (B++F) pins s σ H Q I ⟨A,t,_,R.rs,e1,λH' gs=>k H' (Ch.of gs) (R.grow gs)⟩
inductive zhU(ρ:Res)(X:Cx)(F:List Xl)(p:Xl)(fa fb:WE ρ)(k:Ev->Ev->Option Ev)(σ:L2.St)(H:Hp)(Q:VK):Prop
 |mk (A B t w r1 r2 r w':_) (_:RW ρ X.K F H A t σ p w B) (_:k r1 r2=Qs r) (_:(∀v H',Ch B H H'->RW ρ X.K F H' A t σ p w' B->T8 X.K (B++F) A H H' r v->Q v H')) (_:wE ρ X.K F p fa σ H λx H1=>wE ρ X.K F p fb σ H1 λy H2=>Ch B H H2/\RW ρ X.K F H2 A t σ p w' B/\T8 X.K (B++F) A H H2 r1 x/\T8 X.K (B++F) A H H2 r2 y)
def uK{k:Ev->Ev->Qo Ev}(h:wE ρ X.K F p (cW k fa fb) σ H Q):zhU ρ X F p fa fb k σ H Q:=by
 obtain⟨A,B,t,w,r,w',R,e,h⟩:=h;unfold cW at e;rcases e1:fa t w with _|q1
 .rw[e1]at e;cases e
 rw[e1]at e;have e:((fb t q1.2).bind λq2=>(k q1.1 q2.1).map λr=>(r,q2.2))=Qs (r,w'):=e;rcases e2:fb t q1.2 with _|q2
 .rw[e2]at e;cases e
 rw[e2]at e;have e:((k q1.1 q2.1).map λr=>(r,q2.2))=Qs (r,w'):=e;rcases e3:k q1.1 q2.1 with _|r0
 .rw[e3]at e;cases e
 rw[e3]at e;cases e;exact⟨A,B,t,w,q1.1,q2.1,_,_,R,e3,h,A,B,t,w,q1.1,q1.2,R,e1,λx H1 c1 R1 v1=>⟨A,B,t,q1.2,q2.1,q2.2,R1,e2,λy H2 c2 R2 v2=>⟨c1.trans c2,R2,v1.zcf R c2,v2.early R1 c1⟩⟩⟩
def yJ{H3:Hp}{w w':ρ.γ}{z:V}(R:RW ρ X.K F H A t σ p w B)(R2:RW ρ X.K F H2 A t σ p w' B)(c:Ch B H H2)(gs:Tj H2 H3)(q:T8 X.K (B++F) A (gH B H H2) H3 r z) (h:∀v H',Ch B H H'->RW ρ X.K F H' A t σ p w' B->T8 X.K (B++F) A H H' r v->Q v H'):Q z H3:=h z H3 (c.trans (Ch.of gs)) (R2.grow gs) (q.ze2 R2)
def gC{k:Ev->Ev->Qo Ev}(ho:∀F',Vh X F' (binaryOp op) k)(ha:PE X a (wE ρ X.K F p fa))(hb:PE X b (wE ρ X.K F p fb)):PE X (.BinOp a op b pos) (wE ρ X.K F p (cW k fa fb)):=by intro pins s σ H Q I h;obtain⟨A,B,t,w,r1,r2,r,w',R,e,h,k⟩:=uK h;refine wpAny_BinOp (uj ha hb I k λv u s2 x y H2 I2 rx ry q=>?_);obtain⟨c,R2,q1,q2⟩:=q;exact ho (B++F) pins s2 σ (gH B H H2) H2 A x y v u Q r1 r2 r I2 (R.Y5 R2) (oA c) rx ry (q1.WN R) (q2.WN R) e λz H' g' q'=>yJ R R2 c g' q' h
def Be{op:CmpOp}{k:Ev->Ev->Qo Ev}(ho:∀F',Vh X F' (compareOp op) k)(ha:PE X a (wE ρ X.K F p fa))(hb:PE X b (wE ρ X.K F p fb))(hm:behindInMarks op b=Qf:=by first|exact wV _|(with_unfolding_all rfl)):PT X (.Compare a [op] [b] pos) (wT ρ X.K F p (ml (cW k fa fb))):=by
 rintro pins s σ H Q I ⟨A0,B0,t0,w0,b',w0',R0,e0,h0⟩;unfold ml at e0;refine aB e0 λq0 e1 e0=>?_;have e0:(match q0.1.d with|.bl b=>Qs (b,q0.2)|_=>Qn)=Qs (b',w0'):=e0;have w1:wE ρ X.K F p (cW k fa fb) σ H (λz H'=>Ch B0 H H'/\RW ρ X.K F H' A0 t0 σ p q0.2 B0/\Rep X.K H' q0.1.d z):=⟨A0,B0,t0,w0,q0.1,q0.2,R0,e1,λv H' c R q=>⟨c,R,q.full⟩⟩;obtain⟨A,B,t,w,r1,r2,r,w',R,e,h,k⟩:=uK w1;refine wpAny_isTrue_Compare1 (uj ha hb I k λv u s2 x y H2 I2 rx ry q=>?_) hm;obtain⟨c,R2,q1,q2⟩:=q;refine aE (ho (B++F) pins s2 σ (gH B H H2) H2 A x y v u (λz H'=>Ch B0 H H'/\RW ρ X.K F H' A0 t0 σ p q0.2 B0/\Rep X.K H' q0.1.d z) r1 r2 r I2 (R.Y5 R2) (oA c) rx ry (q1.WN R) (q2.WN R) e λz H' g' q'=>yJ R R2 c g' q' h) λcc s3 ⟨z,H3,I3,r3,c3,R3,q3⟩=>?_;split at e0
 .rename_i b2 z2;cases e0;rw[z2]at q3;cases q3;cases r3;exact wpAny_truthy_bool ⟨H3,I3,h0 H3 c3 R3⟩
 .cases e0
def Im{op}(ha:PT X a (wT ρ X.K F p ft)):PW X (.BoolOp op [a] pos) (wT ρ X.K F p ft):=by
 cases op with
 |And=>exact A7 ha
 |Or=>exact A4 ha
def Il(ha:PT X a (wT ρ X.K F p ft))(hb:PW X (.BoolOp .Or (b::rest) pos) (wT ρ X.K F p fu)):PW X (.BoolOp .Or (a::b::rest) pos) (wT ρ X.K F p (XB ft fu)):=by
 refine PW.imp (A6 ha hb) ?_;rintro σ H Q ⟨A,B,t,w,r,w',R,e,h⟩;unfold XB at e;refine aB e λq e1 e=>?_;obtain⟨q1,q2⟩:=q;refine⟨A,B,t,w,q1,q2,R,e1,λH1 c1 R1=>?_⟩;cases q1 with
 |true=>cases e;exact h H1 c1 R1
 |false=>exact⟨A,B,t,q2,r,w',R1,e,λH2 c2 R2=>h H2 (c1.trans c2) R2⟩
def gE:PA X [] (wA ρ X.K F p V4):=PA.imp gF λσ H Q ⟨A,B,t,w,rs,w',R,e,h⟩=>by cases e;exact h [] H Ch.refl R .nil
def df(ha:PE X a (wE ρ X.K F p fa))(hr:PA X es (wA ρ X.K F p g))(hs:OP (a::es) X.env=(Qf,eval a X.env)::OP es X.env:=by rfl):PA X (a::es) (wA ρ X.K F p (bZ fa g)):=by refine PA.imp (gm ha hr hs) ?_;rintro σ H Q ⟨A,B,t,w,rs,w',R,e,h⟩;unfold bZ at e;refine aB e λq1 e1 e=>?_;have e:((g t q1.2).bind λq2=>Qs (q1.1::q2.1,q2.2))=Qs (rs,w'):=e;refine aB e λq2 e2 e=>?_;cases e;exact⟨A,B,t,w,q1.1,q1.2,R,e1,λx H1 c1 R1 v1=>⟨A,B,t,q1.2,q2.1,q2.2,R1,e2,λxs H2 c2 R2 v2=>h _ _ (c1.trans c2) R2 (.cons (v1.zcf R c2) (v2.early R1 c1))⟩⟩
def Mh{x:V}{r1 r2:Ev}(m:Ul H0 (A++F))(gs:Tj H0 H2)(q1:T8 X.K F A H0 H2 r1 x)(q2:T8 X.K F A H0 H2 r2 y)(e:az r1 r2=Qs r)(h:∀v,T8 X.K F A H0 H2 r v->Q v H2):oj X.K x y H2 Q\/rX X.K x y H2 Q:=by
 have p2:=q2.full;have m2:=m.mono gs;have key:∀(P:Ql Xl),Rep X.K (ah P H2) r1.d x->(∀d v,Rep X.K (ah P H2) d v->T8 X.K F A H0 H2 (if r1.ok||flat d then Ev.cl d else Ev.tm d) v)->oj X.K x y H2 Q\/rX X.K x y H2 Q:=λP hP fin=>by
  unfold az at e;split at e
  .rename_i ds i z1 z2;rw[z2]at p2;cases cI p2;rw[z1]at hP;cases hP with
   |@lst _ p vs h1 h2=>
    rcases e4:UO ds i with _|d
    .rw[e4]at e;cases e
    rw[e4]at e;have e:(if r1.ok||flat d then Ev.cl d else Ev.tm d)=r:=by simpa using e
    obtain⟨v,e5,rv⟩:=Ts.UO h2 e4;exact .inl ⟨p,vs,i,v,rfl,rfl,TZ.mono (aZ _ _) h1,e5,h v (e▸fin d v rv)⟩
  .rename_i ds i z1 z2;rw[z2]at p2;cases cI p2;rw[z1]at hP;cases hP with
   |@tup _ p vs h1 h2=>
    rcases e4:UO ds i with _|d
    .rw[e4]at e;cases e
    rw[e4]at e;have e:(if r1.ok||flat d then Ev.cl d else Ev.tm d)=r:=by simpa using e
    obtain⟨v,e5,rv⟩:=Ts.UO h2 e4;exact .inr ⟨p,vs,i,v,rfl,rfl,UA.mono (aZ _ _) h1,e5,h v (e▸fin d v rv)⟩
  .cases e
 by_cases c:r1.ok=Qt
 .refine key (A++F) (q1.clean m gs c) λd v rv=>?_;rw[c,SG,S9 rfl];exact rv
 .refine key F (q1.WW m) λd v rv=>?_;have c:r1.ok=Qf:=by simpa using c
  rw[c,Q8];split
  .rename_i f;exact Rep.UC m2 f (Rep.mono (aZ _ _) rv)
  .exact rv
def BD(ha:PE X a (wE ρ X.K F p fa))(hb:PE X b (wE ρ X.K F p fb))(hs:pY b:=by intro _ _;rfl):PE X (.Subscript a b pos) (wE ρ X.K F p (cW az fa fb)):=by refine PE.imp (sH (zaq.or xA) ha hb hs) ?_;rintro σ H Q h0;obtain⟨A,B,t,w,r1,r2,r,w',R,e,h,k⟩:=uK h0;obtain⟨A1,B1,t1,w1,r11,w11,R1,e1,k1⟩:=k;refine⟨A1,B1,t1,w1,r11,w11,R1,e1,λx H1 c1 R1' q1=>?_⟩;obtain⟨A2,B2,t2,w2,r22,w22,R2,Zf,k2⟩:=k1 x H1 c1 R1' q1;refine⟨A2,B2,t2,w2,r22,w22,R2,Zf,λy H2 c2 R2' q2=>?_⟩;obtain⟨c,R3,v1,v2⟩:=k2 y H2 c2 R2' q2;exact Mh (X:=X) (R.Y5 R3) (oA c) (v1.WN R) (v2.WN R) e λv q=>yJ R R3 c (Tj.refl _) q h
end
end DL
variable{ρ:DL.Res}
namespace DL
open PySem.Spec L2
inductive OW(γ:Type) where
 |nx (t:Th) (w:γ)|rt (r:Ev) (w:γ)|bk (t:Th) (w:γ)|ct (t:Th) (w:γ)
abbrev WS(ρ:Res):=Th->ρ.γ->Qo (OW ρ.γ)
def uD(ρ:Res)(K:Ou)(F:Ql Xl)(p:Xl)(A B:Ql Xl)(H:Hp)(N:L2.St->Hp->Prop)(t:Th)(w:ρ.γ):Prop:=∀σ' H' A' B',Gr (A++B) H (A'++B') H'->RW ρ K F H' A' t σ' p w B'->N σ' H'
def Ol(ρ:Res)(K:Ou)(F:Ql Xl)(p:Xl)(A B:Ql Xl)(H:Hp)(N:VK)(r:Ev)(w:ρ.γ):Prop:=∀v H' A' B',Gr (A++B) H (A'++B') H'->ρ.rel K H' p w B'->B'.Nodup->(∀b∈B',b∉F)->Wo K (B'++F) (A++B) H H' r v->N v H'
def Yj(ρ:Res)(K:Ou)(F:Ql Xl)(p:Xl)(A B:Ql Xl)(H:Hp)(E:Ends):OW ρ.γ->Prop
 |.nx t w=>uD ρ K F p A B H E.nx t w
 |.bk t w=>uD ρ K F p A B H E.bk t w
 |.ct t w=>uD ρ K F p A B H E.ct t w
 |.rt r w=>Ol ρ K F p A B H E.rt r w
inductive wS(ρ:Res)(K:Ou)(F:List Xl)(p:Xl)(g:WS ρ)(E:Ends)(σ:L2.St)(H:Hp):Prop
 |mk (A B t w o:_) (_:RW ρ K F H A t σ p w B) (_:g t w=Qs o) (_:Yj ρ K F p A B H E o)
def Yj.back{ρ:Res}{K:Ou}{F:Ql Xl}{p:Xl}{A B A1 B1:Ql Xl}{H H1:Hp}{E:Ends}{o:OW ρ.γ}(h:Yj ρ K F p A B H E o)(g:Gr (A++B) H (A1++B1) H1):Yj ρ K F p A1 B1 H1 E o:=by
 cases o with
 |nx t w=>exact λσ' H' A' B' g' R=>h σ' H' A' B' (g.trans g') R
 |bk t w=>exact λσ' H' A' B' g' R=>h σ' H' A' B' (g.trans g') R
 |ct t w=>exact λσ' H' A' B' g' R=>h σ' H' A' B' (g.trans g') R
 |rt r w=>exact λv H' A' B' g' q n d R=>h v H' A' B' (g.trans g') q n d (R.back g)
section
variable {B':Ql Xl}{t':Th}{w w':ρ.γ}
def RW.ZU(R:RW ρ K F H A t σ p w B)(g:Gr A H A' H'):Gr (A++B) H (A'++B) H' where
 kp:=λb o n h=>g.kp b o (λz=>n (Ot _ z)) h
 al:=λb hb=>by
  rcases Ow.mp hb with z|z
  .exact g.al b z
  .obtain⟨o,e⟩:=ρ.lists R.rel b z;rw[g.kp b _ (R.Yq z) e];simp
 nw:=λb hb=>by
  rcases Ow.mp hb with z|z
  .exact(g.nw b z).imp (Ot _) id
  .exact .inl (Oq _ z)
def RW.XR(c:Ch B H H')(R':RW ρ K F H' A t σ p w' B):Gr (A++B) H (A++B) H' where
 kp:=λb o n h=>c b o (λz=>n (Oq _ z)) h
 al:=λb hb=>by
  rcases Ow.mp hb with z|z
  .obtain⟨o,e⟩:=R'.rs.mu b (Ot _ z);rw[e];simp
  .exact R'.al z
 nw:=λb hb=>.inl hb
def Wo.weak(h:Wo K F A H H' r v)(s:∀b∈A,b∈A'):Wo K F A' H H' r v:=by
 cases r with
 |cl d=>exact h
 |tm d=>exact h
 |nw xs=>obtain⟨q,vs,rfl,h1,h2,h3,h4⟩:=h;exact⟨q,vs,rfl,h1.imp (s q) id,h2,h3,h4⟩
 |dn d=>obtain⟨C,h0,h1,h2⟩:=h;exact⟨C,h0,λb hb=>⟨(h1 b hb).1.imp (s b) id,(h1 b hb).2⟩,h2⟩
def RW.put{i:Nat}(R:RW ρ K F H A t σ p w B)(c:Ch B H H')(R':RW ρ K F H' A t σ p w' B)(q:T8 K (B++F) A H H' r v)(e:cR t i r=Qs t'):∃A',Gr (A++B) H (A'++B) H'/\RW ρ K F H' A' t' (σ.set i (Qs v)) p w' B:=by
 obtain⟨A',g,RR⟩:=(R.ze1 R').put (oA c) (q.WN (H1:=H') R) e;refine⟨A',⟨λb o n h=>c b o (λz=>n (Oq _ z)) h,λb hb=>?_,λb hb=>?_⟩,RR,R'.rel,R'.nd,R'.dj⟩
 .rcases Ow.mp hb with z|z
  .exact g.al b z
  .exact R'.al z
 .rcases Ow.mp hb with z|z
  .rcases g.nw b z with y|y
   .exact .inl (Ot _ y)
   .by_cases x:b∈B
    .exact .inl (Oq _ x)
    .rw[lr x]at y;exact .inr y
  .exact .inl (Oq _ z)
end
def oL{γ:Type}(w:γ):Out->OW γ
 |.nx t=>.nx t w
 |.rt r=>.rt r w
 |.bk t=>.bk t w
 |.ct t=>.ct t w
def ez(ρ:Res)(g:DS):WS ρ:=λt w=>(g t).map (oL w)
def rM{ρ:Res}:WS ρ:=λt w=>Qs (.nx t w)
def cg{ρ:Res}(g1 g2:WS ρ):WS ρ:=λt w=>(g1 t w).bind λo=>match o with
 |.nx t' w'=>g2 t' w'
 |.rt r w'=>Qs (.rt r w')
 |.bk t' w'=>Qs (.bk t' w')
 |.ct t' w'=>Qs (.ct t' w')
def jq{ρ:Res}(c:WT ρ)(g1 g2:WS ρ):WS ρ:=λt w=>(c t w).bind λq=>if q.1 then g1 t q.2 else g2 t q.2
def j8{ρ:Res}(f:WE ρ):WS ρ:=λt w=>(f t w).map λq=>.rt q.1 q.2
def e9{ρ:Res}(i:Nat)(f:WE ρ):WS ρ:=λt w=>(f t w).bind λq=>(cR t i q.1).map λt'=>.nx t' q.2
def fM{ρ:Res}(k:D->Th->Qo Th)(body:WS ρ):Ql D->Th->ρ.γ->Qo (OW ρ.γ)
 |[],t,w=>Qs (.nx t w)
 |d::ds,t,w=>(k d t).bind λt1=>(body t1 w).bind λo=>match o with
  |.nx t' w'=>fM k body ds t' w'
  |.ct t' w'=>fM k body ds t' w'
  |.bk t' w'=>Qs (.nx t' w')
  |.rt r w'=>Qs (.rt r w')
section
variable {fa fb fc:WE ρ}{g g1 g2:WS ρ}{ft fu:WT ρ}
def gP{f:DS}(h:∀F',PS X st (dS X.K F' f)):PS X st (wS ρ X.K F p (ez ρ f)):=by
 rintro pins s σ H E I ⟨A,B,t,w,o,R,e,k⟩;unfold ez at e;rcases e1:f t with _|o1
 .rw[e1]at e;cases e
 rw[e1]at e;have e:oL w o1=o:=by simpa using e
 subst e;refine h (B++F) pins s σ H E I (kH R.rs e1 ?_);cases o1 with
 |nx t'=>exact λσ' H' A' g' R'=>k σ' H' A' B (R.ZU g') (R.step g' R')
 |bk t'=>exact λσ' H' A' g' R'=>k σ' H' A' B (R.ZU g') (R.step g' R')
 |ct t'=>exact λσ' H' A' g' R'=>k σ' H' A' B (R.ZU g') (R.step g' R')
 |rt r=>
  refine λv H' A' g' q=>k v H' A' B (R.ZU g') (ρ.mono R.rel λb o h y=>g'.kp b o (λz=>?_) h) R.nd R.dj (q.weak λb hb=>Ot _ hb);rcases y with y|y
  .obtain⟨⟨u,m⟩,e⟩:=R.rs.mu b (Ot _ z);have m:sP u=Qt:=m;rw[h]at e;cases e;rw[y]at m;cases m
  .exact R.Yq y z
def vY:Uu X [] (wS ρ X.K F p rM):=by
 refine Uu.imp Bj ?_;rintro E σ H ⟨A,B,t,w,o,R,e,h⟩;cases e;refine h σ H A B (Gr.refl λb hb=>?_) R;rcases Ow.mp hb with z|z
 .exact R.rs.mu b (Ot _ z)
 .exact ρ.lists R.rel b z
def dF(h1:PS X st (wS ρ X.K F p g1))(h2:Uu X sts (wS ρ X.K F p g2)):Uu X (st::sts) (wS ρ X.K F p (cg g1 g2)):=by
 refine Uu.imp (v3 h1 h2) ?_;rintro E σ H ⟨A,B,t,w,o,R,e,h⟩;unfold cg at e;refine aB e λo1 e1 e=>?_;refine⟨A,B,t,w,o1,R,e1,?_⟩;cases o1 with
 |nx t' w'=>exact λσ' H' A' B' g' R'=>⟨A',B',t',w',o,R',e,h.back g'⟩
 |rt r w'=>cases e;exact h
 |bk t2 w'=>cases e;exact h
 |ct t2 w'=>cases e;exact h
def iP(h1:PS X st (wS ρ X.K F p g1)):Uu X [st] (wS ρ X.K F p g1):=sj h1
def vZ{s1 s2:Ql Xo}(hc:PT X c (wT ρ X.K F p ft))(ha:Uu X s1 (wS ρ X.K F p g1))(hb:Uu X s2 (wS ρ X.K F p g2)):PS X (.If c s1 s2 pos) (wS ρ X.K F p (jq ft g1 g2)):=by
 refine PS.imp (Bm hc ha hb) ?_;rintro E σ H ⟨A,B,t,w,o,R,e,h⟩;unfold jq at e;refine aB e λq e1 e=>?_;obtain⟨r1,w1⟩:=q;refine⟨A,B,t,w,r1,w1,R,e1,λH1 c1 R1=>?_⟩;cases r1 with
 |true=>exact⟨A,B,t,w1,o,R1,e,h.back (RW.XR c1 R1)⟩
 |false=>exact⟨A,B,t,w1,o,R1,e,h.back (RW.XR c1 R1)⟩
def si(ha:PE X a (wE ρ X.K F p fa)):PS X (.Return (Qs a) pos) (wS ρ X.K F p (j8 fa)):=by
 refine PS.imp (sq ha) ?_;rintro E σ H ⟨A,B,t,w,o,R,e,h⟩;unfold j8 at e;rcases e1:fa t w with _|q
 .rw[e1]at e;cases e
 rw[e1]at e;cases e;exact⟨A,B,t,w,q.1,q.2,R,e1,λv H' c R' y=>h v H' A B (RW.XR c R') R'.rel R'.nd R'.dj ((Wo.of R.rs.mu y).weak λb hb=>Ot _ hb)⟩
def IC (hN:X.N.Nodup)(hi:X.N[i]?=Qs x)(hx:Loc X.env.scope x)(he:PE X a (wE ρ X.K F p fa))(hs:swapsWith a (Qs (.Name x pos')) pos.line X.env=pure Qf:=by rfl)(hf:X.fn x=Qt\/X.env.scope.names.lookup x=Qs .local:=by first|exact .inl rfl|exact .inr rfl|assumption):PS X (.Assign [.Name x pos'] a pos) (wS ρ X.K F p (e9 i fa)):=by
 refine PS.imp (wg hN hi hx he hs hf) ?_;rintro E σ H ⟨A,B,t,w,o,R,e,h⟩;unfold e9 at e;refine aB e λq e1 e=>?_;have e:((cR t i q.1).map λt'=>OW.nx t' q.2)=Qs o:=e;rcases e2:cR t i q.1 with _|t'
 .rw[e2]at e;cases e
 rw[e2]at e;cases e;refine⟨A,B,t,w,q.1,q.2,R,e1,λv H' c R' y=>?_⟩;obtain⟨A',g',RR⟩:=R.put c R' y e2;exact h _ _ _ _ g' RR
def MX{E:Ends}{w:ρ.γ}{o:OW ρ.γ}{Good:Ql Xl->Hp->Prop}(S:Src K ds J Good)(ht:∀F',cX K F' gt kt)(R:RW ρ K F H A t σ p w B)(e:fM kt g ds t w=Qs o)(h:Yj ρ K F p A B H E o)(g0:Good (A++(B++F)) H):∃W:Nat->Nat->L2.St->Hp->Prop,(∃m,W 0 m σ H)/\∀i m σ H,W i m σ H-> (J.stop i H/\E.nx σ H)\/(J.go i H/\∃N:L2.St->Hp->Prop,(∀σ' H',N σ' H'->∃m',m'<m/\W (i+1) m' σ' H')/\∀x H',J.Vw i H x H'->gt x σ H' λσ2 H2=>wS ρ K F p g {E with nx:=N,ct:=N,bk:=E.nx} σ2 H2):=by
 have same:∀{A B A' B':Ql Xl}{H H':Hp},Gr (A++B) H (A'++B') H'->Tj (ah (A++(B++F)) H) (ah (A'++(B'++F)) H'):=λ{A B A' B' H H'} g=>by
  have:=g.same (F:=F)
  rwa [Pm,Pm]at this
 refine⟨λi m σ H=>i+m=ds.length/\∃A B t w o,fM kt g (ds.drop i) t w=Qs o/\RW ρ K F H A t σ p w B/\Yj ρ K F p A B H E o/\Good (A++(B++F)) H,⟨ds.length,by lia,A,B,t,w,o,by simpa using e,R,h,g0⟩,?_⟩;rintro i m σ H ⟨hm,A,B,t,w,o,e,R,h,gd⟩;cases m with
 |zero=>
  have z:i=ds.length:=by lia
  subst z;rw[Qy]at e;cases e;refine .inl ⟨S.stop _ _ gd,h σ H A B (Gr.refl λb hb=>?_) R⟩;rcases Ow.mp hb with z|z
  .exact R.rs.mu b (Ot _ z)
  .exact ρ.lists R.rel b z
 |succ m=>
  have hi:i<ds.length:=by lia
  refine .inr ⟨S.go _ _ i gd hi,λσ' H'=>i+1+m=ds.length/\∃A B t w o,fM kt g (ds.drop (i+1)) t w=Qs o/\RW ρ K F H' A t σ' p w B/\Yj ρ K F p A B H' E o/\Good (A++(B++F)) H',λσ' H' q=>⟨m,PB m,q⟩,λx H' y=>?_⟩;obtain⟨gs,d,hd,rd⟩:=S.Vw _ _ i x H' gd R.rs.mu y hi;have ed:ds.drop i=d::ds.drop (i+1):=by
   have Wi:ds[i]=d:=by rw[OE hi]at hd;exact O4 hd
   rw[<-Wi];exact Py hi
  rw[ed]at e;simp only[fM]at e;refine aB e λt1 e1 e=>?_;have R0:=R.grow gs;refine ht (B++F) σ H' A t t1 d x _ R0.rs rd e1 λσ2 A2 Xa R2=>?_;have RW2:=R0.step Xa R2;have Vp:Gr (A++B) H (A2++B) H':=(RW.XR (Ch.of gs) R0).trans (R0.ZU Xa);have e:((g t1 w).bind λo=>match o with
    |.nx t' w'=>fM kt g (ds.drop (i+1)) t' w'
    |.ct t' w'=>fM kt g (ds.drop (i+1)) t' w'
    |.bk t' w'=>Qs (.nx t' w')
    |.rt r w'=>Qs (.rt r w'))=Qs o:=e
  refine aB e λo2 e2 e=>?_;refine⟨A2,B,t1,w,o2,RW2,e2,?_⟩;cases o2 with
  |nx t' w'=>exact λσ' H' A' B' g' R'=>⟨by lia,A',B',t',w',o,e,R',h.back (Vp.trans g'),S.keep _ _ _ _ gd (same (Vp.trans g'))⟩
  |ct t' w'=>exact λσ' H' A' B' g' R'=>⟨by lia,A',B',t',w',o,e,R',h.back (Vp.trans g'),S.keep _ _ _ _ gd (same (Vp.trans g'))⟩
  |bk t' w'=>cases e;exact λσ' H' A' B' g' R'=>h σ' H' A' B' (Vp.trans g') R'
  |rt r w'=>cases e;exact Yj.back (o:=.rt r w') h Vp
end
def rB(N:Ql Str)(p:Xl)(ds:Ql D):Th:=.val (.adr p)::(ds.map Sl.val++OR (N.length-1-ds.length) Sl.no)
def BL{γ:Type}:OW γ->Qo (Ev×γ)
 |.rt r w=>Qs (r,w)
 |.nx _ w=>Qs (.cl .TX,w)
 |_=>Qn
def mr{ρ:Res}(N:Ql Str)(g:Xl->WS ρ)(p:Xl)(w:ρ.γ)(ds:Ql D):Qo (Ev×ρ.γ):=(g p (rB N p ds) w).bind BL
open Classical in
noncomputable def iQ{ρ:Res}(k:Nat)(N:Ql Str)(g:Xl->WS ρ):ρ.γ->Ql D->Qo (Ev×ρ.γ):=λw ds=>
 if ds.length+1=k then(if h:∃o,∀p,mr N g p w ds=Qs o then Qs h.choose else Qn) else Qn
def Lm{ρ:Res}{k:Nat}{g:Xl->WS ρ}{w:ρ.γ}{o:Ev×ρ.γ}(hl:ds.length+1=k)(h:∀p,mr N g p w ds=Qs o):iQ k N g w ds=Qs o:=by unfold iQ;have hx:∃o,∀p,mr N g p w ds=Qs o:=⟨o,h⟩;rw[S9 hl,dif_pos hx];have:=hx.choose_spec 0;rw[h 0]at this;exact this.symm
def Ce{ρ:Res}{k:Nat}{g:Xl->WS ρ}{w:ρ.γ}{o:Ev×ρ.γ}(h:iQ k N g w ds=Qs o):ds.length+1=k/\∀p,mr N g p w ds=Qs o:=by
 unfold iQ at h;split at h
 case isFalse=>cases h
 rename_i hl;split at h
 case isFalse=>cases h
 rename_i hx;cases h;exact⟨hl,hx.choose_spec⟩
inductive X2(ρ:Res)(K:Ou)(G:ρ.γ->List D->Option (Ev×ρ.γ))(vs:List V)(H:Hp)(Q:VK)(x_:XK):Prop
 |mk (Fo:List Xl) (p:Xl) (B:List Xl) (w:ρ.γ) (ds:List D) (r:Ev) (w':ρ.γ) (VH:List V) (_:vs=.ref p::VH) (_:Ul H (B++Fo)) (_:B.Nodup) (_:(∀b∈B,b∉Fo)) (_:ρ.rel K H p w B) (_:Ts K (ah (B++Fo) H) ds VH) (_:G w ds=Qs (r,w')) (_:∀v H',Ch B H H'->ρ.rel K H' p w' B->T8 K (B++Fo) [] H H' r v->Q v H')
def Fj(ρ:Res):Prop:=∀{K:Ou}{H H':Hp}{p:Xl}{w w':ρ.γ}{B B':Ql Xl},ρ.rel K H p w B->ρ.rel K H' p w' B'->B'=B
def tW (fx:Fj ρ){mg:Str->Qo OM}{f:Xl}{k m:Nat}(Fn:L2.UB K x qual st f fd)(S:UN N ps (aY st))(hm:ps.length=m)(g:Xl->WS ρ) (W9:∀(T9:OM) (A:Qq) (outer:Ql Env) (s:OJ) (H:Hp) (E:XK) (F:Ql Xl) (p:Xl),UP k (A.deeper (envOfC qual (aY st) s.heap.objs.size f T9))->Uu (jd bg P w K mg base N qual (aY st) f T9 A outer s H E).X5 (eQ st) (wS ρ K F p (g p))):Um P w K mg base bg (k+1) f fd ps (X2 ρ K (iQ m N g)):=by
 refine Fn.ok S (λvs H Q E h=>?_) (λT9 A outer s H vs Q E hr h=>?_)
 .obtain⟨Fo,p,B,w,ds,r,w',VH,rfl,_,_,_,_,h2,hg,_⟩:=h;have:=(Ce hg).1;rw[OX,h2.length,hm];exact this
 .obtain⟨Fo,p,B,w,ds,r,w',VH,rfl,hl,nd,dj,rel,h2,hg,cont⟩:=h;have XG:=(Ce hg).2 p;unfold mr at XG;refine aB XG λo ho XG=>?_;have XG:BL o=Qs (r,w'):=XG;refine⟨_,W9 T9 A outer s H E Fo p hr,[],B,rB N p ds,w,o,⟨⟨hl,Pl,λq hq=>(by cases hq),?_⟩,rel,nd,dj⟩,ho,?_⟩
  .unfold rB L2.start;simp only[OF,Q4,OX,h2.length];refine .val (.adr p) ?_;have:=TK.start (K:=K) (H0:=ah ([]++(B++Fo)) H) (H:=H) (TK.zam (N.length-(ds.length+1))) h2;have e:N.length-1-ds.length=N.length-(ds.length+1):=by lia
   rw[e];exact this
  .have ch:∀{A' B' H'},Gr ([]++B) H (A'++B') H'->Ch B H H':=λg b o n q=>g.kp b o n q;cases o with
   |nx t' w1=>cases XG;exact λσ' H' A' B' g' R'=>cont .TX H' (ch g') (fx rel R'.rel▸R'.rel) .TX
   |bk t' w1=>cases XG
   |ct t' w1=>cases XG
   |rt r' w1=>
    cases XG;intro v H' A' B' g' q n d y;have eB:=fx rel q;subst eB;refine cont v H' (ch g') q ?_;have fr:∀{b:Xl},(b∈[]++B'\/H b=Qn)->b∉B'++Fo->H b=Qn:=λh n=>by
     rcases h with h|h
     .exact absurd (Ot _ h) n
     .exact h
    cases r with
    |cl d=>exact y
    |tm d=>exact y
    |nw xs=>obtain⟨q,VH,rfl,h1,h2,h3,h4⟩:=y;exact⟨q,VH,rfl,fr h1 h2,h3,h4⟩
    |dn d=>obtain⟨C,h1,h2,h3⟩:=y;exact⟨C,h1,λb hb=>fr (h2 b hb).1 (h2 b hb).2,h3⟩
structure XX(ρ:Res)(P:Pe)(w:QI)(K:Ou)(mg:Str->Option OM)(base:VZ)(x:Str)(k:Nat)(G:ρ.γ->List D->Option (Ev×ρ.γ)):Prop where
 ex:∃(a:Xl) (fd:PX) (ps:List Str),mg x=Qs (.ref a)/\PV K (.ref a)=Qt/\L2.Binds K fd ps []/\Um P w K mg base bg k a fd ps (X2 ρ K G)
def Df.YL{mg:Str->Qo OM}{a:Xl}{k:Nat}{G:ρ.γ->Ql D->Qo (Ev×ρ.γ)}(d:Df K mg x st ps a fd)(h:Um P w K mg base bg k a fd ps (X2 ρ K G)):XX ρ P w K mg base x k G:=⟨a,fd,ps,d.mgx,d.fn.kp,d.bd,h⟩
def eX{ρ:Res}(p:Xl)(G:ρ.γ->Ql D->Qo (Ev×ρ.γ))(ga:WA ρ):WE ρ:=λt w=>(ga t w).bind λq=>match q.1 with
 |.cl (.adr q0)::rs=>if q0=p then(G q.2 (rs.map Ev.d)).map λz=>(gL (rs.all Ev.ok) z.1,z.2) else Qn
 |_=>Qn
def FD{ok:Bool}(m1:Ul H1 (A++(B++F)))(m':Ul H' (A++(B++F)))(fr:∀b,H1 b=Qn->H b=Qn)(w:T8 K (B++(if ok then A++F else F)) [] H1 H' r v):T8 K (B++F) A H H' (gL ok r) v:=by
 cases ok with
 |true=>
  have le:∀P:Ql Xl,Tj (ah (P++([]++(B++(A++F)))) H') (ah (P++(A++(B++F))) H'):=λP=>bf H' λb hb=>by simp only[Ow,Rr,false_or]at hb ⊢;rcases hb with z|z|z|z<;>simp[z]
  cases r with
  |cl d=>exact Rep.mono (le []) w
  |tm d=>refine Rep.mono (bf H' λb hb=>?_) w;simp only[Ow,if_true]at hb ⊢;rcases hb with z|z|z<;>simp[z]
  |nw xs=>obtain⟨q,us,rfl,h1,h2,h3⟩:=w;exact⟨q,us,rfl,fr _ h1,h2,Ts.mono (le [q]) h3⟩
  |dn d=>obtain⟨C,h1,h2,h3⟩:=w;exact⟨C,h1,λb hb=>fr _ (h2 b hb),T6.mono (le C) h3 λ_ _ _ q=>q⟩
 |false=>
  cases r with
  |cl d=>
   show T8 K (B++F) A H H' (if flat d then .cl d else .tm d) v;split
   .rename_i f;exact Rep.UC m' f (Rep.mono (aZ _ _) w)
   .exact w
  |tm d=>
   show T8 K (B++F) A H H' (if flat d then .cl d else .tm d) v;split
   .rename_i f;exact Rep.UC m' f (Rep.mono (aZ _ _) w)
   .exact w
  |nw xs=>
   obtain⟨q,us,rfl,h1,h2,h3⟩:=w;have np:q∉A++(B++F):=eM m1 h1;show T8 K (B++F) A H H' (if Ui xs then .nw xs else .tm (.lst xs)) _;split
   .rename_i f;refine⟨q,us,rfl,fr _ h1,h2,Ts.UC (P:=q::(A++(B++F))) (λb hb=>?_) f (Ts.mono (aZ _ _) h3)⟩;rcases OC.mp hb with rfl|hb
    .exact⟨mL us,h2⟩
    .exact m' b hb
   .exact .lst (TZ.of (bA h2 λz=>np (Oq _ z))) (Ts.mono (bf H' λb z=>Ov _ z) h3)
  |dn d=>obtain⟨C,h1,h2,h3⟩:=w;exact⟨C,h1,λb hb=>fr _ (h2 b hb),h3.UC (h3.lists.app m') (aZ _ _)⟩
section
variable {fa fb fc:WE ρ}{ga:WA ρ}
def gD{k:Nat}{G:ρ.γ->Ql D->Qo (Ev×ρ.γ)}{q:Pos}(c:XX ρ X.prog X.w X.K X.mg X.base x k G)(hr:UP k X.A)(ha:PA X (a::es) (wA ρ X.K F p ga))(hg:Gl X x:=by rfl)(V3:UR x:=by decide) (he:OP (a::es) X.env=(Qf,eval a X.env)::OP es X.env:=by rfl) (Vl:(QJ pos (OP es X.env)).any (·.1)=Qf:=by rfl):PE X (.Call (.Name x q) (a::es) [] pos) (wE ρ X.K F p (eX p G ga)):=by
 obtain⟨f,fd,ps,h1,h2,h3,h4⟩:=c.ex;refine PE.imp (BJ h4 hr hg h1 h2 h3 .nil (E:=E0) k6 ha V3 he Vl) ?_;rintro σ H Q ⟨A,B,t,w,r,w',R,e,h⟩;unfold eX at e;rcases e1:ga t w with _|q1
 .rw[e1]at e;cases e
 rw[e1]at e;obtain⟨rs0,w1⟩:=q1;refine⟨A,B,t,w,rs0,w1,R,e1,λvs H1 c R1 y=>?_⟩;show X2 ρ X.K G (vs++[]) H1 Q E0;rw[Po];simp only[Oz]at e;split at e
 case h_2=>cases e
 rename_i q0 rs;replace e:=Ve e;obtain⟨ZX,e⟩:=e;subst ZX;cases y with
 |@cons _ v0 _ VH y1 y2=>
  have y1:Rep X.K (ah (A++(B++F)) H1) (.adr q0) v0:=y1;cases y1;rcases e2:G w1 (rs.map Ev.d) with _|z
  .rw[e2]at e;cases e
  rw[e2]at e;obtain⟨r0,w0⟩:=z;have e:Qs (gL (rs.all Ev.ok) r0,w0)=Qs (r,w'):=e;cases e;have fr:∀b,H1 b=Qn->H b=Qn:=λb e=>by
   cases z:H b with
   |none=>rfl
   |some o=>
    by_cases y:b∈B
    .exact absurd e (R1.al y)
    .rw[c b o y z]at e;cases e
  refine⟨if rs.all Ev.ok then A++F else F,q0,B,w1,rs.map Ev.d,r0,w',VH,rfl,λb hb=>?_,R1.nd,λb hb z=>?_,R1.rel,?_,e2,λv H' c' zcq w2=>?_⟩
  .refine R1.rs.mu b ?_;split at hb<;>simp only[Ow]at hb ⊢
   .rcases hb with z|z|z<;>simp[z]
   .rcases hb with z|z<;>simp[z]
  .split at z
   .rcases Ow.mp z with z|z
    .exact R1.Yq hb z
    .exact R1.dj b hb z
   .exact R1.dj b hb z
  .by_cases ok:rs.all Ev.ok=Qt
   .rw[S9 ok];refine Ts.mono (bf H1 λb hb=>?_) ((y2.WN (H1:=H1) R).clean (R.Y5 R1) (oA c) ok);simp only[Ow]at hb ⊢;rcases hb with z|z|z<;>simp[z]
   .rw[Tr ok];exact(y2.WN (H1:=H1) R).WW (R.Y5 R1)
  .have R2:=R1.chg c' zcq;exact h v H' (c.trans c') R2 (FD R1.rs.mu R2.rs.mu fr w2)
end
def aj:Res where
 γ:=Int×Int
 rel:=λK H p w B=>B=[p]/\H p=Qs (.lst [.int w.1,.int w.2])
 mono:=λ{K H H' p w B} ⟨e,h⟩ k=>⟨e,k p _ h (.inr (by rw[e];exact Oy.mpr rfl))⟩
 lists:=λ{K H p w B} ⟨e,h⟩ b hb=>by subst e;rw[Oy.mp hb];exact⟨mL _,h⟩
def sy:Fj aj:=λ{K H H' p w w' B B'} h h'=>h'.1.trans h.1.symm
def gY(p:Xl)(i:Nat)(k:Int):WE aj:=λt w=>match t[i]? with
 |some (.val (.adr q))=>if q=p then(if k=0 then Qs (.cl (.int w.1),w) else if k=1 then Qs (.cl (.int w.2),w) else Qn) else Qn
 |_=>Qn
def j9(p:Xl)(i:Nat)(k:Int)(f:WE aj):WS aj:=λt w=>(f t w).bind λq=>match t[i]?,q.1.d with
 |some (.val (.adr q0)),.int n=>if q0=p then(if k=0 then Qs (.nx t (n,q.2.2)) else if k=1 then Qs (.nx t (q.2.1,n)) else Qn) else Qn
 |_,_=>Qn
section
variable {fa fb fc:WE aj}{ga:WA aj}
def mC(i:Nat){k:Int}(hN:X.N[i]?=Qs x:=by rfl)(hv:dt X.env.scope x:=by first|exact Or.inl rfl|exact Or.inr (Or.inl rfl)|exact Or.inr (Or.inr rfl))(hd:UR x:=by decide) (UI:Vz x:=by decide) (hs:pY (.Constant (.int k) j p2):=by intro _ _;rfl):PE X (.Subscript (.Name x p1) (.Constant (.int k) j p2) pos) (wE aj X.K F p (gY p i k)):=by
 refine PE.imp (sH (zaq.or xA) (dH (i:=i) hN hv hd UI) wH hs) ?_;rintro σ H Q ⟨A,B,t,w,r,w',R,e,h⟩;unfold gY at e;split at e
 case h_2=>cases e
 rename_i q z;replace e:=Ve e;obtain⟨ZX,e⟩:=e;subst ZX;obtain⟨v,h1,h2⟩:=R.rs.rel.YE z;cases h2;have hp:=R.rel.2;refine⟨_,h1,.inl ?_⟩;by_cases k0:k=0
 .subst k0;rw[S9 rfl]at e;cases e;exact⟨q,_,0,.int w.1,rfl,rfl,TZ.of hp,rfl,h _ H Ch.refl R (.int _)⟩
 .rw[Tr k0]at e;by_cases k1:k=1
  .subst k1;rw[S9 rfl]at e;cases e;exact⟨q,_,1,.int w.2,rfl,rfl,TZ.of hp,rfl,h _ H Ch.refl R (.int _)⟩
  .rw[Tr k1]at e;cases e
def Bh(i:Nat){k:Int}(he:PE X a (wE aj X.K F p fa))(hN:X.N[i]?=Qs x:=by rfl)(hv:dt X.env.scope x:=by first|exact Or.inl rfl|exact Or.inr (Or.inl rfl)|exact Or.inr (Or.inr rfl))(hd:UR x:=by decide) (UI:Vz x:=by decide) (ha:∀v,assign (.Subscript (.Name x p0) (.Constant (.int k) j p2) Vx) X.env v=(do
   let ov<-holding [v] (eval (.Name x p0) X.env)
   let iv<-holding [v,ov] (eval (.Constant (.int k) j p2) X.env)
   standAt Vx
   holding [v,ov,iv] (setItem ov iv v)
   release [v,ov,iv] []):=by intro _;rfl) (hs:swapsWithSole [.Subscript (.Name x p0) (.Constant (.int k) j p2) Vx] a pos.line X.env=pure Qf:=by rfl) (hw:swappedStores [.Subscript (.Name x p0) (.Constant (.int k) j p2) Vx] a X.env=pure Qn:=by rfl) (h1:(assignEach [.Subscript (.Name x p0) (.Constant (.int k) j p2) Vx] X.env).map (·.2)=[assign (.Subscript (.Name x p0) (.Constant (.int k) j p2) Vx) X.env]:=by rfl):PS X (.Assign [.Subscript (.Name x p0) (.Constant (.int k) j p2) Vx] a pos) (wS aj X.K F p (j9 p i k fa)):=by
 refine PS.imp (sr he (wy (dH (i:=i) hN hv hd UI) wH rG ha) hs hw h1) ?_;rintro E σ H ⟨A,B,t,w,o,R,e,h⟩;unfold j9 at e;rcases e1:fa t w with _|q1
 .rw[e1]at e;cases e
 rw[e1]at e;obtain⟨r1,w1⟩:=q1;simp only[Oz]at e;split at e
 case h_2=>cases e
 rename_i q0 n z1 z2;replace e:=Ve e;obtain⟨ZX,e⟩:=e;subst ZX;refine⟨A,B,t,w,r1,w1,R,e1,λv H1 c R1 y=>?_⟩;obtain⟨u,s1,s2⟩:=R1.rs.rel.YE z1;cases s2;have y:=y.full;rw[z2]at y;cases cI y;have hp:=R1.rel.2;have eB:=R1.rel.1;have fin:∀(w2:Int×Int),Ch B H1 (upd H1 q0 (.lst [.int w2.1,.int w2.2]))/\RW aj X.K F (upd H1 q0 (.lst [.int w2.1,.int w2.2])) A t σ q0 w2 B:=λw2=>by
  have cc:Ch B H1 (upd H1 q0 (.lst [.int w2.1,.int w2.2])):=λb o nb hb=>by rw[aS (λz=>nb (by rw[eB,z];exact Oy.mpr rfl))];exact hb
  exact⟨cc,R1.chg cc ⟨eB,bB⟩⟩
 refine⟨_,s1,?_⟩;by_cases k0:k=0
 .subst k0;rw[S9 rfl]at e;cases e;obtain⟨cc,RR⟩:=fin (n,w1.2);exact⟨q0,_,0,0,rfl,rfl,hp,rfl,h _ _ _ _ ((RW.XR c R1).trans (RW.XR cc RR)) RR⟩
 .rw[Tr k0]at e;by_cases k1:k=1
  .subst k1;rw[S9 rfl]at e;cases e;obtain⟨cc,RR⟩:=fin (w1.1,n);exact⟨q0,_,1,1,rfl,rfl,hp,rfl,h _ _ _ _ ((RW.XR c R1).trans (RW.XR cc RR)) RR⟩
  .rw[Tr k1]at e;cases e
end
abbrev WI(ρ:Res):=Th->ρ.γ->Qo ((Bool×Ql D)×ρ.γ)
inductive wI(ρ:Res)(K:Ou)(F:List Xl)(p:Xl)(fs:WI ρ)(σ:L2.St)(H:Hp)(R:It->Hp->Prop):Prop
 |mk (A B t w b ds w':_) (_:RW ρ K F H A t σ p w B) (_:fs t w=Qs ((b,ds),w')) (_:∀J H1 Good,Ch B H H1->RW ρ K F H1 A t σ p w' B->Src K ds J Good->Good (Vd b A (B++F)) H1->R J H1)
def kz(ρ:Res)(fs:DI):WI ρ:=λt w=>(fs t).map λq=>(q,w)
def eW{ρ:Res}(k:D->Th->Qo Th)(ft:WT ρ)(fe:WE ρ):Ql D->Th->ρ.γ->Qo (Ql D×ρ.γ)
 |[],_,w=>Qs ([],w)
 |d::ds,t,w=>(k d t).bind λt1=>(ft t1 w).bind λq=>if q.1 then(fe t1 q.2).bind λz=>(eW k ft fe ds t1 z.2).map λys=>(z.1.d::ys.1,ys.2) else eW k ft fe ds t1 q.2
def mZ{ρ:Res}(n:Nat)(cap:Ql Nat)(fs:WI ρ)(k:D->Th->Qo Th)(ft:WT ρ)(fe:WE ρ):WE ρ:=λt w=>(fs t w).bind λq=>(fZ t cap).bind λc=>if q.1.2.length<=50000 then(eW k ft fe q.1.2 (OR n Sl.no++c.2.map Sl.val) q.2).bind λys=>if(q.1.1&&c.1)||Ui ys.1 then Qs (.nw ys.1,ys.2) else Qn else Qn
def y4{ρ:Res}{k:D->Th->Qo Th}{ft:WT ρ}{fe:WE ρ}:∀{ds:Ql D}{t:Th}{w:ρ.γ}{ys:Ql D×ρ.γ},eW k ft fe ds t w=Qs ys->ys.1.length<=ds.length
 |[],t,w,ys,e=>by cases e;simp
 |d::ds,t,w,ys,e=>by
  unfold eW at e;refine aB e λt1 e1 e=>?_;have e:((ft t1 w).bind λq=>if q.1 then(fe t1 q.2).bind λz=>(eW k ft fe ds t1 z.2).map λys=>(z.1.d::ys.1,ys.2) else eW k ft fe ds t1 q.2)=Qs ys:=e;refine aB e λq e2 e=>?_;obtain⟨b,w1⟩:=q;cases b with
  |false=>have:=y4 (ds:=ds) (t:=t1) e;simp;lia
  |true=>
   have e:((fe t1 w1).bind λz=>(eW k ft fe ds t1 z.2).map λys=>(z.1.d::ys.1,ys.2))=Qs ys:=e;refine aB e λz e3 e=>?_;have e:((eW k ft fe ds t1 z.2).map λys=>(z.1.d::ys.1,ys.2))=Qs ys:=e;cases e4:eW k ft fe ds t1 z.2 with
   |none=>rw[e4]at e;cases e
   |some us=>rw[e4]at e;cases e;have:=y4 e4;simp;lia
def RW.Zm{ρ:Res}{K:Ou}{P B:Ql Xl}{H:Hp}{t:Th}{σ:L2.St}{p d:Xl}{w:ρ.γ}{vs ws:Ql V}(R:RW ρ K P H [] t σ p w B)(hd:d∈P)(e:H d=Qs (.lst vs)):RW ρ K P (upd H d (.lst ws)) [] t σ p w B:=⟨RS.Zm R.rs (Oq _ hd),ρ.mono R.rel λb o h k=>by
  rw[aS]
  .exact h
  .intro z;subst z;rcases k with k|k
   .rw[e]at h;cases h;cases k
   .exact R.dj _ k hd,R.nd,R.dj⟩
def zc{P:Ql Xl}{Ha Hb:Hp}(c:Ch B Ha Hb):Tj (ah (B++P) Ha) (ah (B++P) Hb):=λx o z=>by obtain⟨nx,z⟩:=cN z;exact bA (c x o (λy=>nx (Ot _ y)) z) nx
def Nz{d:Xl}{o:HO}(hn:H1 d=Qn)(sm:Ch B H1 H)(s:Ch B H H'):Ch B H1 (upd H' d o):=λb u nx z=>by rw[aS (λw=>by rw[w,hn]at z;cases z)];exact s _ _ nx (sm _ _ nx z)
def xO{b d:Bool}(hd:d=Qt->b=Qt):∀x∈B++Vd d A F,x∈Vd b A (B++F):=λx hx=>by
 rcases Ow.mp hx with y|y
 .exact tQ x (Ot _ y)
 .cases d with
  |false=>exact tQ x (Oq _ y)
  |true=>rw[hd rfl];exact(Ow.mp y).elim (λz=>Ot _ z) λz=>Oq _ (Oq _ z)
inductive CW(ρ:Res)(K:Ou)(kt:D->Th->Option Th)(ft:WT ρ)(fe:WE ρ)(ds xs:List D)(wf:ρ.γ)(H1:Hp)(P B:List Xl)(p d:Xl)(Good:List Xl->Hp->Prop)(i m:Nat)(σ:L2.St)(H:Hp):Prop
 |mk (th:Th) (wn:ρ.γ) (acc rest:List D) (vs:List V) (hm:i+m=ds.length) (R:RW ρ K P H [] th σ p wn B) (ec:eW kt ft fe (ds.drop i) th wn=Qs (rest,wf)) (ex:acc++rest=xs) (hv:H d=Qs (.lst vs)) (hr:Ts K (ah (B++P) H) acc vs) (sm:Ch B H1 H) (gg:Good (B++P) H)
def CW.step{ρ:Res}{K:Ou}{kt:D->Th->Qo Th}{ft:WT ρ}{fe:WE ρ}{ds xs:Ql D}{wf:ρ.γ}{H1:Hp}{P B:Ql Xl}{p d:Xl}{Good:Ql Xl->Hp->Prop}{J:It}{g:TG}{i m:Nat}{σ:L2.St}{H:Hp}(src:Src K ds J Good)(hk:cX K (B++P) g kt)(hp:d∈P)(nB:d∉B)(hn:H1 d=Qn)(hx:xs.length<=50000) (c:CW ρ K kt ft fe ds xs wf H1 P B p d Good i (m+1) σ H):J.go i H/\∃N:L2.St->Hp->Prop,(∀σ2 H2,N σ2 H2->∃m',m'<m+1/\CW ρ K kt ft fe ds xs wf H1 P B p d Good (i+1) m' σ2 H2)/\∀x H2,J.Vw i H x H2->g x σ H2 λσ2 H3=>∃F',wT ρ K F' p ft σ2 H3 λb H4=>
   if b=Qt then ∃F',wE ρ K F' p fe σ2 H4 λv H5=>∃vs,H5 d=Qs (.lst vs)/\vs.length<O3/\N σ2 (upd H5 d (.lst (vs++[v]))) else N σ2 H4:=by
 obtain⟨th,wn,acc,rest,vs,hm,R,ec,ex,hv,hr,sm,gg⟩:=c;have V2:i<ds.length:=by lia
 have Yb:i+1+m=ds.length:=by lia
 refine⟨src.go _ _ i gg V2,CW ρ K kt ft fe ds xs wf H1 P B p d Good (i+1) m,λ_ _ q=>⟨m,PB m,q⟩,λx H2 y=>?_⟩;obtain⟨Uq,d',hd,rd⟩:=src.Vw _ _ i x H2 gg R.rs.mu y V2;rw[yS V2 hd]at ec;refine aB ec λt1 k1 ec=>?_;refine aB ec λq k2 ec=>?_;obtain⟨bb,w2⟩:=q;have R0:=R.grow Uq;refine hk σ H2 [] th t1 d' x _ R0.rs rd k1 λσ2 A2 Vp R2=>?_;have A20:=wU R2 Vp;subst A20;refine⟨P,[],B,t1,wn,bb,w2,R0.step Vp R2,k2,λH3 c3 R3=>?_⟩;have Z3:=(Ch.of (B:=B) Uq).trans c3;clear R R0 R2 Uq c3 Vp k1 k2 y rd V2 hm;cases bb with
 |false=>exact oW ⟨t1,w2,acc,rest,vs,Yb,R3,ec,ex,Z3 _ _ nB hv,Ts.mono (zc Z3) hr,sm.trans Z3,src.keep _ _ _ _ gg (zc Z3)⟩
 |true=>refine aB (show(fe t1 w2).bind _=Qs (rest,wf) from ec) λz k3 ec=>?_;obtain⟨re,w3⟩:=z;refine sT ec λys k4 ec=>?_;obtain⟨ys,w4⟩:=ys;cases ec;refine oV ⟨P,[],B,t1,w2,re,w3,R3,k3,λv H4 c4 R4 q4=>?_⟩;have c24:=Z3.trans c4;have hv4:H4 d=Qs (.lst vs):=c24 _ _ nB hv;have hu:Tj (ah (B++P) H4) (ah (B++P) (upd H4 d (.lst (vs++[v])))):=tM (Oq _ hp);have s5:=(zc c24).trans hu;exact⟨vs,hv4,zD hr.length ex hx,t1,w3,acc++[re.d],ys,vs++[v],Yb,R4.Zm hp hv4,k4,by rw[Pm];exact ex,bB,(Ts.mono s5 hr).app (Ts.one (Rep.mono hu (q4.WW R3.rs.mu))),Nz hn sm c24,src.keep _ _ _ _ gg s5⟩
def FZ{fs:WI ρ}{g:TG}{ft:WT ρ}{fe:WE ρ}(hk:∀F',cX X.K F' g kt) (h:wE ρ X.K F p (mZ n cap fs kt ft fe) σ H Q):mi n cap (wI ρ X.K F p fs) g (λσ H Q=>∃F',wT ρ X.K F' p ft σ H Q) (λσ H Q=>∃F',wE ρ X.K F' p fe σ H Q) σ H Q:=by
 obtain⟨A,B,t,w,r,w',R,e,h⟩:=h;refine aB e λq e1 e=>?_;refine aB e λc e2 e=>?_;obtain⟨⟨b,ds⟩,w1⟩:=q;obtain⟨c,Z2⟩:=c;refine bW e λhlen e=>?_;refine aB e λys e3 e=>?_;obtain⟨xs,wf⟩:=ys;refine bW e λok e=>?_;cases e;refine⟨A,B,t,w,b,ds,w1,R,e1,λJ H1 Good ch R1 src gd d hD=>?_⟩;obtain⟨Z1,YJ,YI⟩:=ug R1.rs e2;have nB:d∉B:=λz=>R1.al z hD;have hb:(b&&c)=Qt->b=Qt:=λz=>(O0.mp z).1;have hc:(b&&c)=Qt->c=Qt:=λz=>(O0.mp z).2;have st0:Tj (ah (B++Vd (b&&c) A F) H1) (ah (B++(d::Vd (b&&c) A F)) (upd H1 d (.lst []))):=λx o z=>by
  obtain⟨nx,z⟩:=cN z;have nd:x≠d:=λy=>by rw[y,hD]at z;cases z
  refine bA (by rw[aS nd];exact z) λy=>?_;rcases Ow.mp y with y|y
  .exact nx (Ot _ y)
  .exact(OC.mp y).elim nd λy=>nx (Oq _ y)
 have mu0:∀x∈B++Vd (b&&c) A F,x∈A++(B++F):=λx hx=>tO x (xO hb x hx);refine⟨CW ρ X.K kt ft fe ds xs wf H1 (d::Vd (b&&c) A F) B p d Good,⟨ds.length,⟨_,w1,[],xs,[],QM _,⟨⟨λq hq=>?_,Pl,λp hp=>(by cases hp),?_⟩,ρ.mono R1.rel λx o z _=>by rw[aS (λy=>by rw[y,hD]at z;cases z)];exact z,R1.nd,λx hx z=>?_⟩,e3,rfl,bB,.nil,Ch.of (dX hD),src.keep _ _ _ _ gd ((bf H1 (xO hb)).trans st0)⟩⟩,λi m σ' H' c'=>?_⟩
 .have hq:q∈B++(d::Vd (b&&c) A F):=hq;by_cases z:q=d
  .exact⟨mL [],by rw[z];exact bB⟩
  .have y:q∈B++Vd (b&&c) A F:=(Ow.mp hq).elim (λy=>Ot _ y) λy=>(OC.mp y).elim (λy=>absurd y z) λy=>Oq _ y;obtain⟨us,y⟩:=R1.rs.mu q (mu0 q y);exact⟨us,by rw[aS z];exact y⟩
 .unfold kJ;rw[YJ];exact TK.zaW (Ts.mono ((bf H1 (xO hc)).trans st0) YI) n
 .rcases OC.mp z with y|y
  .exact nB (y▸hx)
  .rcases Ow.mp (tO x y) with u|u
   .exact R1.Yq hx u
   .exact R1.dj x hx u
 cases m with
 |succ m=>exact .inr (c'.step src (hk _) (Ox ..) nB hD (Pr (y4 e3) hlen))
 |zero=>
  obtain⟨th,wn,acc,rest,vs,hm,RR,ec,ex,hv,hr,sm,gg⟩:=c';cases hm;rw[Qy]at ec;cases ec;rw[Po]at ex;subst ex;have R2:=R1.chg sm RR.rel;have fr:H d=Qn:=by
   cases z:H d with
   |none=>rfl
   |some o=>rw[ch d o nB z]at hD;cases hD
  refine .inl ⟨src.stop _ _ gg,h _ H' (ch.trans sm) R2 ⟨d,vs,rfl,fr,hv,?_⟩⟩;rcases RJ _ _▸ok with k|k
  .refine Ts.mono (bf H' λx hx=>?_) hr;rw[k];show x∈B++(d::(A++F));simp only[Ow,OC]at hx ⊢;rcases hx with z|z|z|z<;>simp[z]
  .refine Ts.UC (P:=d::(A++(B++F))) (λq hq=>?_) k (Ts.mono (aZ _ _) hr);rcases OC.mp hq with z|z
   .exact⟨mL vs,by rw[z];exact hv⟩
   .exact R2.rs.mu q z
section
variable {fa fb fc:WE ρ}{ga:WA ρ}
def Jv{fs:WI ρ}{g:TG}{ft:WT ρ}{fe:WE ρ}(S:VS X scope)(hc:X.calm=Qt)(hi:PI X tg iter (wI ρ X.K F p fs)) (hN:N'.length=n+cap.length) (Vo:∀(k:Nat) (j:Nat),cap[k]?=Qs j->∃x,N'[n+k]?=Qs x/\X.N[j]?=Qs x/\(x,Pq)∈scope.names) (hg:∀C s₃ H₃ fp pins,PG (bC X N' scope C s₃ H₃ fp pins) tg g) (hk:∀F',cX X.K F' g kt) (ht:∀C s₃ H₃ fp pins F',Vy (bC X N' scope C s₃ H₃ fp pins) ifs (wT ρ X.K F' p ft)) (he:∀C s₃ H₃ fp pins F',PE (bC X N' scope C s₃ H₃ fp pins) elt (wE ρ X.K F' p fe)) (hs:∀x,foldedSetIterable iter X.env x=pure x:=by intro _;rfl):PE X (.ListComp elt [⟨tg,iter,ifs,0⟩] scope pos) (wE ρ X.K F p (mZ n cap fs kt ft fe)):=PE.imp (wJ (g:=g) S hc hi hN Vo hg (λC s₃ H₃ fp pins VL s σ H Q I ⟨F',q⟩=>ht C s₃ H₃ fp pins F' VL s σ H Q I q) (λC s₃ H₃ fp pins VL s σ H Q I ⟨F',q⟩=>he C s₃ H₃ fp pins F' VL s σ H Q I q) hs) λ_ _ _ h=>FZ hk h
def n6{ρ:Res}:WT ρ:=λ_ w=>Qs (Qt,w)
def Ir:Vy Y [] (wT ρ Y.K F p n6):=Vy.imp Bf λσ H Q ⟨A,B,t,w,b,w',R,e,h⟩=>by cases e;exact h H Ch.refl R
def wu{fs:DI}(h:∀F',PI X tg a (dI X.K F' fs)):PI X tg a (wI ρ X.K F p (kz ρ fs)):=by
 rintro pins s σ H R I ⟨A,B,t,w,b,ds,w',RR,e,k⟩;unfold kz at e;rcases e1:fs t with _|q
 .rw[e1]at e;cases e
 rw[e1]at e;cases e;exact h (B++F) pins s σ H R I ⟨A,t,b,ds,RR.rs,e1,λJ H1 Good gs S gd=>k J H1 Good (Ch.of gs) (RR.grow gs) S gd⟩
def kT{ρ:Res}(k:D->Th->Qo Th)(fs:WI ρ)(body:WS ρ):WS ρ:=λt w=>(fs t w).bind λq=>if q.1.1 then fM k body q.1.2 t q.2 else Qn
def Bi{fs:WI ρ}{g:WS ρ}(hp:PassesOwn (model X.prog X.w) X.A X.env X.xe)(hc:X.calm=Qt)(hi:PI X tg a (wI ρ X.K F p fs))(hg:PG X tg gt)(ht:∀F',cX X.K F' gt kt)(hb:Uu X body (wS ρ X.K F p g)) (hs:∀x,foldedSetIterable a X.env x=pure x:=by intro _;rfl):PS X (.For tg a body [] pos) (wS ρ X.K F p (kT kt fs g)):=by
 rintro pins s σ H E I ⟨A,B,t,w,o,R,e,h⟩;unfold kT at e;refine aB e λq e1 e=>?_;obtain⟨⟨bb,ds⟩,w1⟩:=q;have e:(if bb then fM kt g ds t w1 else Qn)=Qs o:=e;cases bb with
 |false=>cases e
 |true=>refine kX hp hc hi hg hb hs pins s σ H E I ⟨A,B,t,w,Qt,ds,w1,R,e1,λJ H1 Good c R1 S gd=>?_⟩;exact MX S ht R1 e (h.back (RW.XR c R1)) gd
end
def TK.zcE{d:D}(hr:Rep K H0 d v) (h:TK K H0 H t σ A):∀i:Nat,t[i]?=Qs .no->σ[i]?=Qs (Qs v)->TK K H0 H (t.set i (.val d)) σ A:=by
 induction h with
 |nil=>intro i e;simp at e
 |no r ih=>
  intro i e f;cases i with
  |zero=>simp at f;subst f;exact .val hr r
  |succ i=>exact .no (ih i (by simpa using e) (by simpa using f))
 |val h r ih=>
  intro i e f;cases i with
  |zero=>simp at e
  |succ i=>exact .val h (ih i (by simpa using e) (by simpa using f))
 |own h1 h2 r ih=>
  intro i e f;cases i with
  |zero=>simp at e
  |succ i=>exact .own h1 h2 (ih i (by simpa using e) (by simpa using f))
 |dp h r ih=>
  intro i e f;cases i with
  |zero=>simp at e
  |succ i=>exact .dp h (ih i (by simpa using e) (by simpa using f))
def TK.fgt (h:TK K H0 H t σ A):∀i:Nat,∃A',A'.Sublist A/\TK K H0 H (t.set i .no) σ A':=by
 induction h with
 |nil=>intro i;exact⟨[],O7 _,.nil⟩
 |no r ih=>
  intro i;cases i with
  |zero=>exact⟨_,O7 _,.no r⟩
  |succ i=>obtain⟨A',s,q⟩:=ih i;exact⟨A',s,.no q⟩
 |val h r ih=>
  intro i;cases i with
  |zero=>exact⟨_,O7 _,.no r⟩
  |succ i=>obtain⟨A',s,q⟩:=ih i;exact⟨A',s,.val h q⟩
 |own h1 h2 r ih=>
  intro i;cases i with
  |zero=>exact⟨_,QL _ _,.no r⟩
  |succ i=>obtain⟨A',s,q⟩:=ih i;exact⟨_,s.cons₂ _,.own h1 h2 q⟩
 |dp h r ih=>
  intro i;cases i with
  |zero=>exact⟨_,QZ _ _,.no r⟩
  |succ i=>obtain⟨A',s,q⟩:=ih i;exact⟨_,P0 (O7 _) s,.dp h q⟩
def Wo.zfc (h:Wo K (B++F) A H H' r v):Wo K F A H H' r v:=by
 have le:∀P:Ql Xl,Tj (ah (P++(B++F)) H') (ah (P++F) H'):=λP=>bf H' λb hb=>by
  rcases Ow.mp hb with z|z
  .exact Ot _ z
  .exact Oq _ (Oq _ z)
 cases r with
 |cl d=>exact Rep.mono (le []) h
 |tm d=>exact Rep.mono (le []) h
 |nw xs=>obtain⟨q,vs,rfl,h1,h2,h3,h4⟩:=h;exact⟨q,vs,rfl,h1,λz=>h2 (Oq _ z),h3,Ts.mono (le [q]) h4⟩
 |dn d=>obtain⟨C,h0,h1,h2⟩:=h;exact⟨C,h0,λb hb=>⟨(h1 b hb).1,λz=>(h1 b hb).2 (Oq _ z)⟩,T6.mono (le C) h2 λ_ _ _ q=>q⟩
def kR{γ:Type}(i:Nat):OW γ->Out
 |.nx t _=>.nx (t.set i .no)
 |.rt r _=>.rt r
 |.bk t _=>.bk (t.set i .no)
 |.ct t _=>.ct (t.set i .no)
open Classical in
noncomputable def lN(i:Nat)(g:Xl->WS aj):DS:=λt=>match t[i]? with
 |some (.own [.int c,.int n])=>if h:∃o,∀p,(g p (t.set i (.val (.adr p))) (c,n)).map (kR i)=Qs o then Qs h.choose else Qn
 |_=>Qn
open Classical in
def Mw{g:Xl->WS aj}{c n:Int}{o:Out}(e:t[i]?=Qs (.own [.int c,.int n]))(h:∀p,(g p (t.set i (.val (.adr p))) (c,n)).map (kR i)=Qs o):lN i g t=Qs o:=by unfold lN;have hx:∃o,∀p,(g p (t.set i (.val (.adr p))) (c,n)).map (kR i)=Qs o:=⟨o,h⟩;rw[e];show(if h:∃o,∀p,(g p (t.set i (.val (.adr p))) (c,n)).map (kR i)=Qs o then Qs h.choose else Qn)=Qs o;rw[dif_pos hx];have:=hx.choose_spec 0;rw[h 0]at this;exact this.symm
def IH(i:Nat){g:Xl->WS aj}(h:∀p,Uu X sts (wS aj X.K F p (g p))):Uu X sts (dS X.K F (lN i g)):=by
 intro pins s σ H E I q;obtain⟨A,t,o,R,e,post⟩:=kG q;unfold lN at e;split at e
 case h_2=>cases e
 rename_i c n z;split at e
 case isFalse=>cases e
 rename_i hx;have Yg:=hx.choose_spec;have eo:hx.choose=o:=by simpa using e
 rw[eo]at Yg;obtain⟨p,vs,b1,b2,b3,b4⟩:=R.rel.Wm z;have ev:vs=[.int c,.int n]:=by
  cases b4 with
  |cons r1 r'=>
   cases r' with
   |cons r2 r3=>cases r3;cases r1;cases r2;rfl
 subst ev;obtain⟨A',sub,pn,mk⟩:=R.rel.ZE i R.nd z b1;have Zp:∀b∈A',b∈A:=λb hb=>sub.subset hb;have hs:Tj (ah (A++F) H) (ah (A'++([p]++F)) H):=bf H λb hb=>by
  rcases Ow.mp hb with y|y
  .exact Ot _ (Zp b y)
  .rcases Ow.mp y with y|y
   .rw[Oy.mp y];exact Ot _ b2
   .exact Oq _ y
 have hi:i<t.length:=(O6.mp z).1;have rel:TK X.K (ah (A'++([p]++F)) H) H (t.set i (.val (.adr p))) σ A':=by
  have:=TK.zcE (.adr p) (mk _ H hs λ_ _ _ w=>w) i (by simp[hi]) b1
  rwa [SI]at this
 have RWp:RW aj X.K F H A' (t.set i (.val (.adr p))) σ p (c,n) [p]:=⟨⟨λb hb=>?_,R.nd.sublist sub,λb hb w=>?_,rel⟩,⟨rfl,b3⟩,(by simp),λb hb=>?_⟩
 .have hp:=Yg p;rcases ho:g p (t.set i (.val (.adr p))) (c,n) with _|ow
  .rw[ho]at hp;cases hp
  rw[ho]at hp;have hp:kR i ow=o:=by simpa using hp
  refine h p pins s σ H E I ⟨A',[p],_,(c,n),ow,RWp,ho,?_⟩;have gr:∀{A2 B2 A3:Ql Xl}{H':Hp},Gr (A'++[p]) H (A2++B2) H'->(∀b∈A3,b∈A2)->Gr A H A3 H':=λ{A2 B2 A3 H'} g s3=>by
   have nA:∀b,b∉A->b∉A'++[p]:=λb nb w=>by
    rcases Ow.mp w with w|w
    .exact nb (Zp b w)
    .rw[Oy.mp w]at nb;exact nb b2
   refine⟨λb o' nb w=>g.kp b o' (nA b nb) w,λb hb=>?_,λb hb=>?_⟩
   .by_cases w:b∈A'++[p]
    .exact g.al b w
    .obtain⟨u,y⟩:=R.mu b (Ot _ hb);rw[g.kp b _ w y];simp
   .rcases g.nw b (Ot _ (s3 b hb)) with w|w
    .by_cases y:b∈A
     .exact .inl y
     .exact absurd w (nA b y)
    .exact .inr w
  have after:∀{N:L2.St->Hp->Prop}{t':Th}{w':Int×Int},After X.K F A H N (t'.set i .no)->uD aj X.K F p A' [p] H N t' w':=λ{N t' w'} k σ' H' A2 B2 g R2=>by
   obtain⟨A3,s3,q3⟩:=R2.rs.rel.fgt i;have m3:∀b∈A3,b∈A2:=λb hb=>s3.subset hb;refine k σ' H' A3 (gr g m3) ⟨λb hb=>R2.rs.mu b ?_,R2.rs.nd.sublist s3,λb hb w=>R2.rs.dj b (m3 b hb) (Oq _ w),TK.mono (bf H' λb hb=>?_) q3 λ_ _ _ w=>w⟩
   .rcases Ow.mp hb with w|w
    .exact Ot _ (m3 b w)
    .exact Oq _ (Oq _ w)
   .rcases Ow.mp hb with w|w
    .exact Ot _ (m3 b w)
    .exact Oq _ (Oq _ w)
  cases ow with
  |nx t' w'=>subst hp;exact after post
  |bk t' w'=>subst hp;exact after post
  |ct t' w'=>subst hp;exact after post
  |rt r w'=>
   subst hp;intro v H' A2 B2 g zcq nd dj y;refine post v H' [] (gr (A2:=A2) (B2:=B2) g λb hb=>nomatch hb) (y.zfc.weak λb hb=>?_);rcases Ow.mp hb with w|w
   .exact Zp b w
   .rw[Oy.mp w];exact b2
 .rcases Ow.mp hb with w|w
  .exact R.mu b (Ot _ (Zp b w))
  .rcases Ow.mp w with w|w
   .rw[Oy.mp w];exact⟨mL _,b3⟩
   .exact R.mu b (Oq _ w)
 .rcases Ow.mp w with w|w
  .rw[Oy.mp w]at hb;exact pn hb
  .exact R.dj b (Zp b hb) w
 .rw[Oy.mp hb];exact R.dj p b2
section
variable {fa fb fc:WE ρ}{ga:WA ρ}
def Ju{fs:WI ρ}{g:TG}{ft:WT ρ}{fe:WE ρ}(n:Nat)(cap:Ql Nat)(N':Ql Str)(hc:X.calm=Qt)(hi:PI X tg iter (wI ρ X.K F p fs)) (hg:∀C s₃ H₃ fp pins,PG (bC X N' scope C s₃ H₃ fp pins) tg g) (hk:∀F',cX X.K F' g kt) (ht:∀C s₃ H₃ fp pins F',Vy (bC X N' scope C s₃ H₃ fp pins) ifs (wT ρ X.K F' p ft)) (he:∀C s₃ H₃ fp pins F',PE (bC X N' scope C s₃ H₃ fp pins) elt (wE ρ X.K F' p fe)) (W7:scope.kind=.function:=by rfl) (W8:lS scope.names X.env.kindOf=Qt:=by rfl) (hN:N'.length=n+cap.length:=by rfl) (Vo:jR N' X.N n scope.names 0 cap=Qt:=by rfl) (hs:∀x,foldedSetIterable iter X.env x=pure x:=by intro _;rfl):PE X (.ListComp elt [⟨tg,iter,ifs,0⟩] scope pos) (wE ρ X.K F p (mZ n cap fs kt ft fe)):=Jv (uc W7 W8) hc hi hN (λk j e=>by simpa using pO Vo k j e) hg hk ht he hs
def PW.ptw{ft:WT ρ}(h:PW X a (wT ρ X.K F p ft)):PT X a (wT ρ X.K F p ft):=λpins s σ H Q I q=>h _ pins s σ H Q I q
end
def aX(f:Str):Ql Str->Qo Nat
 |[]=>Qn
 |n::ns=>if n=f then Qs 0 else(aX f ns).map (·+1)
def mR{α:Type}{f:Str}:∀{ns:Ql Str}{vs:Ql α}{j:Nat}{v:α},aX f ns=Qs j->vs[j]?=Qs v->(ns.zip vs).lookup f=Qs v
 |[],_,_,_,e,_=>by cases e
 |n::ns,[],j,v,e,h=>by simp at h
 |n::ns,x::vs,j,v,e,h=>by
  simp only[aX]at e;by_cases z:n=f
  .rw[S9 z]at e;cases e;have hb:(f==n)=Qt:=beq_iff_eq.mpr z.symm;simp only[Pu,QQ,hb];simpa using h
  .rw[Tr z]at e;have hb:(f==n)=Qf:=beq_eq_false_iff_ne.mpr λw=>z w.symm;simp only[Pu,QQ,hb];rcases e1:aX f ns with _|k
   .rw[e1]at e;cases e
   rw[e1]at e;cases e;exact mR e1 (by simpa using h)
def xg{α:Type}{f:Str}:∀{ns:Ql Str}{vs:Ql α},aX f ns=Qn->(ns.zip vs).lookup f=Qn
 |[],_,_=>by simp
 |n::ns,[],_=>by simp
 |n::ns,x::vs,e=>by
  simp only[aX]at e;by_cases z:n=f
  .rw[S9 z]at e;cases e
  .rw[Tr z]at e;have hb:(f==n)=Qf:=beq_eq_false_iff_ne.mpr λw=>z w.symm;simp only[Pu,QQ,hb];exact xg (by cases e1:aX f ns with
    |none=>rfl
    |some k=>rw[e1]at e;cases e)
def Bb{f:Str}{v:V}:∀{ns:Ql Str}{vs:Ql V}{j:Nat},aX f ns=Qs j->ns.length=vs.length->cS f v (ns.zip vs)=ns.zip (vs.set j v)
 |[],_,_,e,_=>by cases e
 |n::ns,[],j,e,h=>by simp at h
 |n::ns,x::vs,j,e,h=>by
  simp only[aX]at e;by_cases z:n=f
  .rw[S9 z]at e;cases e;simp only[Pu,cS,S9 z,List.set_cons_zero]
  .rw[Tr z]at e;rcases e1:aX f ns with _|k
   .rw[e1]at e;cases e
   rw[e1]at e;cases e;simp only[Pu,cS,Tr z,List.set_cons_succ];rw[Bb e1 (by simpa using h)]
def Ba{f:Str}{v:V}:∀{ns:Ql Str}{vs:Ql V},aX f ns=Qn->ns.length=vs.length->cS f v (ns.zip vs)=(ns++[f]).zip (vs++[v])
 |[],[],_,_=>rfl
 |[],_::_,_,h=>by simp at h
 |n::ns,[],e,h=>by simp at h
 |n::ns,x::vs,e,h=>by
  simp only[aX]at e;by_cases z:n=f
  .rw[S9 z]at e;cases e
  .rw[Tr z]at e;simp only[Pu,cS,Tr z,Q4];rw[Ba (by cases e1:aX f ns with
    |none=>rfl
    |some k=>rw[e1]at e;cases e) (by simpa using h)]
def D7{f:Str}:∀{ns:Ql Str}{j:Nat},aX f ns=Qs j->j<ns.length
 |[],_,e=>by cases e
 |n::ns,j,e=>by
  simp only[aX]at e;split at e
  .cases e;simp
  .rcases e1:aX f ns with _|k
   .rw[e1]at e;cases e
   rw[e1]at e;cases e;have:=D7 e1;simp only[OX];lia
def aI(C:Xl)(f:Str):Ev->Qo Ev:=λr=>match r.d with
 |.obj C' ns ds=>if C'=C then(aX f ns).bind λj=>(ds[j]?).map λd=>if r.ok||flat d then .cl d else .tm d else Qn
 |_=>Qn
def cT(c:UL X.K C)(n:Ue X.K C f)(ha:PE X a (dE X.K F fa))(hb:attributeBase a f X.env (eval a X.env)=eval a X.env:=by rfl):PE X (.Attribute a f pos) (dE X.K F (d1 (aI C f) fa)):=by
 refine PE.imp (kZ ha hb) ?_;rintro σ H Q ⟨A,t,r,R,e,h⟩;unfold d1 at e;rcases e1:fa t with _|r1
 .rw[e1]at e;cases e
 rw[e1]at e;replace e:aI C f r1=Qs r:=e;refine⟨A,t,r1,R,e1,λv H1 gs q=>?_⟩;have m:=R.mu;have m2:=m.mono gs;have key:∀(P:Ql Xl),Rep X.K (ah P H1) r1.d v->(∀d v,Rep X.K (ah P H1) d v->T8 X.K F A H H1 (if r1.ok||flat d then Ev.cl d else Ev.tm d) v)->∃a C dx fs v',v=.ref a/\H1 a=Qs (.ins C dx fs)/\UL X.K C/\Ue X.K C f/\fs.lookup f=Qs v'/\Q v' H1:=λP hP fin=>by
  unfold aI at e;split at e
  case h_2=>cases e
  rename_i C' ns ds z1;replace e:=Ve e;obtain⟨ec,e⟩:=e;subst ec;rw[z1]at hP;cases hP with
  |@obj _ dx _ _ p vs l h1 h2=>
   rcases e4:aX f ns with _|j
   .rw[e4]at e;cases e
   rw[e4]at e;simp only[Oz]at e;rcases e5:ds[j]? with _|d
   .rw[e5]at e;cases e
   rw[e5]at e;have e:(if r1.ok||flat d then Ev.cl d else Ev.tm d)=r:=by simpa using e
   obtain⟨v',e6,rv⟩:=h2.get e5;exact⟨p,C',dx,_,v',rfl,(cN h1).2,c,n,mR e4 e6,h v' H1 gs (e▸fin d v' rv)⟩
 by_cases k:r1.ok=Qt
 .refine key (A++F) (q.clean m gs k) λd v rv=>?_;rw[k,SG,S9 rfl];exact rv
 .refine key F (q.WW m) λd v rv=>?_;have k:r1.ok=Qf:=by simpa using k
  rw[k,Q8];split
  .rename_i f;exact Rep.UC m2 f (Rep.mono (aZ _ _) rv)
  .exact rv
structure XY(P:Pe)(w:QI)(K:Ou)(mg:Str->Option OM)(base:VZ)(C:Xl)(m:Str)(k:Nat)(G:List D->Option Ev):Prop where
 ex:∃(f:Xl) (fd:PX) (ps:List Str),Meth K C m f/\L2.Binds K fd ps []/\Um P w K mg base bg k f fd ps (UY K G)
def bY(C:Xl)(m:Str)(G:Ql D->Qo Ev)(fo:DE)(ga:DA):DE:=λt=>(fo t).bind λr0=>match r0.d with
 |.obj C' ns _=>if C'=C/\aX m ns=Qn then(ga t).bind λrs=>aO G (r0::rs) else Qn
 |_=>Qn
def B7{k:Nat}{E:XK}(hq:dE X.K F (bY C m G fo ga) σ H Q):rf C m (UY X.K G) [] E (dE X.K F fo) (dA X.K F ga) σ H Q:=by
 obtain⟨A,t,r,R,e,h⟩:=hq;unfold bY at e;rcases e1:fo t with _|r0
 .rw[e1]at e;cases e
 rw[e1]at e;simp only[Oz]at e;split at e
 case h_2=>cases e
 rename_i C' ns ds z1;replace e:=Ve e;obtain⟨ec,e⟩:=e;obtain⟨rfl,ec⟩:=ec;rcases e2:ga t with _|rs
 .rw[e2]at e;cases e
 rw[e2]at e;have e:aO G (r0::rs)=Qs r:=e;refine⟨A,t,r0,R,e1,λx H1 Va q1=>?_⟩;have q1f:=q1.full;rw[z1]at q1f;cases q1f with
 |@obj _ dx _ _ p vs l h1 h2=>refine⟨p,dx,_,rfl,h1,xg ec,A,t,rs,R.grow Va,e2,λus H2 Uq q2=>?_⟩;show UY X.K G (.ref p::(us++[])) H2 Q E;rw[Po];exact EI R.mu (Va.trans Uq) (.cons (q1.mono Uq) (UQ.back Va q2)) e λv H' g' q'=>h v H' ((Va.trans Uq).trans g') q'
def mE{k:Nat}(cl:UL X.K C)(cm:XY X.prog X.w X.K X.mg X.base C m k G)(hr:UP k X.A)(ho:PE X o (dE X.K F fo))(ha:PA X (a::es) (dA X.K F ga)) (UT:OP (a::es) X.env=(Qf,eval a X.env)::OP es X.env:=by rfl) (Vl:(QJ pos (OP es X.env)).any (·.1)=Qf:=by rfl) (ht:eval (.Call (.Attribute o m apos) (a::es) [] pos) X.env=(do
   let ov<-eval o X.env
   standAt apos.atName
   let (f,first)<-holding [ov] (getMethod ov m pl)
   callWith pos f first (QJ pos (OP (a::es) X.env)) (backToKw pos (keywordEach [] X.env))):=by rfl):PE X (.Call (.Attribute o m apos) (a::es) [] pos) (dE X.K F (bY C m G fo ga)):=by obtain⟨f,fd,ps,h1,h2,h3⟩:=cm.ex;exact PE.imp (BI (pl:=pl) ho cl h1 h3 hr h2 .nil (E:=E0) k6 ha UT Vl ht) λσ H Q hq=>B7 (k:=k) hq
def JB{k:Nat}(cl:UL X.K C)(cm:XY X.prog X.w X.K X.mg X.base C m k G)(hr:UP k X.A)(ho:PE X o (dE X.K F fo)) (ht:eval (.Call (.Attribute o m apos) [] [] pos) X.env=(do
   let ov<-eval o X.env
   standAt apos.atName
   let (f,first)<-holding [ov] (getMethod ov m pl)
   callWith pos f first (QJ pos (OP [] X.env)) (backToKw pos (keywordEach [] X.env))):=by rfl):PE X (.Call (.Attribute o m apos) [] [] pos) (dE X.K F (bY C m G fo ai)):=by obtain⟨f,fd,ps,h1,h2,h3⟩:=cm.ex;refine PE.imp (BH (pl:=pl) ho cl h1 h3 hr h2 .nil (E:=E0) k6 ht) λσ H Q hq=>?_;refine ?_;obtain⟨A,t,r,R,e,h⟩:=B7 (k:=k) (E:=E0) hq;refine⟨A,t,r,R,e,λx H1 gs q=>?_⟩;obtain⟨p,dx,fs,e1,e2,e3,A2,t2,rs,R2,e4,h4⟩:=h x H1 gs q;cases e4;exact⟨p,dx,fs,e1,e2,e3,h4 [] H1 (Tj.refl H1) .nil⟩
inductive Swp(K:Ou)(H0 H:Hp)(ds:List D)(vs:List V)(C:List Xl)(j:Nat)(d:D):Prop
 |mk (v B1:_) (_:vs[j]?=Qs v) (_:T6 K H0 H d v B1) (_:(∀b∈B1,b∈C)) (_:B1.Nodup) (_:∀Uv H' y v2 B2,Tj H0 Uv->T6 K Uv H' y v2 B2->B2.Nodup->(∀b∈B2,b∈B1\/b∉C)->(∀q∈C,q∉B1->∀o,H q=Qs o->H' q=Qs o)->∃C',TL K Uv H' (ds.set j y) (vs.set j v2) C'/\C'.Nodup/\∀b∈C',b∈B2\/(b∈C/\b∉B1))
def TL.swap{K:Ou}{H0 H:Hp}:∀{ds:Ql D}{vs:Ql V}{C:Ql Xl},TL K H0 H ds vs C->C.Nodup->∀{j:Nat}{d:D},ds[j]?=Qs d->Swp K H0 H ds vs C j d
 |_,_,_,.nil,nd,j,d,e=>by simp at e
 |_,_,_,.cons (v:=v) (B:=B) (C:=C) h r,nd,0,d,e=>by
  simp at e;subst e;have n:=OG.mp nd;refine⟨v,B,rfl,h,λb hb=>Ot _ hb,n.1,λUv H' y v2 B2 s q n2 sb k=>⟨B2++C,.cons q (TL.mono s r λp hp o w=>?_),OG.mpr ⟨n2,n.2.1,λx hx z hz e=>?_⟩,λb hb=>?_⟩⟩
  .exact k p (Oq _ hp) (λz=>n.2.2 p z p hp rfl) o w
  .subst e;rcases sb x hx with w|w
   .exact n.2.2 x w x hz rfl
   .exact w (Oq _ hz)
  .rcases Ow.mp hb with w|w
   .exact .inl w
   .exact .inr ⟨Oq _ w,λz=>n.2.2 b z b w rfl⟩
 |_,_,_,.cons (v:=v) (B:=B) (C:=C) h r,nd,j+1,d,e=>by
  have n:=OG.mp nd;obtain⟨v1,B1,a1,a2,a3,a5,a4⟩:=TL.swap r n.2.1 (j:=j) (d:=d) (by simpa using e);refine⟨v1,B1,by simpa using a1,a2,λb hb=>Oq _ (a3 b hb),a5,λUv H' y v2 B2 s q n2 sb k=>?_⟩;obtain⟨C',b1,b2,b3⟩:=a4 Uv H' y v2 B2 s q n2 (λb hb=>(sb b hb).imp id λz w=>z (Oq _ w)) (λq hq=>k q (Oq _ hq));refine⟨B++C',.cons (T6.mono s h λp hp o w=>k p (Ot _ hp) (λz=>n.2.2 p hp p (a3 p z) rfl) o w) b1,OG.mpr ⟨n.1,b2,λx hx z hz e=>?_⟩,λb hb=>?_⟩
  .subst e;rcases b3 x hz with w|w
   .rcases sb x w with u|u
    .exact n.2.2 x hx x (a3 x u) rfl
    .exact u (Ot _ hx)
   .exact n.2.2 x hx x w.1 rfl
  .rcases Ow.mp hb with w|w
   .exact .inr ⟨Ot _ w,λz=>n.2.2 b w b (a3 b z) rfl⟩
   .rcases b3 b w with u|u
    .exact .inl u
    .exact .inr ⟨Oq _ u.1,u.2⟩
def TL.snoc{K:Ou}{H0 H:Hp}{d:D}{v:V}{B:Ql Xl}(q:T6 K H0 H d v B):∀{ds:Ql D}{vs:Ql V}{C:Ql Xl},TL K H0 H ds vs C->TL K H0 H (ds++[d]) (vs++[v]) (C++B)
 |_,_,_,.nil=>by have:TL K H0 H [d] [v] (B++[]):=.cons q .nil;rw[Po]at this;exact this
 |_,_,_,.cons h r=>by rw[Pm];exact .cons h (TL.snoc q r)
def GW (h:σ[i]?=Qs (Qs v)):σ.set i (Qs v)=σ:=by
 apply Rg;intro k;by_cases z:i=k
 .subst z;have hi:i<σ.length:=(O6.mp h).1;rw[Qr hi,h]
 .rw[Pc z]
def RS.zdK{Z:Ql Xl}{d:D}(R:RS K (Z++F) H A t σ)(zf:∀z∈Z,z∉F)(e:t[i]?=Qs (.dp d)):∃v B A',σ[i]?=Qs (Qs v)/\B.Nodup/\(∀b∈B,b∈A)/\(∀b∈A',b∈A)/\(∀b∈B,b∉A'++(Z++F))/\T6 K (ah (A'++(B++(Z++F))) H) H d v B/\T6 K (ah (A++(Z++F)) H) H d v B/\∀H1 d2 B2,(∀b o,b∉B->b∉Z->H b=Qs o->H1 b=Qs o)->B2.Nodup->(∀b∈B2,b∈B\/b∈Z\/H b=Qn)->T6 K (ah (A'++(B2++F)) H1) H1 d2 v B2->∃A2,RS K F H1 A2 (t.set i (.dp d2)) σ/\∀b∈A2,b∈A\/b∈Z\/H b=Qn:=by
 obtain⟨v,B,A',a1,R',nb,dj,Y1,sub,Wg⟩:=R.zaI e;have hi:i<t.length:=(O6.mp e).1;have le:Tj (ah (A++(Z++F)) H) (ah (A'++(B++(Z++F))) H):=bf H λx hx=>by
  rcases Ow.mp hx with z|z
  .exact Ot _ (sub x z)
  .rcases Ow.mp z with z|z
   .exact Ot _ (Wg x z)
   .exact Oq _ z
 refine⟨v,B,A',a1,nb,Wg,sub,λb hb z=>(Ow.mp z).elim (λw=>R'.dj b w (Ot _ hb)) (dj b hb),T6.mono le Y1 λ_ _ _ w=>w,Y1,λH1 d2 B2 kp ZC new rd=>?_⟩;have up:∀b,b∈A'++F->b∈A'++(B++(Z++F)):=λb hb=>by
  rcases Ow.mp hb with w|w
  .exact Ot _ w
  .exact Oq _ (Oq _ (Oq _ w))
 have out:∀b,b∈A'++F->b∉B:=λb hb z=>by
  rcases Ow.mp hb with w|w
  .exact R'.dj b w (Ot _ z)
  .exact dj b z (Oq _ w)
 have zaS:∀b,b∈A'++F->b∉Z:=λb hb z=>by
  rcases Ow.mp hb with w|w
  .exact R'.dj b w (Oq _ (Ot _ z))
  .exact zf b z w
 have zcz:∀b,b∈A'++F->b∉B2:=λb hb z=>by
  rcases new b z with w|w|w
  .exact out b hb w
  .exact zaS b hb w
  .obtain⟨o,q⟩:=R'.mu b (up b hb);rw[w]at q;cases q
 have mu2:Ul H1 (A'++(B2++F)):=λb hb=>by
  have other:b∈A'++F->∃o:MO,H1 b=Qs o.1:=λz=>by obtain⟨o,q⟩:=R'.mu b (up b z);exact⟨o,kp b _ (out b z) (zaS b z) q⟩
  rcases Ow.mp hb with z|z
  .exact other (Ot _ z)
  .rcases Ow.mp z with z|z
   .exact rd.lists b z
   .exact other (Oq _ z)
 have R2:RS K (B2++F) H1 A' (t.set i .no) σ:=by
  refine⟨mu2,R'.nd,λb hb z=>?_,TK.mono (λb o h=>?_) R'.rel λb hb o h=>kp b o (out b (Ot _ hb)) (zaS b (Ot _ hb)) h⟩
  .rcases Ow.mp z with w|w
   .exact zcz b (Ot _ hb) w
   .exact R'.dj b hb (Oq _ (Oq _ w))
  .obtain⟨n,h⟩:=cN h;have nB:b∉B:=λz=>n (Oq _ (Ot _ z));have nZ:b∉Z:=λz=>n (Oq _ (Oq _ (Ot _ z)));refine bA (kp b o nB nZ h) λz=>?_;rcases Ow.mp z with w|w
   .exact n (Ot _ w)
   .rcases Ow.mp w with w|w
    .rcases new b w with u|u|u
     .exact nB u
     .exact nZ u
     .rw[h]at u;cases u
    .exact n (Oq _ (Oq _ (Oq _ w)))
 obtain⟨A2,s2,RR⟩:=R2.zeJ (i:=i) ZC (λb hb z=>zcz b (Oq _ z) hb) rd (by rw[RF];exact hi);rw[SI,GW a1]at RR;refine⟨A2,RR,λb hb=>?_⟩;rcases s2 b hb with z|z
 .rcases new b z with w|w|w
  .exact .inl (Wg b w)
  .exact .inr (.inl w)
  .exact .inr (.inr w)
 .exact .inl (sub b z)
inductive zih(K:Ou)(F Z A:List Xl)(H:Hp)(t:Th)(σ:L2.St)(i:Nat)(C:Xl)(ns:List Str)(ds:List D):Prop
 |mk (p dx vs C0:_) (_:σ[i]?=Qs (Qs (.ref p))) (_:H p=Qs (.ins C dx (ns.zip vs))) (_:ns.length=vs.length) (_:p∈A) (_:p∉C0) (_:p∉Z) (_:C0.Nodup) (_:(∀b∈C0,b∈A/\b∉Z)) (_:TL K (ah (A++(Z++F)) H) H ds vs C0) (_:∀H1 Zx Zk VW C2,(∀b o,b≠p->b∉C0->b∉Z->H b=Qs o->H1 b=Qs o)->H1 p=Qs (.ins C dx (Zx.zip Zk))->Zx.length=Zk.length->C2.Nodup->p∉C2->(∀b∈C2,b∈C0\/b∈Z\/H b=Qn)->TL K (ah ((p::(C0++C2))++(A++(Z++F))) H1) H1 VW Zk C2->∃A2,RS K F H1 A2 (t.set i (.dp (.obj C Zx VW))) σ/\∀b∈A2,b∈A\/b∈Z\/H b=Qn)
def RS.zbF{Z:Ql Xl}(R:RS K (Z++F) H A t σ)(zf:∀z∈Z,z∉F)(e:t[i]?=Qs (.dp (.obj C ns ds))):zih K F Z A H t σ i C ns ds:=by
 obtain⟨v,B,A',a1,nb,Wg,sub,nz,rdA,Y1,fin⟩:=R.zdK zf e;cases Y1 with
 |flat f r=>simp[flat]at f
 |@obj _ dx _ _ p vs C0 l h r=>
  have n0:=OO.mp nb;refine⟨p,dx,vs,C0,a1,h,l,Wg p (Ox ..),n0.1,λz=>nz p (Ox ..) (Oq _ (Ot _ z)),n0.2,λb hb=>⟨Wg b (Ov _ hb),λz=>nz b (Ov _ hb) (Oq _ (Ot _ z))⟩,r,λH1 Zx Zk VW C2 kp hp l2 n2 np new rd=>?_⟩;refine fin H1 (.obj C Zx VW) (p::C2) (λb o nB nZ w=>kp b o (λz=>nB (z▸Ox ..)) (λz=>nB (Ov _ z)) nZ w) (OO.mpr ⟨np,n2⟩) (λb hb=>?_) (.obj l2 hp (TL.mono (bf H1 λb hb=>?_) rd λ_ _ _ w=>w))
  .rcases OC.mp hb with z|z
   .exact .inl (z▸Ox ..)
   .exact(new b z).imp (Ov _) id
  .rcases Ow.mp hb with z|z
   .exact Oq _ (Ot _ (sub b z))
   .rcases Ow.mp z with z|z
    .refine Ot _ ?_;rcases OC.mp z with z|z
     .exact z▸Ox ..
     .exact Ov _ (Oq _ z)
    .exact Oq _ (Oq _ (Oq _ z))
def jM:Ev->Qo D
 |.cl d=>if flat d then Qs d else Qn
 |.tm d=>if flat d then Qs d else Qn
 |.nw xs=>if Ui xs then Qs (.lst xs) else Qn
 |.dn d=>Qs d
def T8.owned{y:D}(m:Ul H (A++F))(gs:Tj H H1)(q:T8 K F A H H1 r v)(e:jM r=Qs y):∃Bn:Ql Xl,Bn.Nodup/\(∀b∈Bn,H b=Qn)/\T6 K (ah (Bn++(A++F)) H1) H1 y v Bn:=by
 have m1:=m.mono gs;cases r with
 |cl d=>simp only[jM]at e;replace e:=Ve e;obtain⟨f,e⟩:=e;cases e;exact⟨[],Pl,(λb hb=>nomatch hb),.flat f q⟩
 |tm d=>simp only[jM]at e;replace e:=Ve e;obtain⟨f,e⟩:=e;cases e;exact⟨[],Pl,(λb hb=>nomatch hb),.flat f (Rep.UC m1 f (Rep.mono (aZ _ _) q))⟩
 |nw xs=>simp only[jM]at e;replace e:=Ve e;obtain⟨f,e⟩:=e;cases e;obtain⟨p,vs,rfl,h1,h2,h3⟩:=q;exact⟨[p],by simp,λb hb=>by rw[Oy.mp hb];exact h1,.lst h2 (TL.Zw f h3)⟩
 |dn d=>cases e;obtain⟨B,h1,h2,h3⟩:=q;exact⟨B,h1,h2,h3⟩
def Ww(C:Xl)(ns:Ql Str)(ds:Ql D)(f:Str)(y:D):D:=match aX f ns with
 |some j=>.obj C ns (ds.set j y)
 |none=>.obj C (ns++[f]) (ds++[y])
def RS.Ww{K:Ou}{F A:Ql Xl}{H:Hp}{t:Th}{σ:L2.St}{i:Nat}{C:Xl}{ns:Ql Str}{ds:Ql D}(R:RS K F H A t σ)(e:t[i]?=Qs (.dp (.obj C ns ds))):∃p dx vs,σ[i]?=Qs (Qs (.ref p))/\H p=Qs (.ins C dx (ns.zip vs))/\ns.length=vs.length/\Ts K H ds vs/\∀f H1 y w Bn,Tj H H1->Bn.Nodup->(∀b∈Bn,H b=Qn)->T6 K (ah (Bn++(A++F)) H1) H1 y w Bn->∃A2,RS K F (L2.upd H1 p (.ins C dx (cS f w (ns.zip vs)))) A2 (t.set i (.dp (DL.Ww C ns ds f y))) σ/\Gr A H A2 (L2.upd H1 p (.ins C dx (cS f w (ns.zip vs)))):=by
 obtain⟨p,dx,vs,C0,a1,hp,hl,pA,pC,_,nC,WQ,rd,fin⟩:=RS.zbF (Z:=[]) R (λz hz=>nomatch hz) e;have rd:TL K (ah (A++F) H) H ds vs C0:=rd;refine⟨p,dx,vs,a1,hp,hl,TL.rep (aZ _ _) rd λ_ _ _ w=>w,λf H1 y w Bn gs nB fr rdy=>?_⟩;have hpn:∀b,H b=Qn->b≠p:=λb h z=>by rw[z,hp]at h;cases h
 have alA:∀b∈A,H b≠Qn:=λb hb z=>by obtain⟨o,q⟩:=R.mu b (Ot _ hb);rw[z]at q;cases q
 have hu:∀o b,b≠p->L2.upd H1 p o b=H1 b:=λo b n=>aS n;generalize Ws:L2.upd H1 p (.ins C dx (cS f w (ns.zip vs)))=H2;have u1:∀b,b≠p->H2 b=H1 b:=λb n=>by rw[<-Ws];exact aS n
 have u2:H2 p=Qs (.ins C dx (cS f w (ns.zip vs))):=by rw[<-Ws];exact bB
 have S1:Tj (ah (A++F) H) (ah (Bn++(A++F)) H2):=λb o h=>by
  obtain⟨n,h⟩:=cN h;have np:b≠p:=λz=>n (z▸Ot _ pA);refine bA (by rw[u1 b np];exact gs b o h) λz=>?_;rcases Ow.mp z with z|z
  .rw[fr b z]at h;cases h
  .exact n z
 have S2:Tj (ah (Bn++(A++F)) H1) (ah (Bn++(A++F)) H2):=λb o h=>by obtain⟨n,h⟩:=cN h;have np:b≠p:=λz=>n (z▸Oq _ (Ot _ pA));exact bA (by rw[u1 b np];exact h) n
 have ry:T6 K (ah (Bn++(A++F)) H2) H2 y w Bn:=T6.mono S2 rdy λb hb o h=>by rw[u1 b (hpn b (fr b hb))];exact h
 have kC:∀q∈C0,∀o,H q=Qs o->H2 q=Qs o:=λq hq o h=>by rw[u1 q (λz=>pC (z▸hq))];exact gs q o h
 have gr:∀A2:Ql Xl,(∀b∈A2,b∈A\/b∈([]:Ql Xl)\/H b=Qn)->Gr A H A2 H2:=λA2 h=>by
  refine⟨λb o n q=>by rw[u1 b (λz=>n (z▸pA))];exact gs b o q,λb hb=>?_,λb hb=>?_⟩
  .by_cases z:b=p
   .rw[z,u2];simp
   .obtain⟨o,q⟩:=R.mu b (Ot _ hb);rw[u1 b z,gs b _ q];simp
  .rcases h b hb with z|z|z
   .exact .inl z
   .cases z
   .exact .inr z
 have kp:∀b o,b≠p->b∉C0->b∉([]:Ql Xl)->H b=Qs o->H2 b=Qs o:=λb o n _ _ h=>by rw[u1 b n];exact gs b o h
 have sub:∀C2:Ql Xl,(∀b∈C2,b∈Bn\/b∈C0)->Tj (ah (Bn++(A++F)) H2) (ah ((p::(C0++C2))++(A++([]++F))) H2):=λC2 h=>bf H2 λb hb=>by
  have c0:b∈C0->b∈Bn++(A++F):=λz=>Oq _ (Ot _ (WQ b z).1);rcases Ow.mp hb with z|z
  .rcases OC.mp z with z|z
   .rw[z];exact Oq _ (Ot _ pA)
   .rcases Ow.mp z with z|z
    .exact c0 z
    .rcases h b z with z|z
     .exact Ot _ z
     .exact c0 z
  .exact Oq _ z
 unfold DL.Ww;cases ef:aX f ns with
 |some j=>
  have hj:j<ds.length:=by have:=D7 ef;have l2:=rd.length;lia
  obtain⟨v1,B1,b1,b2,b3,b4,b5⟩:=rd.swap nC (OE hj);obtain⟨C',c1,c2,c3⟩:=b5 _ H2 y w Bn S1 ry nB (λb hb=>.inr λz=>alA b (WQ b z).1 (fr b hb)) (λq hq _=>kC q hq);have VM:∀b∈C',b∈Bn\/b∈C0:=λb hb=>(c3 b hb).imp id λz=>z.1;obtain⟨A2,d1,d2⟩:=fin H2 ns (vs.set j w) (ds.set j y) C' kp (by rw[u2,Bb ef hl]) (by rw[RF];exact hl) c2 (λz=>(VM p z).elim (λz=>hpn p (fr p z) rfl) pC) (λb hb=>(VM b hb).elim (λz=>.inr (.inr (fr b z))) .inl) (TL.mono (sub C' VM) c1 λ_ _ _ w=>w);exact⟨A2,d1,gr A2 d2⟩
 |none=>have c1:TL K (ah (Bn++(A++F)) H2) H2 (ds++[y]) (vs++[w]) (C0++Bn):=TL.snoc ry (TL.mono S1 rd kC);have VM:∀b∈C0++Bn,b∈Bn\/b∈C0:=λb hb=>(Ow.mp hb).elim .inr .inl;obtain⟨A2,d1,d2⟩:=fin H2 (ns++[f]) (vs++[w]) (ds++[y]) (C0++Bn) kp (by rw[u2,Ba ef hl]) (by simp[hl]) (OG.mpr ⟨nC,nB,λx hx z hz e=>by subst e;exact alA x (WQ x hx).1 (fr x hz)⟩) (λz=>(VM p z).elim (λz=>hpn p (fr p z) rfl) pC) (λb hb=>(VM b hb).elim (λz=>.inr (.inr (fr b z))) .inl) (TL.mono (sub _ VM) c1 λ_ _ _ w=>w);exact⟨A2,d1,gr A2 d2⟩
def lE(t:Th)(i:Nat)(C:Xl)(f:Str)(r:Ev):Qo Out:=match t[i]?,jM r with
 |some (.dp (.obj C' ns ds)),Qs y=>if C'=C/\ns.length<900 then Qs (.nx (t.set i (.dp (DL.Ww C ns ds f y)))) else Qn
 |_,_=>Qn
def eV(i:Nat)(C:Xl)(f:Str)(fe:DE):DS:=λt=>(fe t).bind (lE t i C f)
def zS (h:ns.length<900):(ns.zip vs).length<1000:=by rw[RI];lia
def AD{α:Type}{xs:Ql α}{x:α}(h:xs[j]?=Qs x):xs.set j x=xs:=by
 apply Rg;intro k;by_cases z:j=k
 .subst z;have hi:j<xs.length:=(O6.mp h).1;rw[Qr hi,h]
 .rw[Pc z]
inductive zii(K:Ou)(F A:List Xl)(H:Hp)(t:Th)(σ:L2.St)(i j:Nat)(C:Xl)(ns:List Str)(ds es:List D)(f:Str):Prop
 |mk (p dx vs q ws:_) (_:σ[i]?=Qs (Qs (.ref p))) (_:H p=Qs (.ins C dx (ns.zip vs))) (_:(ns.zip vs).lookup f=Qs (.ref q)) (_:H q=Qs (.lst ws)) (_:Ts K (ah (A++F) H) es ws) (_:ns.length=vs.length) (_:vs[j]?=Qs (.ref q)) (_:(∃C0,TL K (ah (A++F) H) H ds vs C0/\C0.Nodup)) (_:∀H1 UG Xh,Tj H H1->Ui UG=Qt->Ts K (ah (A++F) H1) UG Xh->∃A2,RS K F (L2.upd H1 q (.lst Xh)) A2 (t.set i (.dp (.obj C ns (ds.set j (.lst UG))))) σ/\Gr A H A2 (L2.upd H1 q (.lst Xh)))
def RS.zdj{es:Ql D}(R:RS K F H A t σ)(e:t[i]?=Qs (.dp (.obj C ns ds)))(ef:aX f ns=Qs j)(ed:ds[j]?=Qs (.lst es))(fl:Ui es=Qt):zii K F A H t σ i j C ns ds es f:=by
 obtain⟨p,dx,vs,C0,a1,hp,hl,pA,pC,_,nC,WQ,rd,fin⟩:=RS.zbF (Z:=[]) R (λz hz=>nomatch hz) e;have rd:TL K (ah (A++F) H) H ds vs C0:=rd;obtain⟨v1,B1,b1,b2,b3,b4,b5⟩:=rd.swap nC ed;cases b2 with
 |flat f' r=>simp[flat]at f'
 |@lst _ q ws Bq hq rq=>
  obtain⟨rs,eB⟩:=TL.fl rq fl;subst eB;have qC:q∈C0:=b3 q (Ox ..);have qA:q∈A:=(WQ q qC).1;have qp:p≠q:=λz=>pC (z▸qC);refine⟨p,dx,vs,q,ws,a1,hp,mR ef b1,hq,rs,hl,b1,⟨C0,rd,nC⟩,λH1 UG Xh gs XS rs'=>?_⟩;generalize Ws:L2.upd H1 q (.lst Xh)=H2;have u1:∀b,b≠q->H2 b=H1 b:=λb n=>by rw[<-Ws];exact aS n
  have u2:H2 q=Qs (.lst Xh):=by rw[<-Ws];exact bB
  have S1:Tj (ah (A++F) H) (ah (A++F) H2):=λb o h=>by obtain⟨n,h⟩:=cN h;exact bA (by rw[u1 b λz=>n (z▸Ot _ qA)];exact gs b o h) n
  have S2:Tj (ah (A++F) H1) (ah (A++F) H2):=λb o h=>by obtain⟨n,h⟩:=cN h;exact bA (by rw[u1 b λz=>n (z▸Ot _ qA)];exact h) n
  obtain⟨C',c1,c2,c3⟩:=b5 _ H2 (.lst UG) (.ref q) [q] S1 (.lst u2 (TL.Zw XS (Ts.mono S2 rs'))) (by simp) (λb hb=>.inl (by simpa using hb)) (λb hb n o h=>by rw[u1 b λz=>n (by rw[z];exact Ox ..)];exact gs b o h);rw[AD b1]at c1;have VM:∀b∈C',b∈C0:=λb hb=>by
   rcases c3 b hb with z|z
   .rw[Oy.mp z];exact qC
   .exact z.1
  have sub:Tj (ah (A++F) H2) (ah ((p::(C0++C'))++(A++([]++F))) H2):=bf H2 λb hb=>by
   rcases Ow.mp hb with z|z
   .refine Ot _ ?_;rcases OC.mp z with z|z
    .rw[z];exact pA
    .rcases Ow.mp z with z|z
     .exact(WQ b z).1
     .exact(WQ b (VM b z)).1
   .exact z
  obtain⟨A2,d1,d2⟩:=fin H2 ns vs (ds.set j (.lst UG)) C' (λb o n nC' _ h=>by rw[u1 b λz=>nC' (z▸qC)];exact gs b o h) (by rw[u1 p qp];exact gs p _ hp) hl c2 (λz=>pC (VM p z)) (λb hb=>.inl (VM b hb)) (TL.mono sub c1 λ_ _ _ w=>w);refine⟨A2,d1,λb o n h=>by rw[u1 b λz=>n (z▸qA)];exact gs b o h,λb hb=>?_,λb hb=>?_⟩
  .by_cases z:b=q
   .rw[z,u2];simp
   .obtain⟨o,w⟩:=R.mu b (Ot _ hb);rw[u1 b z,gs b _ w];simp
  .rcases d2 b hb with z|z|z
   .exact .inl z
   .cases z
   .exact .inr z
inductive zij(K:Ou)(F A:List Xl)(H:Hp)(t:Th)(σ:L2.St)(i j:Nat)(C:Xl)(ns:List Str)(ds es:List D)(f:Str):Prop
 |mk (p dx vs q ws:_) (_:σ[i]?=Qs (Qs (.ref p))) (_:H p=Qs (.ins C dx (ns.zip vs))) (_:(ns.zip vs).lookup f=Qs (.ref q)) (_:H q=Qs (.lst ws)) (_:Ts K (ah (A++F) H) es ws) (_:∀H1 UG Xh,Tj H H1->Ui UG=Qt->Ts K (ah (A++F) H1) UG Xh->∃A2,RS K F (L2.upd H1 q (.lst Xh)) A2 (t.set i (.dp (.obj C ns (ds.set j (.lst UG))))) σ/\Gr A H A2 (L2.upd H1 q (.lst Xh)))
def RS.zbG{es:Ql D}(R:RS K F H A t σ)(e:t[i]?=Qs (.dp (.obj C ns ds)))(ef:aX f ns=Qs j)(ed:ds[j]?=Qs (.lst es))(fl:Ui es=Qt):zij K F A H t σ i j C ns ds es f:=by obtain⟨p,dx,vs,q,ws,a1,a2,a3,a4,a5,_,_,_,a6⟩:=R.zdj e ef ed fl;exact⟨p,dx,vs,q,ws,a1,a2,a3,a4,a5,a6⟩
def gT(t:Th)(i:Nat)(C:Xl)(f:Str)(k:Ql D->Qo (Ql D)):Qo Out:=match t[i]? with
 |some (.dp (.obj C' ns ds))=>if C'=C then(aX f ns).bind λj=>match ds[j]? with
  |some (.lst es)=>if Ui es then(k es).bind λUG=>if Ui UG then Qs (.nx (t.set i (.dp (.obj C ns (ds.set j (.lst UG)))))) else Qn else Qn
  |_=>Qn else Qn
 |_=>Qn
def tE{k:Ql D->Qo (Ql D)}{o:Out}(e:gT t i C f k=Qs o):∃ns ds j es UG,t[i]?=Qs (.dp (.obj C ns ds))/\aX f ns=Qs j/\ds[j]?=Qs (.lst es)/\Ui es=Qt/\k es=Qs UG/\Ui UG=Qt/\o=.nx (t.set i (.dp (.obj C ns (ds.set j (.lst UG))))):=by
 unfold gT at e;split at e
 case h_2=>cases e
 rename_i C' ns ds z1;replace e:=Ve e;obtain⟨ec,e⟩:=e;subst ec;rcases e1:aX f ns with _|j
 .rw[e1]at e;cases e
 rw[e1]at e;simp only[Oz]at e;split at e
 case h_2=>cases e
 rename_i es z2;replace e:=Ve e;obtain⟨fl,e⟩:=e;rcases e2:k es with _|UG
 .rw[e2]at e;cases e
 rw[e2]at e;simp only[Oz]at e;split at e
 case isFalse=>cases e
 rename_i XS;cases e;exact⟨ns,ds,j,es,UG,z1,e1,z2,fl,e2,XS,rfl⟩
def oS(r k:Ev)(es:Ql D):Qo (Ql D):=match k.d with
 |.int n=>if flat r.d then(Vn es.length n).map λl=>es.set l r.d else Qn
 |_=>Qn
def m5(i:Nat)(C:Xl)(f:Str)(fk fe:DE):DS:=λt=>(fe t).bind λr=>(fk t).bind λk=>gT t i C f (oS r k)
def tF(g:Int->Int->Int)(k r:Ev)(es:Ql D):Qo (Ql D):=match k.d,r.d with
 |.int n,.int m=>(Vn es.length n).bind λl=>match es[l]? with
  |some (.int v)=>Qs (es.set l (.int (g v m)))
  |_=>Qn
 |_,_=>Qn
def i9(g:Int->Int->Int)(i:Nat)(C:Xl)(f:Str)(fk fe:DE):DS:=λt=>(fk t).bind λk=>(fe t).bind λr=>gT t i C f (tF g k r)
def tG(r:Ev)(es:Ql D):Qo (Ql D):=if flat r.d&&decide (es.length<100000) then Qs (es++[r.d]) else Qn
def lR(i:Nat)(C:Xl)(f:Str)(fe:DE):DS:=λt=>(fe t).bind λr=>gT t i C f (tG r)
def oT(t:Th)(i:Nat)(C:Xl)(f:Str)(r:Ev):Qo Out:=match t[i]?,r.d with
 |some (.dp (.obj C' ns ds)),.int m=>if C'=C/\ns.length<900/\m.natAbs<=1000 then(aX f ns).bind λj=>match ds[j]? with
  |some (.int v)=>Qs (.nx (t.set i (.dp (DL.Ww C ns ds f (.int (v*m))))))
  |_=>Qn else Qn
 |_,_=>Qn
def pL(i:Nat)(C:Xl)(f:Str)(fe:DE):DS:=λt=>(fe t).bind (oT t i C f)
def Ms:Fh X .Mult (λx y H Q=>∃i j:Int,x=.int i/\y=.int j/\j.natAbs<=1000/\Q (.int (i*j)) H):=by rintro pins s σ H x y u v Q I rx ry ⟨i,j,rfl,rfl,hj,q⟩;refine Mo (X:=X) pins s σ H (.int i) (.int j) u v Q I rx ry ⟨i,j,rfl,rfl,.inr ⟨?_,?_⟩,q⟩<;>lia
def gQ(i:Nat) (c:UL X.K C)(n:Ue X.K C f)(he:PE X a (dE X.K F fa))(hN:X.N[i]?=Qs x:=by rfl)(hv:dt X.env.scope x:=by first|exact Or.inl rfl|exact Or.inr (Or.inl rfl)|exact Or.inr (Or.inr rfl))(hd:UR x:=by decide) (UI:Vz x:=by decide) (hs:swapsWith a (Qs (.Attribute (.Name x p0) f pos')) pos.line X.env=pure Qf:=by rfl):PS X (.Assign [.Attribute (.Name x p0) f pos'] a pos) (dP X.K F I (eV i C f fa)):=by
 refine PS.imp (IS (dH (i:=i) hN hv hd UI) he hs) ?_;rintro E σ H ⟨A,t,t2,R,e,h⟩;unfold eV at e;refine aB e λr e1 e=>?_;replace e:lE t i C f r=Qs (.nx t2):=e;unfold lE at e;split at e
 case h_2=>cases e
 rename_i C' ns ds y z1 z2;refine bW e λok e=>?_;obtain⟨rfl,hl⟩:=ok;cases e;obtain⟨p,dx,vs,a1,a2,a3,_,a4⟩:=R.Ww z1;refine⟨A,t,r,R,e1,λw H1 gs q=>⟨_,a1,p,C',dx,_,rfl,gs _ _ a2,c,n,zS hl,?_⟩⟩;obtain⟨Bn,b1,b2,b3⟩:=q.owned R.mu gs z2;obtain⟨A2,c1,c2⟩:=a4 f H1 y w Bn gs b1 b2 b3;exact h _ _ _ c2 c1 λ_ _=>rfl
def Jf(i:Nat) (c:UL X.K C)(n:Ue X.K C f)(hb:PE X b (dE X.K F fb))(he:PE X a (dE X.K F fa))(hN:X.N[i]?=Qs x:=by rfl)(hv:dt X.env.scope x:=by first|exact Or.inl rfl|exact Or.inr (Or.inl rfl)|exact Or.inr (Or.inr rfl))(hd:UR x:=by decide) (UI:Vz x:=by decide) (YD:attributeBase (.Name x p0) f X.env (eval (.Name x p0) X.env)=eval (.Name x p0) X.env:=by rfl) (ha:∀v,assign (.Subscript (.Attribute (.Name x p0) f p1) b Vx) X.env v=(do
   let ov<-holding [v] (eval (.Attribute (.Name x p0) f p1) X.env)
   let iv<-holding [v,ov] (eval b X.env)
   standAt Vx
   holding [v,ov,iv] (setItem ov iv v)
   release [v,ov,iv] []):=by intro _;rfl) (hs:swapsWithSole [.Subscript (.Attribute (.Name x p0) f p1) b Vx] a pos.line X.env=pure Qf:=by rfl) (hw:swappedStores [.Subscript (.Attribute (.Name x p0) f p1) b Vx] a X.env=pure Qn:=by rfl) (h1:(assignEach [.Subscript (.Attribute (.Name x p0) f p1) b Vx] X.env).map (·.2)=[assign (.Subscript (.Attribute (.Name x p0) f p1) b Vx) X.env]:=by rfl):PS X (.Assign [.Subscript (.Attribute (.Name x p0) f p1) b Vx] a pos) (dP X.K F I (m5 i C f fb fa)):=by
 refine PS.imp (sr he (wy (kZ (dH (i:=i) hN hv hd UI) YD) hb rG ha) hs hw h1) ?_;rintro E σ H ⟨A,t,t2,R,e,h⟩;unfold m5 at e;rcases e1:fa t with _|r
 .rw[e1]at e;cases e
 rcases e2:fb t with _|kk
 .rw[e1,e2]at e;cases e
 rw[e1,e2]at e;replace e:gT t i C f (oS r kk)=Qs (.nx t2):=e;obtain⟨ns,ds,j,es,UG,z1,z2,z3,fl,ek,XS,eo⟩:=tE e;cases eo;unfold oS at ek;split at ek
 case h_2=>cases ek
 rename_i n' zk;replace ek:=Ve ek;obtain⟨fr,ek⟩:=ek;rcases e4:Vn es.length n' with _|l
 .rw[e4]at ek;cases ek
 rw[e4]at ek;have ek:es.set l r.d=UG:=by simpa using ek
 subst ek;obtain⟨p,dx,vs,q,ws,a1,a2,a3,a4,a5,a6⟩:=R.zbG z1 z2 z3 fl;refine⟨A,t,r,R,e1,λy H1 Va q1=>⟨_,a1,p,C,dx,_,_,rfl,Va _ _ a2,c,n,a3,A,t,kk,R.grow Va,e2,λw H2 Uq q2=>?_⟩⟩;have p2:=q2.full;rw[zk]at p2;cases cI p2;have gs:=Va.trans Uq;refine⟨q,ws,n',l,rfl,rfl,gs _ _ a4,by rw[a5.length];exact e4,?_⟩;have ry:Rep X.K (ah (A++F) H2) r.d y:=Rep.UC (R.mu.mono gs) fr (q1.mono Uq).full;obtain⟨A2,c1,c2⟩:=a6 H2 _ (ws.set l y) gs XS (Ts.set ry l (Ts.mono (cY gs) a5));exact h _ _ _ c2 c1 λ_ _=>rfl
def Bs{g:Int->Int->Int}(i:Nat) (c:UL X.K C)(n:Ue X.K C f)(ho:zJ X op (Dd g))(hb:PE X b (dE X.K F fb))(he:PE X a (dE X.K F fa))(hN:X.N[i]?=Qs x:=by rfl)(hv:dt X.env.scope x:=by first|exact Or.inl rfl|exact Or.inr (Or.inl rfl)|exact Or.inr (Or.inr rfl))(hd:UR x:=by decide) (UI:Vz x:=by decide) (YD:attributeBase (.Name x p0) f X.env (eval (.Name x p0) X.env)=eval (.Name x p0) X.env:=by rfl) (ha:∀ov iv new,augStore b ov iv new=(do holding [new,ov,iv] (setItem ov iv new);release [new,ov,iv] [];pure .next):=by intros;rfl):PS X (.AugAssign (.Subscript (.Attribute (.Name x p0) f p1) b Vx) op a pos) (dP X.K F I (i9 g i C f fb fa)):=by
 refine PS.imp (Bo (kZ (dH (i:=i) hN hv hd UI) YD) hb Dv he ho rG ha) ?_;rintro E σ H ⟨A,t,t2,R,e,h⟩;unfold i9 at e;rcases e1:fb t with _|kk
 .rw[e1]at e;cases e
 rcases e2:fa t with _|r
 .rw[e1,e2]at e;cases e
 rw[e1,e2]at e;replace e:gT t i C f (tF g kk r)=Qs (.nx t2):=e;obtain⟨ns,ds,j,es,UG,z1,z2,z3,fl,ek,XS,eo⟩:=tE e;cases eo;unfold tF at ek;split at ek
 case h_2=>cases ek
 rename_i n' m' zk zr;rcases e4:Vn es.length n' with _|l
 .rw[e4]at ek;cases ek
 rw[e4]at ek;simp only[Oz]at ek;split at ek
 case h_2=>cases ek
 rename_i v z4;cases ek;obtain⟨p,dx,vs,q,ws,a1,a2,a3,a4,a5,a6⟩:=R.zbG z1 z2 z3 fl;obtain⟨v0,b1,b2⟩:=a5.get z4;cases cI b2;have ea:UO ws n'=Qs (.int v):=by unfold L2.UO;rw[a5.length,e4];exact b1
 refine⟨_,a1,p,C,dx,_,_,rfl,a2,c,n,a3,A,t,kk,R,e1,λw H1 Va q1=>?_⟩;have p1:=q1.full;rw[zk]at p1;cases cI p1;refine⟨q,ws,n',.int v,rfl,rfl,TZ.of (Va _ _ a4),ea,A,t,r,R.grow Va,e2,λy H2 Uq q2=>?_⟩;have p2:=q2.full;rw[zr]at p2;cases cI p2;have gs:=Va.trans Uq;refine⟨v,m',rfl,rfl,q,ws,n',l,rfl,rfl,gs _ _ a4,by rw[a5.length];exact e4,?_⟩;obtain⟨A2,c1,c2⟩:=a6 H2 _ (ws.set l (.int (g v m'))) gs XS (Ts.set (.int _) l (Ts.mono (cY gs) a5));exact h _ _ _ c2 c1 λ_ _=>rfl
def wj(i:Nat) (c:UL X.K C)(n:Ue X.K C f)(he:PE X a (dE X.K F fa))(hN:X.N[i]?=Qs x:=by rfl)(hv:dt X.env.scope x:=by first|exact Or.inl rfl|exact Or.inr (Or.inl rfl)|exact Or.inr (Or.inr rfl))(hd:UR x:=by decide) (UI:Vz x:=by decide) (YD:attributeBase (.Name x p0) f X.env (eval (.Name x p0) X.env)=eval (.Name x p0) X.env:=by rfl) (UT:OP [a] X.env=[(Qf,eval a X.env)]:=by rfl) (YC:attributeBase (.Attribute (.Name x p0) f p1) "append" X.env (eval (.Attribute (.Name x p0) f p1) X.env)=eval (.Attribute (.Name x p0) f p1) X.env:=by rfl) (Yy:((QJ Uw (OP [a] X.env)).all (λx=>!x.1)&&(backToKw Uw (keywordEach [] X.env)).all (λx=>x.1.isSome)
   && decide ([a].length+([]:Ql SW).length+(if([]:Ql SW).isEmpty then 0 else 1)<30))=Qt:=by rfl) (Yw:(apos.endLine==Uw.line)=Qt:=by rfl) (Yu:(QJ Uw (OP [] X.env)).any (·.1)=Qf:=by rfl) (Wh:swapsWith (.Call (.Attribute (.Attribute (.Name x p0) f p1) "append" apos) [a] [] Uw) Qn pos.line X.env=pure Qf:=by rfl):PS X (.Expr (.Call (.Attribute (.Attribute (.Name x p0) f p1) "append" apos) [a] [] Uw) pos) (dP X.K F I (lR i C f fa)):=by
 refine PS.imp (ot (wK Q6 QB Q3 sQ (kZ (dH (i:=i) hN hv hd UI) YD) (gm he gF UT) YC Yy Yw UT Yu) Wh) ?_;rintro E σ H ⟨A,t,t2,R,e,h⟩;unfold lR at e;refine aB e λr e1 e=>?_;replace e:gT t i C f (tG r)=Qs (.nx t2):=e;obtain⟨ns,ds,j,es,UG,z1,z2,z3,fl,ek,XS,eo⟩:=tE e;cases eo;unfold tG at ek;refine bW ek λok ek=>?_;simp only[OH,UX]at ok;cases ek;obtain⟨p,dx,vs,q,ws,a1,a2,a3,a4,a5,a6⟩:=R.zbG z1 z2 z3 fl;refine⟨_,a1,p,C,dx,_,_,rfl,a2,c,n,a3,.inl ⟨rfl,ws,TZ.of a4⟩,A,t,r,R,e1,λy H1 gs qy=>⟨q,ws,y,rfl,rfl,gs _ _ a4,?_,?_⟩⟩
 .have:ws.length<100000:=by rw[a5.length];exact ok.2
  exact OS this (by rw[sizeLine_eq];decide)
 .obtain⟨A2,c1,c2⟩:=a6 H1 _ (ws++[y]) gs XS ((Ts.mono (cY gs) a5).app (Ts.one (Rep.UC (R.mu.mono gs) ok.1 qy.full)));exact h _ _ _ c2 c1 λ_ _=>rfl
def Jj(i:Nat) (c:UL X.K C)(n:Ue X.K C f)(he:PE X a (dE X.K F fa))(hN:X.N[i]?=Qs x:=by rfl)(hv:dt X.env.scope x:=by first|exact Or.inl rfl|exact Or.inr (Or.inl rfl)|exact Or.inr (Or.inr rfl))(hd:UR x:=by decide) (UI:Vz x:=by decide):PS X (.AugAssign (.Attribute (.Name x p0) f Vx) .Mult a pos) (dP X.K F I (pL i C f fa)):=by
 refine PS.imp (IQ (dH (i:=i) hN hv hd UI) he Ms) ?_;rintro E σ H ⟨A,t,t2,R,e,h⟩;unfold pL at e;rcases e1:fa t with _|r
 .rw[e1]at e;cases e
 rw[e1]at e;replace e:oT t i C f r=Qs (.nx t2):=e;unfold oT at e;split at e
 case h_2=>cases e
 rename_i C' ns ds m z1 z2;replace e:=Ve e;obtain⟨ok,e⟩:=e;obtain⟨rfl,hl,hm⟩:=ok;rcases e2:aX f ns with _|j
 .rw[e2]at e;cases e
 rw[e2]at e;simp only[Oz]at e;split at e
 case h_2=>cases e
 rename_i v z3;cases e;obtain⟨p,dx,vs,a1,a2,a3,a5,a4⟩:=R.Ww z1;obtain⟨v0,b1,b2⟩:=a5.get z3;cases cI b2;refine⟨_,a1,p,C',dx,_,.int v,rfl,a2,c,n,mR e2 b1,A,t,r,R,e1,λy H1 gs q=>?_⟩;have p1:=q.full;rw[z2]at p1;cases cI p1;obtain⟨A2,c1,c2⟩:=a4 f H1 (.int (v*m)) (.int (v*m)) [] gs Pl (λb hb=>nomatch hb) (.flat rfl (.int _));exact⟨v,m,rfl,rfl,hm,dx,_,gs _ _ a2,zS hl,h _ _ _ c2 c1 λ_ _=>rfl⟩
def k9:Out->Qo D
 |.nx t=>match t[0]? with
  |some (Sl.dp d)=>Qs d
  |_=>Qn
 |_=>Qn
def rC(N:Ql Str)(d:D)(ds:Ql D):Th:=.dp d::(ds.map Sl.val++OR (N.length-1-ds.length) Sl.no)
def lq(k:Nat)(N:Ql Str)(g:DS):Ql D->Qo D:=λds=>match ds with
 |d::ds=>if ds.length+1=k then(g (rC N d ds)).bind k9 else Qn
 |[]=>Qn
inductive X3(K:Ou)(G:List D->Option D)(vs:List V)(H:Hp)(Q:VK)(x_:XK):Prop
 |mk (Fo:List Xl) (B:List Xl) (p:Xl) (d:D) (d2:D) (ds:List D) (VH:List V) (_:vs=.ref p::VH) (_:Ul H (B++Fo)) (_:B.Nodup) (_:(∀b∈B,b∉Fo)) (_:T6 K (ah (B++Fo) H) H d (.ref p) B) (_:Ts K (ah (B++Fo) H) ds VH) (_:G (d::ds)=Qs d2) (_:∀H' B2,Gr B H B2 H'->B2.Nodup->(∀b∈B2,b∉Fo)->T6 K (ah (B2++Fo) H') H' d2 (.ref p) B2->Q .TX H')
def tX{mg:Str->Qo OM}{f:Xl}{k m:Nat}(Fn:L2.UB K x qual st f fd)(S:UN N ps (aY st))(hm:ps.length=m)(g:DS) (W9:∀(T9:OM) (A:Qq) (outer:Ql Env) (s:OJ) (H:Hp) (E:XK) (F:Ql Xl),UP k (A.deeper (envOfC qual (aY st) s.heap.objs.size f T9))->Uu (jd bg P w K mg base N qual (aY st) f T9 A outer s H E).X5 (eQ st) (dP K F [0] g)):Um P w K mg base bg (k+1) f fd ps (X3 K (lq m N g)):=by
 refine Fn.ok S (λvs H Q E h=>?_) (λT9 A outer s H vs Q E hr h=>?_)
 .obtain⟨Fo,B,p,d,d2,ds,VH,rfl,_,_,_,_,h2,hg,_⟩:=h;simp only[lq]at hg;refine bW hg λhl hg=>?_;rw[OX,h2.length,hm];exact hl
 .obtain⟨Fo,B,p,d,d2,ds,VH,rfl,hl,nd,dj,rd,h2,hg,cont⟩:=h;simp only[lq]at hg;replace hg:=Ve hg;obtain⟨_,hg⟩:=hg;refine aB hg λo ho hg=>?_;have hg:k9 o=Qs d2:=hg;cases o with
  |bk t'=>cases hg
  |ct t'=>cases hg
  |rt r'=>cases hg
  |nx t'=>
   simp only[k9]at hg;split at hg
   case h_2=>cases hg
   rename_i d0 z;cases hg;have eA:B++[]=B:=Po B;have R0:RS K Fo H B (rC N d ds) (L2.start N (.ref p::VH)):=by
    refine⟨hl,nd,dj,?_⟩;unfold rC L2.start;simp only[OF,Q4,OX,h2.length];have e:N.length-1-ds.length=N.length-(ds.length+1):=by lia
    rw[e];have:=TK.dp rd (TK.start (K:=K) (H0:=ah (B++Fo) H) (H:=H) (TK.zam (N.length-(ds.length+1))) h2);rw[eA]at this;exact this
   refine⟨_,W9 T9 A outer s H E Fo hr,B,rC N d ds,t',R0,ho,λσ' H' A' g' R' n'=>?_⟩;obtain⟨v,B2,A2,a1,_,nb,_,Zu,_,Wg⟩:=R'.zaI z;have e0:=n' 0 (Oy.mpr rfl);have es:(L2.start N (.ref p::VH))[0]?=Qs (Qs (.ref p)):=rfl;rw[es,a1]at e0;cases e0;refine cont H' B2 ⟨g'.kp,g'.al,λb hb=>g'.nw b (Wg b hb)⟩ nb (λb hb=>R'.dj b (Wg b hb)) (T6.mono (bf H' λb hb=>?_) Zu λ_ _ _ w=>w);rcases Ow.mp hb with w|w
   .exact Ot _ (Wg b w)
   .exact Oq _ w
structure Z6(P:Pe)(w:QI)(K:Ou)(mg:Str->Option OM)(base:VZ)(C:Xl)(m:Str)(k:Nat)(G:List D->Option D):Prop where
 ex:∃(f:Xl) (fd:PX) (ps:List Str),Meth K C m f/\L2.Binds K fd ps []/\Um P w K mg base bg k f fd ps (X3 K G)
structure zdP(P:Pe)(w:QI)(K:Ou)(mg:Str->Option OM)(base:VZ)(x:Str)(C:Xl)(k:Nat)(G:List D->Option D):Prop where
 ex:∃(f:Xl) (fd:PX) (ps:List Str),mg x=Qs (.ref C)/\Mk K C f/\L2.Binds K fd ps []/\Um P w K mg base bg k f fd ps (X3 K G)
def lD(t:Th)(i:Nat)(C:Xl)(m:Str)(G:Ql D->Qo D)(rs:Ql Ev):Qo Out:=match t[i]? with
 |some (.dp (.obj C' ns ds))=>if C'=C/\aX m ns=Qn/\Ui (rs.map Ev.d)=Qt then(G (.obj C ns ds::rs.map Ev.d)).map λd2=>.nx (t.set i (.dp d2)) else Qn
 |_=>Qn
def iy(i:Nat)(C:Xl)(m:Str)(G:Ql D->Qo D)(ga:DA):DS:=λt=>(ga t).bind (lD t i C m G)
def B8{G:Ql D->Qo D}{E:Ends}{E':XK}{t2:Th}(R:RS X.K F H A t σ)(e:iy i C m G ga t=Qs (.nx t2))(h:∀H' A',Gr A H A' H'->RS X.K F H' A' t2 σ->E.nx σ H'):rf C m (X3 X.K G) [] E' (λσ H Q=>∃v,σ[i]?=Qs (Qs v)/\Q v H) (dA X.K F ga) σ H λ_ H'=>E.nx σ H':=by
 unfold iy at e;rcases e1:ga t with _|rs
 .rw[e1]at e;cases e
 rw[e1]at e;replace e:lD t i C m G rs=Qs (.nx t2):=e;unfold lD at e;split at e
 case h_2=>cases e
 rename_i C' ns ds z;replace e:=Ve e;obtain⟨ok,e⟩:=e;obtain⟨rfl,hm,fl⟩:=ok;rcases e2:G (.obj C' ns ds::rs.map Ev.d) with _|d2
 .rw[e2]at e;cases e
 rw[e2]at e;cases e;obtain⟨v,B,A',a1,nb,Wg,sub,dj,rdA,Y1,fin⟩:=RS.zdK (Z:=[]) R (λz hz=>nomatch hz) z;have dj:∀b∈B,b∉A'++F:=dj;have rdA:T6 X.K (ah (A'++(B++F)) H) H (.obj C' ns ds) v B:=rdA;have perm:∀(Q:Ql Xl) (H':Hp),Tj (ah (A'++(Q++F)) H') (ah (Q++(A'++F)) H'):=λQ H'=>bf H' λb hb=>by simp only[Ow]at hb ⊢;rcases hb with w|w|w<;>simp[w]
 have zeN:∀(Q:Ql Xl) (H':Hp),Tj (ah (Q++(A'++F)) H') (ah (A'++(Q++F)) H'):=λQ H'=>bf H' λb hb=>by simp only[Ow]at hb ⊢;rcases hb with w|w|w<;>simp[w]
 cases Y1 with
 |flat f' r=>simp[flat]at f'
 |@obj _ dx _ _ p vs C0 l hp r=>
  refine⟨.ref p,a1,p,dx,_,rfl,hp,xg hm,A,t,rs,R,e1,λus H2 gs q=>?_⟩;have mA:Ul H2 ((p::C0)++(A'++F)):=λb hb=>R.mu.mono gs b (by
   rcases Ow.mp hb with w|w
   .exact Ot _ (Wg b w)
   .rcases Ow.mp w with w|w
    .exact Ot _ (sub b w)
    .exact Oq _ w)
  refine⟨A'++F,p::C0,p,_,d2,rs.map Ev.d,us++[],rfl,mA,nb,dj,T6.mono ((perm _ H).trans (cY gs)) rdA λb _ o w=>gs b o w,?_,e2,λH' B2 gr ZC dj2 Zu=>?_⟩
  .rw[Po];exact Ts.UC mA fl q.full
  .have kp:∀b o,b∉p::C0->H b=Qs o->H' b=Qs o:=λb o n w=>gr.kp b o n (gs b o w);have nw:∀b∈B2,b∈p::C0\/b∈([]:Ql Xl)\/H b=Qn:=λb hb=>(gr.nw b hb).imp id λw=>.inr (Tj.free gs w);obtain⟨A2,c1,c2⟩:=fin H' d2 B2 (λb o n _ w=>kp b o n w) ZC nw (T6.mono (zeN _ H') Zu λ_ _ _ w=>w);refine h H' A2 ⟨λb o n w=>kp b o (λz=>n (Wg b z)) w,λb hb=>?_,λb hb=>?_⟩ c1
   .by_cases w:b∈p::C0
    .exact gr.al b w
    .obtain⟨o,u⟩:=R.mu b (Ot _ hb);rw[kp b _ w u];simp
   .rcases c2 b hb with w|w|w
    .exact .inl w
    .cases w
    .exact .inr w
def Bp{k:Nat}{G:Ql D->Qo D}(i:Nat)(cl:UL X.K C)(cm:Z6 X.prog X.w X.K X.mg X.base C m k G)(hr:UP k X.A)(ha:PA X (a::es) (dA X.K F ga))(hN:X.N[i]?=Qs x:=by rfl)(hv:dt X.env.scope x:=by first|exact Or.inl rfl|exact Or.inr (Or.inl rfl)|exact Or.inr (Or.inr rfl))(hd:UR x:=by decide) (UI:Vz x:=by decide) (UT:OP (a::es) X.env=(Qf,eval a X.env)::OP es X.env:=by rfl) (Vl:(QJ Uw (OP es X.env)).any (·.1)=Qf:=by rfl) (ht:eval (.Call (.Attribute (.Name x p0) m apos) (a::es) [] Uw) X.env=(do
   let ov<-eval (.Name x p0) X.env
   standAt apos.atName
   let (f,first)<-holding [ov] (getMethod ov m pl)
   callWith Uw f first (QJ Uw (OP (a::es) X.env)) (backToKw Uw (keywordEach [] X.env))):=by rfl) (Wh:swapsWith (.Call (.Attribute (.Name x p0) m apos) (a::es) [] Uw) Qn pos.line X.env=pure Qf:=by rfl):PS X (.Expr (.Call (.Attribute (.Name x p0) m apos) (a::es) [] Uw) pos) (dP X.K F I (iy i C m G ga)):=by obtain⟨f,fd,ps,h1,h2,h3⟩:=cm.ex;refine PS.imp (ot (BI (pl:=pl) (dH (i:=i) hN hv hd UI) cl h1 h3 hr h2 .nil (E:=E0) k6 ha UT Vl ht) Wh) ?_;rintro E σ H ⟨A,t,t2,R,e,h⟩;exact B8 R e λH' A' gr R'=>h σ H' A' gr R' λ_ _=>rfl
def Jd{k:Nat}{G:Ql D->Qo D}(i:Nat)(cl:UL X.K C)(cm:Z6 X.prog X.w X.K X.mg X.base C m k G)(hr:UP k X.A)(hN:X.N[i]?=Qs x:=by rfl)(hv:dt X.env.scope x:=by first|exact Or.inl rfl|exact Or.inr (Or.inl rfl)|exact Or.inr (Or.inr rfl))(hd:UR x:=by decide) (UI:Vz x:=by decide) (ht:eval (.Call (.Attribute (.Name x p0) m apos) [] [] Uw) X.env=(do
   let ov<-eval (.Name x p0) X.env
   standAt apos.atName
   let (f,first)<-holding [ov] (getMethod ov m pl)
   callWith Uw f first (QJ Uw (OP [] X.env)) (backToKw Uw (keywordEach [] X.env))):=by rfl) (Wh:swapsWith (.Call (.Attribute (.Name x p0) m apos) [] [] Uw) Qn pos.line X.env=pure Qf:=by rfl):PS X (.Expr (.Call (.Attribute (.Name x p0) m apos) [] [] Uw) pos) (dP X.K F I (iy i C m G ai)):=by obtain⟨f,fd,ps,h1,h2,h3⟩:=cm.ex;refine PS.imp (ot (BH (pl:=pl) (dH (i:=i) hN hv hd UI) cl h1 h3 hr h2 .nil (E:=E0) k6 ht) Wh) ?_;rintro E σ H ⟨A,t,t2,R,e,h⟩;obtain⟨v,a1,p,dx,fs,e1,e2,e3,A2,t3,rs,R2,e4,h4⟩:=B8 (E':=E0) R e λH' A' gr R'=>h σ H' A' gr R' λ_ _=>rfl;cases e4;exact⟨v,a1,p,dx,fs,e1,e2,e3,h4 [] H (Tj.refl H) .nil⟩
def wb (hx:kL g)(h:PS X st (dP X.K F [] g)):PS X st (dS X.K F g):=by refine PS.imp h ?_;rintro E σ H ⟨A,t,o,R,e,k⟩;obtain⟨t2,rfl⟩:=hx t o e;exact⟨A,t,t2,R,e,λσ' H' A' gr R' _=>k σ' H' A' gr R'⟩
def wR{G:Ql D->Qo D}:kL (iy i C m G ga):=λt o e=>by
 unfold iy at e;refine aB e λrs e1 e=>?_;replace e:lD t i C m G rs=Qs o:=e;unfold lD at e;split at e
 case h_2=>cases e
 split at e
 case isFalse=>cases e
 rename_i C' ns ds z ok;cases e2:G (.obj C ns ds::rs.map Ev.d) with
 |none=>rw[e2]at e;cases e
 |some d2=>rw[e2]at e;cases e;exact⟨_,rfl⟩
def oQ(C:Xl)(G:Ql D->Qo D):Ql Ev->Qo Ev:=λrs=>if rs.all Ev.ok then(G (.obj C [] []::rs.map Ev.d)).map Ev.dn else Qn
def JA{k:Nat}{G:Ql D->Qo D}{q:Pos}(cn:zdP X.prog X.w X.K X.mg X.base x C k G)(hr:UP (k+1) X.A)(ha:PA X (a::es) (dA X.K F ga))(hg:Gl X x:=by rfl)(V3:UR x:=by decide) (he:OP (a::es) X.env=(Qf,eval a X.env)::OP es X.env:=by rfl) (Vl:(QJ pos (OP es X.env)).any (·.1)=Qf:=by rfl):PE X (.Call (.Name x q) (a::es) [] pos) (dE X.K F (ag (oQ C G) ga)):=by
 obtain⟨f,fd,ps,h1,h2,h3,h4⟩:=cn.ex;refine PE.imp (JO h2 h4 hr hg h1 h3 .nil (E:=E0) k6 ha V3 he Vl) ?_;rintro σ H Q ⟨A,t,r,R,e,h⟩;unfold ag at e;rcases e1:ga t with _|rs
 .rw[e1]at e;cases e
 rw[e1]at e;replace e:oQ C G rs=Qs r:=e;unfold oQ at e;replace e:=Ve e;obtain⟨ok,e⟩:=e;rcases e2:G (.obj C [] []::rs.map Ev.d) with _|d2
 .rw[e2]at e;cases e
 rw[e2]at e;cases e;refine⟨A,t,rs,R,e1,λvs H1 gs q x dx hx hdx ne=>?_⟩;generalize Ws:L2.upd (L2.upd H1 dx (.own x)) x (.ins C dx [])=H2;have u0:H2 x=Qs (.ins C dx []):=by rw[<-Ws];exact bB
 have u1:∀b,b≠x->b≠dx->H2 b=H1 b:=λb n n2=>by rw[<-Ws,aS n,aS n2]
 have Uq:Tj H1 H2:=λb o w=>by rw[u1 b (λz=>by rw[z,hx]at w;cases w) (λz=>by rw[z,hdx]at w;cases w)];exact w
 have g12:=gs.trans Uq;have m1:=R.mu.mono gs;have nx:x∉A++F:=eM m1 hx;have hx0:H x=Qn:=Tj.free gs hx;have mA:Ul H2 ([x]++(A++F)):=λb hb=>by
  rcases Ow.mp hb with w|w
  .rw[Oy.mp w];exact⟨mI C dx [],u0⟩
  .exact m1.mono Uq b w
 have cl:Ts X.K (ah (A++F) H1) (rs.map Ev.d) vs:=q.clean R.mu gs ok;have nA:Tj (ah (A++F) H1) (ah ([x]++(A++F)) H2):=λb o w=>by
  obtain⟨n,w⟩:=cN w;refine bA (Uq b o w) λz=>?_;rcases Ow.mp z with z|z
  .rw[Oy.mp z,hx]at w;cases w
  .exact n z
 refine⟨A++F,[x],x,.obj C [] [],d2,rs.map Ev.d,vs++[],rfl,mA,(by simp),λb hb=>by rw[Oy.mp hb];exact nx,.obj (vs:=[]) rfl u0 .nil,by rw[Po];exact Ts.mono nA cl,e2,λH' B2 gr ZC dj2 Zu=>⟨rfl,?_⟩⟩;refine h (.ref x) H' (λb o w=>gr.kp b o (λz=>by rw[Oy.mp z,hx0]at w;cases w) (g12 b o w)) ⟨B2,ZC,λb hb=>?_,Zu⟩;rcases gr.nw b hb with w|w
 .rw[Oy.mp w];exact hx0
 .exact Tj.free g12 w
end DL
namespace L2
open PySem.Spec TS
def Ff(d:Xl)(o:Obj)(ks:Ql Int):It:=⟨λi H=>(∃u,H d=Qs (.Vb o u))/\i<ks.length,λi H x H'=>H'=H/\∃b,ks[i]?=Qs b/\x=.int b,λi H=>(∃u,H d=Qs (.Vb o u))/\ks.length=i⟩
def FN (d it:Xl){o:Obj}{es:Array DictEntry}{ks:Ql Int}(ex:o.ExactDict)(dd:o.data=.dict es ep)(hsz:es.size=ks.length)(hk:∀(i:Nat) (h:i<es.size) (h':i<ks.length),∃t,es[i].key=.int ks[i] t):Turn P w K tg (Ff d o ks) [it] it (λi h=>h.IsKeyIter it d i es.size ep) where
 mem:=by simp
 obj:=λi h st b hb=>by
  have e:b=it:=by simpa using hb
  subst e;obtain⟨o,e,c,d⟩:=st;exact⟨o,e,λv z=>by rw[d]at z;cases z⟩
 keep:=λi h h' st k=>Heap.IsKeyIter.at st λo e=>k it (by simp) o e
 item:=by intro X hP hw hK hc i pins s σ H E I hf st hg;subst hP hw hK;obtain⟨⟨u,hd⟩,hi⟩:=hg;have ho:s.heap.get? d=Qs o:=(show U5 X.prog X.w H s.heap d (.Vb o u) from I.TY d _ hd).1;obtain⟨f0,f1,f2,f3,f4,f5⟩:=hf it (by simp);refine HY st ⟨o,ho,ex,dd⟩ (by lia) λh' V0 sb=>?_;have I1:Inv X pins σ H {s with heap:=h'}:=I.turned (t':=s.toks) (λb o hb e=>(sb.2 b hb).trans e) f0 f1 f3 f4 f5;obtain⟨oi,e,c,d⟩:=id V0;obtain⟨tk,ek⟩:=hk i (by lia) hi;exact⟨_,rfl,tR (s:={s with heap:=h'}) e c d (by decide) ⟨.int ks[i],H,I1,by rw[ek];exact⟨tk,rfl⟩,⟨rfl,ks[i],OE hi,rfl⟩,V0,λb hb=>(hf b hb).1⟩⟩
 done:=by
  intro X hP hw hK hc i pins s σ H E I hf st hg;subst hP hw hK;obtain⟨⟨u,hd⟩,hi⟩:=hg;have ho:s.heap.get? d=Qs o:=(show U5 X.prog X.w H s.heap d (.Vb o u) from I.TY d _ hd).1;obtain⟨f0,f1,f2,f3,f4,f5⟩:=hf it (by simp);have ei:i=es.size:=by lia
  subst ei;exact HZ (I.ok.hd hc) st ⟨o,ho,ex,dd⟩ λh' eb=>⟨rfl,I.turned (t':=s.toks) (λb o hb e=>eb b o hb e) f0 f1 f3 f4 f5⟩
 self:=λ_ _ _ _ _ st h=>wpAny_pyIter_keyiter st h
def Dl{P:Pe}{w:QI}:∀{ks:Ql Int}{vs:Ql (aD×OM)}{es:Ql DictEntry},KV (DL.VR ks) vs->Pairs (dO P w) es vs->es.length=ks.length/\∀(i:Nat) (h:i<es.length) (h':i<ks.length),∃t,es[i].key=.int ks[i] t
 |[],_,_,.nil,.nil=>⟨rfl,λi h=>by simp at h⟩
 |k::ks,_,_,.cons h r,.cons (e:=e) h1 h2 r2=>by
  obtain⟨a,b⟩:=Dl (ks:=ks) r r2;refine⟨by simp[a],λi hi XJ=>?_⟩;cases i with
  |zero=>have hh:(Sum.inl k:aD)=_:=h.1;rw[<-hh,Lr]at h1;have:=HV h1;exact this
  |succ i=>exact b i (by simpa using hi) (by simpa using XJ)
def MD(tl:TE):TI:=λσ H R=>tl σ H λx H1=>∃a o ks,x=.ref a/\H1 a=Qs (.Vb o (.dK (DL.VR ks)))/\R (Ff a o ks) H1
def Jt{l:Xn}{tl:TE}(hl:PE X l tl):PI X tg l (MD tl):=by
 intro pins s σ H R I h;refine aE (hl pins s σ H _ I h) λv s1 ⟨x,H1,I1,r1,q1⟩=>?_;obtain⟨a,o,ks,e,hq,q⟩:=q1;subst e;cases r1;obtain⟨e0,_,nm,vs,kv,o',es,ep,e1,ex,d,ko,pr,_⟩:=(show U5 X.prog X.w H1 s1.heap a (.Vb o (.dK (DL.VR ks))) from I1.TY a _ hq);rw[e0]at e1;cases e1;obtain⟨sz,ky⟩:=Dl kv pr;refine HX nm ⟨o,e0,ex,d⟩ ?_;refine⟨s1.heap.objs.size,[s1.heap.objs.size],_,_,H1,rfl,I1.kept (t':=s1.toks) λb o e=>OA _ e,FN a _ (ks:=ks) ex d (by simpa using sz) (λi h h'=>?_),⟨_,OU _ rfl,rfl,rfl⟩,λb hb=>?_,q⟩
 .obtain⟨t,z⟩:=ky i (by simpa using h) h';exact⟨t,by simpa using z⟩
 .have e:b=s1.heap.objs.size:=by simpa using hb
  subst e;exact I1.YF (OL _) (I1.TY.fresh (OL _))
end L2
namespace DL
open PySem.Spec L2
def pJ(k:D->Th->Qo Th)(f:DE)(body:DS):DS:=λt=>(f t).bind λr=>match r.d with
 |.T4 ks=>bj k body (ks.map D.int) t
 |_=>Qn
def yV(f:DE):DT:=λt=>(f t).bind λr=>match r.d with
 |.T4 ks=>Qs (!ks.isEmpty)
 |_=>Qn
def Iv(ha:PE X a (dE X.K F fa))(he:∀whole,isTrue a X.env whole=(do let v<-whole;standAt a.pos;holding [v] (truthy v)):=by intro _;rfl):PT X a (dT X.K F (yV fa)):=by
 rintro pins s σ H Q I ⟨A,t,k,R,e,h⟩;unfold yV at e;rcases e1:fa t with _|r
 .rw[e1]at e;cases e
 rw[e1]at e;simp only[Oz]at e;split at e
 case h_2=>cases e
 rename_i ks z;cases e;refine isTrue_plain (aE (ha pins s σ H (λv H1=>Tj H H1/\Rep X.K H1 (.T4 ks) v) I ⟨A,t,r,R,e1,λv H1 gs q=>⟨gs,z▸q.full⟩⟩) λv s1 ⟨x,H1,I1,r1,gs,rp⟩=>?_) (he _);cases rp with
 |@T4 _ p o h1=>
  cases r1;obtain⟨hz,hS,vs,r,m⟩:=lK I1.TY (.inr ⟨o,h1⟩);have hlen:(VR ks).length=vs.length:=Paired.length r;have hl:=lu;refine wpAny_truthy_dict hS m (by lia) ⟨H1,I1.tok _,?_⟩;rw[C9 r];have:(!(VR ks).isEmpty)=!ks.isEmpty:=by cases ks<;>rfl
  rw[this];exact h H1 gs
def z7(n:Int):∀ks:Ql Int,(fS (VR ks) (Sum.inl n)).isSome=ks.contains n
 |[]=>rfl
 |k::ks=>by
  have i:=z7 n ks;unfold VR at i ⊢;simp only[OF,List.contains_cons];by_cases e:k=n
  .rw[ma (p:=(Sum.inl k,V.bl Qt)) (congrArg Sum.inl e)];simp[e]
  .rw[md (p:=(Sum.inl k,V.bl Qt)) (λz=>e (Sum.inl.inj z)),i];have:(n==k)=Qf:=beq_eq_false_iff_ne.mpr λz=>e z.symm;rw[this,Q8]
def kq(neg:Bool):Ev->Ev->Qo Ev:=λr1 r2=>match r2.d,r1.d with
 |.T4 ks,.int n=>Qs (.cl (.bl (if neg then !ks.contains n else ks.contains n)))
 |_,_=>Qn
def K0(hu:X.A.units+64<cLine):Vh X F (compareOp .In) (kq Qf):=by
 intro pins s σ H0 H A x y v u Q r1 r2 r I m g0 rx ry q1 q2 e hq;unfold kq at e;split at e
 case h_2=>cases e
 rename_i ks n z1 z2;cases e;have p1:=q1.full;rw[z2]at p1;have p2:=q2.full;rw[z1]at p2;cases cI p1;cases p2 with
 |@T4 _ p o h1=>cases(show u=OY p from ry);refine Es (by lia) I (show WZ H p (.int n) (fS (VR ks) (Sum.inl n)) from .inl ⟨_,Sum.inl n,.inr ⟨o,h1⟩,rfl,rfl⟩) rx λs' I'=>?_;rw[z7];exact⟨.bl _,H,I',rfl,hq _ H (Tj.refl H) (.bl _)⟩
def jm:Ql aD->Ql D->Qo (Ql Int)
 |[],[]=>Qs []
 |.inl k::ks,.bl Qt::ds=>(jm ks ds).map (k::·)
 |_,_=>Qn
def Ae:∀{ks:Ql aD}{ds:Ql D}{is:Ql Int},jm ks ds=Qs is->ks=is.map Sum.inl/\ds=is.map λ_=>D.bl Qt
 |[],[],is,e=>by cases e;exact⟨rfl,rfl⟩
 |.inl k::ks,.bl Qt::ds,is,e=>by
  simp only[jm]at e;rcases e1:jm ks ds with _|js
  .rw[e1]at e;cases e
  rw[e1]at e;cases e;obtain⟨a,b⟩:=Ae e1;rw[a,b];exact⟨rfl,rfl⟩
 |[],_::_,_,e=>by cases e
 |.inl _::_,[],_,e=>by cases e
 |.inr _::_,_,_,e=>by cases e
 |.inl _::_,.bl Qf::_,_,e=>by cases e
 |.inl _::_,.TX::_,_,e=>by cases e
 |.inl _::_,.int _::_,_,e=>by cases e
 |.inl _::_,.str _::_,_,e=>by cases e
 |.inl _::_,.tup _::_,_,e=>by cases e
 |.inl _::_,.lst _::_,_,e=>by cases e
 |.inl _::_,.Uk _ _::_,_,e=>by cases e
 |.inl _::_,.U1 _::_,_,e=>by cases e
 |.inl _::_,.VN _::_,_,e=>by cases e
 |.inl _::_,.adr _::_,_,e=>by cases e
 |.inl _::_,.obj _ _ _::_,_,e=>by cases e
 |.inl _::_,.T4 _::_,_,e=>by cases e
def pG(i:Nat)(g:DS):DS:=λt=>match t[i]? with
 |some (.dp (.Uk ks ds))=>(jm ks ds).bind λis=>g (t.set i (.val (.T4 is)))
 |_=>Qn
def RS.toK{F:Ql Xl}(R:RS K F H A t σ)(e:t[i]?=Qs (.dp (.Uk ks ds)))(et:jm ks ds=Qs is):∃p,H p=Qs (.dK (VR is))/\∀o,∃A2,RS K F (L2.upd H p (.Vb o (.dK (VR is)))) A2 (t.set i (.val (.T4 is))) σ/\Gr A H A2 (L2.upd H p (.Vb o (.dK (VR is)))):=by
 obtain⟨rfl,rfl⟩:=Ae et;obtain⟨v,B,A',a1,R',nb,dj,rd,sub,Wg⟩:=R.zaI e;have hi:i<t.length:=(O6.mp e).1;cases rd with
 |flat f r=>simp[flat]at f
 |@Uk _ _ p vs C l h r=>
  have sc:(is.map λ_=>D.bl Qt).all aM=Qt:=by simp[aM]
  obtain⟨ev,eC⟩:=vR r sc;subst eC;have ek:cU (is.map Sum.inl) vs=VR is:=by rw[ev];unfold cU VR;rw[O9,List.zip_map',];rfl
  rw[ek]at h;have pA:p∈A:=Wg p (Ox ..);have pA':p∉A':=λz=>R'.dj p z (Ot _ (Ox ..));have pF:p∉F:=dj p (Ox ..);refine⟨p,h,λo=>?_⟩;generalize Ws:L2.upd H p (.Vb o (.dK (VR is)))=H2;have u1:∀b,b≠p->H2 b=H b:=λb n=>by rw[<-Ws];exact aS n
  have u2:H2 p=Qs (.Vb o (.dK (VR is))):=by rw[<-Ws];exact bB
  have S:Tj (ah (A'++([p]++F)) H) (ah (A'++F) H2):=λb o' w=>by obtain⟨n,w⟩:=cN w;have np:b≠p:=λz=>n (by rw[z];simp);refine bA (by rw[u1 b np];exact w) λz=>n ?_;rcases Ow.mp z with z|z<;>simp[z]
  have rel:TK K (ah (A'++F) H2) H2 (t.set i .no) σ A':=TK.mono S R'.rel λb hb o' w=>by rw[u1 b λz=>pA' (z▸hb)];exact w
  have rp:Rep K (ah (A'++F) H2) (.T4 is) (.ref p):=.T4 (bA u2 λz=>(Ow.mp z).elim pA' pF);have zcp:=TK.zcE rp rel i (by simp[hi]) a1;rw[SI]at zcp;refine⟨A',⟨λb hb=>?_,R'.nd,λb hb z=>R'.dj b hb (Oq _ z),zcp⟩,λb o' n w=>by rw[u1 b λz=>n (z▸pA)];exact w,λb hb=>?_,λb hb=>.inl (sub b hb)⟩
  .have np:b≠p:=λz=>by subst z;exact(Ow.mp hb).elim pA' pF
   obtain⟨us,w⟩:=R'.mu b (by rcases Ow.mp hb with z|z<;>simp[z]);exact⟨us,by rw[u1 b np];exact w⟩
  .by_cases z:b=p
   .rw[z,u2];simp
   .obtain⟨us,w⟩:=R.mu b (Ot _ hb);rw[u1 b z,w];simp
def IJ{g:DS}{st:Xo}(i:Nat)(h:PS X st (dS X.K F g)):PS X st (dS X.K F (pG i g)):=by
 intro pins s σ H D I q;obtain⟨A,t,o,R,e,p⟩:=kG q;unfold pG at e;split at e
 case h_2=>cases e
 rename_i ks ds z;refine aB e λis et e=>?_;replace e:g (t.set i (.val (.T4 is)))=Qs o:=e;obtain⟨a,h1,k⟩:=R.toK z et;have ok:=(show U5 X.prog X.w H s.heap a (.dK (VR is)) from I.TY a _ h1);obtain⟨ob,ho⟩:∃ob,s.heap.get? a=Qs ob:=by obtain⟨_,_,_,_,ob,_,_,e1,_⟩:=id ok;exact⟨ob,e1⟩
 obtain⟨A2,R2,gr⟩:=k ob;have I2:Inv X pins σ (L2.upd H a (.Vb ob (.dK (VR is)))) { s with heap:=s.heap,toks:=s.toks }:=I.write (x:=a) (e:=a) (by rw[h1];exact True.intro) (.inl rfl) (λ_ _ _ w=>w) ⟨ob,ho⟩ ⟨ho,ok.XC (λ_ _ _ w=>w) (λb w=>by rw[aS (sN w h1 λz=>nomatch z)];exact w) (λb xs w=>by rw[aS (sN w h1 λz=>nomatch z)];exact w) λb o' u w=>by rw[aS (sN w h1 λz=>nomatch z)];exact w⟩;exact h pins s σ _ D I2 (kH R2 e (p.back gr))
def qm(I:Ql Nat)(g:TG):Prop:=∀x σ H (Q Q':L2.St->Hp->Prop),(∀σ' H',Pn I σ σ'->Q σ' H'->Q' σ' H')->g x σ H Q->g x σ H Q'
def qo(I:Ql Nat)(g:fz):Prop:=∀xs σ H (Q Q':L2.St->Hp->Prop),(∀σ' H',Pn I σ σ'->Q σ' H'->Q' σ' H')->g xs σ H Q->g xs σ H Q'
def tq (h:i∉I):qm I (jI i):=λx σ H Q Q' k q=>k _ _ (λj hj=>Pc λ(z:i=j)=>h (z▸hj)) q
def CT:qo I yo:=λxs σ H Q Q' k q=>⟨q.1,k _ _ (λ_ _=>rfl) q.2⟩
def tu{g:TG}{u:fz}(h1:qm I g)(h2:qo I u):qo I (yu g u):=λxs σ H Q Q' k q=>by obtain⟨v,r,e,q⟩:=q;exact⟨v,r,e,h1 v σ H _ _ (λσ1 H1 p1 q1=>h2 r σ1 H1 Q Q' (λσ2 H2 p2 q2=>k σ2 H2 (λj hj=>(p2 j hj).trans (p1 j hj)) q2) q1) q⟩
def L5{u:fz}(h2:qo I u):qm I (ym K n u):=λx σ H Q Q' k q=>by obtain⟨a,xs,e1,e2,e3,q⟩:=q;exact⟨a,xs,e1,e2,e3,h2 xs σ H Q Q' k q⟩
def L6{u:fz}(h2:qo I u):qm I (yq K n u):=λx σ H Q Q' k q=>by obtain⟨a,xs,e1,e2,e3,q⟩:=q;exact⟨a,xs,e1,e2,e3,h2 xs σ H Q Q' k q⟩
def Bt(he:PE X a (dE X.K F fa))(hg:PG X tg gt)(ht:cX X.K F gt kt)(hk:qm I gt)(hs:swapsWithSole [tg] a pos.line X.env=pure Qf:=by rfl)(hw:swappedStores [tg] a X.env=pure Qn:=by rfl) (h1:(assignEach [tg] X.env).map (·.2)=[assign tg X.env]:=by rfl):PS X (.Assign [tg] a pos) (dP X.K F I (dy kt fa)):=by
 refine PS.imp (sr he hg hs hw h1) ?_;rintro E σ H ⟨A,t,t2,R,e,h⟩;unfold dy at e;refine aB e λr1 e1 e=>?_;replace e:(if r1.ok then(kt r1.d t).map Out.nx else Qn)=Qs (.nx t2):=e;refine bW e λok e=>?_;rcases e2:kt r1.d t with _|t'
 .rw[e2]at e;cases e
 rw[e2]at e;cases e;refine⟨A,t,r1,R,e1,λv H1 gs q=>?_⟩;have g0:=Gr.of_same R.mu.left gs;refine hk v σ H1 (λσ2 H2=>∃A2,Gr A H A2 H2/\RS X.K F H2 A2 t2 σ2) _ (λσ2 H2 pn ⟨A2,g2,R2⟩=>h σ2 H2 A2 g2 R2 pn) ?_;exact ht σ H1 A t t2 r1.d v _ (R.grow gs) (q.clean R.mu gs ok) e2 λσ2 A2 g2 R2=>⟨A2,g0.trans g2,R2⟩
def Jh{k:Nat}(hk:k∉I)(hx:kL g)(hp:PassesOwn (model X.prog X.w) X.A X.env X.xe)(hc:X.calm=Qt)(hl:PE X a (dE X.K F fa))(hg:PG X tg (jI k))(hb:Uu X body (dP X.K F I g)) (hs:∀x,foldedSetIterable a X.env x=pure x:=by intro _;rfl):PS X (.For tg a body [] pos) (dP X.K F I (pJ (cC k) fa g)):=by
 refine PS.imp (kX hp hc (Jt hl) hg hb hs) ?_;rintro E σ0 H ⟨A,t,t2,R,e,h⟩;unfold pJ at e;refine aB e λr e1 e=>?_;refine⟨A,t,r,R,e1,λv H1 gs q=>?_⟩;replace e:(match r.d with
  |.T4 ks=>bj (cC k) g (ks.map D.int) t
  |_=>Qn)=Qs (.nx t2):=e
 split at e
 case h_2=>cases e
 rename_i ks z;have cl:=q.full;rw[z]at cl;have cl:=Rep.UC (R.mu.mono gs) (show flat (.T4 ks)=Qt from rfl) cl;cases cl with
 |@T4 _ p ob h1=>
  refine⟨p,ob,ks,rfl,(cN h1).2,?_⟩;have gr0:Gr A H A H1:=Gr.of_same R.mu.left gs;have hln:(ks.map D.int).length=ks.length:=by simp
  let W:Nat->Nat->L2.St->Hp->Prop:=λi m σ H'=>i+m=ks.length/\∃A' t',bj (cC k) g ((ks.map D.int).drop i) t'=Qs (.nx t2)/\RS X.K F H' A' t' σ/\Gr A H A' H'/\Pn I σ0 σ/\ah (A'++F) H' p=Qs (.Vb ob (.dK (VR ks)))
  refine⟨W,⟨ks.length,by lia,A,t,by simpa using e,R.grow gs,gr0,λ_ _=>rfl,h1⟩,?_⟩;rintro i m σ H' ⟨hm,A',t',e',R',gr,pn,s1⟩;cases m with
  |zero=>
   have zi:i=(ks.map D.int).length:=by rw[hln];lia
   rw[zi,Qy]at e';cases e';exact .inl ⟨⟨⟨_,(cN s1).2⟩,by lia⟩,h σ H' A' gr R' pn⟩
  |succ m=>
   have hi:i<ks.length:=by lia
   refine .inr ⟨⟨⟨_,(cN s1).2⟩,hi⟩,W (i+1) m,λσ' H' q=>⟨m,PB m,q⟩,λx Xg y=>?_⟩;obtain⟨y1,n,y2,y3⟩:=y;subst y1 y3;have ed:(ks.map D.int).drop i=.int n::(ks.map D.int).drop (i+1):=by
    rw[Py (by rw[hln];exact hi)];have:ks[i]=n:=by rw[OE hi]at y2;exact O4 y2
    simp[this]
   rw[ed]at e';simp only[bj]at e';rcases e2:cC k (.int n) t' with _|t1
   .rw[e2]at e';cases e'
   rw[e2]at e';simp only[Oz]at e';obtain⟨A2,Xa,R2⟩:=R'.put (i:=k) (r:=.cl (.int n)) (Tj.refl Xg) (.int n) e2;rcases e3:g t1 with _|o2
   .rw[e3]at e';cases e'
   obtain⟨t4,rfl⟩:=hx t1 o2 e3;rw[e3]at e';have gr4:=gr.trans Xa;refine⟨A2,t1,t4,R2,e3,λσ5 H5 A5 g5 R5 n5=>⟨by lia,A5,t4,e',R5,gr4.trans g5,λj hj=>?_,?_⟩⟩
   .rw[n5 j hj,Pc (λ(w:k=j)=>hk (by rw[w];exact hj)),pn j hj]
   .exact(Xa.trans g5).same _ _ s1
def jK(j:Nat)(xs0:Ql D)(k:Nat)(g:DS):Ql D->Th->Qo Th
 |[],t=>Qs t
 |d::ds,t=>(cC k d t).bind λt1=>match g t1 with
  |some (.nx t')=>(match t'[j]? with
   |some (.own xs)=>if Xd xs xs0 then jK j xs0 k g ds t' else Qn
   |_=>Qn)
  |_=>Qn
def pI(j k:Nat)(g:DS):DS:=λt=>match t[j]? with
 |some (.own xs)=>if xs.all aM then(jK j xs k g xs t).map Out.nx else Qn
 |_=>Qn
def Jg{y:Str}{k:Nat}(hj:j∈I)(hk:k∉I)(hp:PassesOwn (model X.prog X.w) X.A X.env X.xe)(hc:X.calm=Qt)(hg:PG X tg (jI k))(hb:Uu X body (dP X.K F I g)) (hN:X.N[j]?=Qs y:=by rfl) (hv:dt X.env.scope y:=by first|exact Or.inl rfl|exact Or.inr (Or.inl rfl)|exact Or.inr (Or.inr rfl)) (hd:UR y:=by decide) (UI:Vz y:=by decide) (hs:∀x,foldedSetIterable (.Name y p0) X.env x=pure x:=by intro _;rfl):PS X (.For tg (.Name y p0) body [] pos) (dP X.K F I (pI j k g)):=by
 refine PS.imp (kX hp hc (sD (dH (i:=j) hN hv hd UI)) hg hb hs) ?_;rintro E σ0 H ⟨A,t,t2,R,e,h⟩;unfold pI at e;split at e
 case h_2=>cases e
 rename_i xs z;replace e:=Ve e;obtain⟨sc,e⟩:=e;rcases ef:jK j xs k g xs t with _|t3
 .rw[ef]at e;cases e
 rw[ef]at e;cases e;obtain⟨p,vs,a1,a2,a3,a4⟩:=R.rel.Wm z;have ev:=og a4 sc;refine⟨.ref p,a1,p,rfl,⟨vs,TZ.of a3⟩,?_⟩;have st:∀{σ H' A' t'},RS X.K F H' A' t' σ->Pn I σ0 σ->t'[j]?=Qs (.own xs)->H' p=Qs (.lst vs):=λ{σ H' A' t'} R' pn z'=>by obtain⟨p',VH,b1,b2,b3,b4⟩:=R'.rel.Wm z';have:=pn j hj;rw[b1,a1]at this;cases this;rw[b3,og b4 sc,ev]
 have hl:vs.length=xs.length:=a4.length;let W:Nat->Nat->L2.St->Hp->Prop:=λi m σ H'=>i+m=xs.length/\∃A' t',jK j xs k g (xs.drop i) t'=Qs t2/\t'[j]?=Qs (.own xs)/\RS X.K F H' A' t' σ/\Gr A H A' H'/\Pn I σ0 σ
 refine⟨W,⟨xs.length,by lia,A,t,by simpa using ef,z,R,Gr.refl R.mu.left,λ_ _=>rfl⟩,?_⟩;rintro i m σ H' ⟨hm,A',t',e',zj,R',gr,pn⟩;have ZM:=st R' pn zj;cases m with
 |zero=>
  have zi:i=xs.length:=by lia
  subst zi;rw[Qy]at e';cases e';exact .inl ⟨⟨vs,TZ.of ZM,by lia⟩,h σ H' A' gr R' pn⟩
 |succ m=>
  have hi:i<xs.length:=by lia
  refine .inr ⟨⟨vs,vs[i]'(by lia),TZ.of ZM,OE (by lia)⟩,W (i+1) m,λσ' H' q=>⟨m,PB m,q⟩,λx Xg y=>?_⟩;obtain⟨y1,y2⟩:=y;have zz:=y2 vs (TZ.of ZM);subst y1;obtain⟨d,Wi,rd⟩:=a4.Xb zz;have ed:xs.drop i=d::xs.drop (i+1):=by
   have hd2:xs[i]=d:=by rw[OE hi]at Wi;exact O4 Wi
   rw[<-hd2];exact Py hi
  have sd:aM d=Qt:=PF.mp sc d (Rp Wi);rw[ed]at e';simp only[jK]at e';rcases e2:cC k d t' with _|t1
  .rw[e2]at e';cases e'
  rw[e2]at e';simp only[Oz]at e';obtain⟨A2,Xa,R2⟩:=R'.put (i:=k) (r:=.cl d) (Tj.refl Xg) (HU rd sd _) e2;split at e'
  case h_2=>cases e'
  rename_i t4 e3;split at e'
  case h_2=>cases e'
  rename_i xs' z4;split at e'
  case isFalse=>cases e'
  rename_i eq;have eq:=zhj.mp eq;subst eq;have gr4:=gr.trans Xa;refine⟨A2,t1,t4,R2,e3,λσ5 H5 A5 g5 R5 n5=>⟨by lia,A5,t4,e',z4,R5,gr4.trans g5,λl ZO=>?_⟩⟩;rw[n5 l ZO,Pc (λ(w:k=l)=>hk (by rw[w];exact ZO)),pn l ZO]
inductive Apt(K:Ou)(H0 H:Hp)(vs:List V)(C:List Xl)(j1 j2:Nat)(d1 d2:D):Prop
 |mk (v1 v2 B1 B2:_) (_:vs[j1]?=Qs v1) (_:vs[j2]?=Qs v2) (_:T6 K H0 H d1 v1 B1) (_:T6 K H0 H d2 v2 B2) (_:(∀b∈B1,b∈C)) (_:(∀b∈B2,b∈C)) (_:∀b∈B1,b∉B2)
def TL.apart{K:Ou}{H0 H:Hp}:∀{ds:Ql D}{vs:Ql V}{C:Ql Xl},TL K H0 H ds vs C->C.Nodup->∀{j1 j2:Nat}{d1 d2:D},j1≠j2->ds[j1]?=Qs d1->ds[j2]?=Qs d2->Apt K H0 H vs C j1 j2 d1 d2
 |_,_,_,.nil,nd,j1,j2,d1,d2,ne,e1,e2=>by simp at e1
 |_,_,_,.cons (v:=v) (B:=B) (C:=C) h r,nd,0,0,d1,d2,ne,e1,e2=>absurd rfl ne
 |_,_,_,.cons (v:=v) (B:=B) (C:=C) h r,nd,0,j2+1,d1,d2,ne,e1,e2=>by simp at e1;subst e1;have n:=OG.mp nd;obtain⟨v1,B1,a1,a2,a3,_⟩:=TL.focus r (j:=j2) (d:=d2) (by simpa using e2);exact⟨v,v1,B,B1,rfl,by simpa using a1,h,a2,λb hb=>Ot _ hb,λb hb=>Oq _ (a3 b hb),λb hb z=>n.2.2 b hb b (a3 b z) rfl⟩
 |_,_,_,.cons (v:=v) (B:=B) (C:=C) h r,nd,j1+1,0,d1,d2,ne,e1,e2=>by simp at e2;subst e2;have n:=OG.mp nd;obtain⟨v1,B1,a1,a2,a3,_⟩:=TL.focus r (j:=j1) (d:=d1) (by simpa using e1);exact⟨v1,v,B1,B,by simpa using a1,rfl,a2,h,λb hb=>Oq _ (a3 b hb),λb hb=>Ot _ hb,λb hb z=>n.2.2 b z b (a3 b hb) rfl⟩
 |_,_,_,.cons (v:=v) (B:=B) (C:=C) h r,nd,j1+1,j2+1,d1,d2,ne,e1,e2=>by have n:=OG.mp nd;obtain⟨v1,v2,B1,B2,a1,a2,a3,a4,a5,a6,a7⟩:=TL.apart r n.2.1 (j1:=j1) (j2:=j2) (d1:=d1) (d2:=d2) (λz=>ne (by rw[z])) (by simpa using e1) (by simpa using e2);exact⟨v1,v2,B1,B2,by simpa using a1,by simpa using a2,a3,a4,λb hb=>Oq _ (a5 b hb),λb hb=>Oq _ (a6 b hb),a7⟩
def gy(m:Int):Ql Int->Ql Int->Qo (Ql Int)
 |[],ws=>Qs ws
 |z::zs,ws=>(Vn ws.length z).bind λl=>(ws[l]?).bind λv=>gy m zs (ws.set l (v+m))
def ik(σ:L2.St)(k:Nat)(zs:Ql Int):L2.St:=match zs.getLast? with
 |none=>σ
 |some z=>σ.set k (Qs (.int z))
def LX{k:Nat}{zs:Ql Int}(h:k≠j):(ik σ k zs)[j]?=σ[j]?:=by
 unfold ik;split
 .rfl
 .exact Pc h
def LY{k:Nat}{zs:Ql Int}:(ik σ k zs).length=σ.length:=by
 unfold ik;split
 .rfl
 .exact RF
def LW{k:Nat}{zs:Ql Int}{z:Int}:(ik σ k zs).set k (Qs (.int z))=ik σ k (zs++[z]):=by
 unfold ik;rw[List.getLast?_append];simp only[List.getLast?_singleton,Option.some_or];split
 .rfl
 .rw[SI]
def EX{m:Int}:∀{zs:Ql Int}{z:Int}{ws us ts:Ql Int},gy m (zs++[z]) ws=Qs ts->gy m zs ws=Qs us->∃l v,Vn us.length z=Qs l/\us[l]?=Qs v/\ts=us.set l (v+m)
 |[],z,ws,us,ts,e,e2=>by
  cases e2;simp only[RH,gy]at e;rcases e1:Vn ws.length z with _|l
  .rw[e1]at e;cases e
  rw[e1]at e;simp only[Oz]at e;cases e3:ws[l]? with
  |none=>rw[e3]at e;cases e
  |some v=>rw[e3]at e;cases e;exact⟨l,v,rfl,e3,rfl⟩
 |y::zs,z,ws,us,ts,e,e2=>by
  simp only[Q4,gy]at e e2;rcases e1:Vn ws.length y with _|l
  .rw[e1]at e;cases e
  rw[e1]at e e2;simp only[Oz]at e e2;rcases e3:ws[l]? with _|v
  .rw[e3]at e;cases e
  rw[e3]at e e2;exact EX e e2
def EW{m:Int}:∀{zs ys:Ql Int}{ws ts:Ql Int},gy m (zs++ys) ws=Qs ts->∃us,gy m zs ws=Qs us
 |[],ys,ws,ts,e=>⟨ws,rfl⟩
 |y::zs,ys,ws,ts,e=>by
  simp only[Q4,gy]at e ⊢;rcases e1:Vn ws.length y with _|l
  .rw[e1]at e;cases e
  rw[e1]at e;simp only[Oz]at e ⊢;rcases e3:ws[l]? with _|v
  .rw[e3]at e;cases e
  rw[e3]at e;simp only[Oz]at e ⊢;exact EW e
section
variable {f1 f2:Str}
def tV(t:Th)(i:Nat):Qo (Xl×Ql Str×Ql D):=match t[i]? with
 |some (.dp (.obj C ns ds))=>Qs (C,ns,ds)
 |_=>Qn
def o7(t:Th)(a:Nat):Qo Int:=match t[a]? with
 |some (.val (.int n))=>Qs n
 |_=>Qn
def mY(d:Qo D):Qo (Ql D):=match d with
 |some (.lst xs)=>Qs xs
 |_=>Qn
def MM{C:Xl}(e:tV t i=Qs (C,ns,ds)):t[i]?=Qs (.dp (.obj C ns ds)):=by
 unfold tV at e;split at e
 .rename_i z;cases e;exact z
 .cases e
def DJ{a:Nat}{n:Int}(e:o7 t a=Qs n):t[a]?=Qs (.val (.int n)):=by
 unfold o7 at e;split at e
 .rename_i z;cases e;exact z
 .cases e
def yr{d:Qo D}{xs:Ql D}(e:mY d=Qs xs):d=Qs (.lst xs):=by
 unfold mY at e;split at e
 .cases e;rfl
 .cases e
def xR(t:Th)(k:Nat)(z:Qo Int):Qo Out:=match z with
 |none=>Qs (.nx t)
 |some z=>(cR t k (.cl (.int z))).map Out.nx
noncomputable def lO(i a k s:Nat)(C:Xl)(f1 f2:Str):DS:=λt=>(tV t i).bind λq=>(o7 t a).bind λn=>(o7 t s).bind λm=>if q.1=C/\k≠i/\k≠a/\k≠s/\k<t.length then (aX f1 q.2.1).bind λj1=>(aX f2 q.2.1).bind λj2=>(mY q.2.2[j1]?).bind λrows=>(mY q.2.2[j2]?).bind λes=>(mY (UO rows n)).bind λxs=>(dW xs).bind λzs=>(dW es).bind λws=>
   if j1≠j2 then(gy m zs ws).bind λus=>xR (t.set i (.dp (.obj C q.2.1 (q.2.2.set j2 (.lst (us.map D.int)))))) k zs.getLast? else Qn else Qn
def Je{y1 y2 y3:Str}{p3 p4 p5 p6 p7 p8:Pos}(i a k s:Nat)(c:UL X.K C)(n1:Ue X.K C f1)(n2:Ue X.K C f2)(hk:k∉I)(hp:PassesOwn (model X.prog X.w) X.A X.env X.xe)(hc:X.calm=Qt)(hg:PG X tg (jI k)) (hN0:X.N[i]?=Qs x:=by rfl) (hN1:X.N[a]?=Qs y1:=by rfl) (hN2:X.N[k]?=Qs y2:=by rfl) (hN3:X.N[s]?=Qs y3:=by rfl) (hv0:dt X.env.scope x:=by first|exact Or.inl rfl|exact Or.inr (Or.inl rfl)|exact Or.inr (Or.inr rfl)) (hv1:dt X.env.scope y1:=by first|exact Or.inl rfl|exact Or.inr (Or.inl rfl)|exact Or.inr (Or.inr rfl)) (hv2:dt X.env.scope y2:=by first|exact Or.inl rfl|exact Or.inr (Or.inl rfl)|exact Or.inr (Or.inr rfl)) (hv3:dt X.env.scope y3:=by first|exact Or.inl rfl|exact Or.inr (Or.inl rfl)|exact Or.inr (Or.inr rfl)) (hd0:UR x:=by decide) (hd1:UR y1:=by decide) (hd2:UR y2:=by decide) (hd3:UR y3:=by decide) (hc0:Vz x:=by decide) (hc1:Vz y1:=by decide) (YA:Vz y2:=by decide) (hc3:Vz y3:=by decide) (zgp:attributeBase (.Name x p0) f1 X.env (eval (.Name x p0) X.env)=eval (.Name x p0) X.env:=by rfl) (zgo:attributeBase (.Name x p4) f2 X.env (eval (.Name x p4) X.env)=eval (.Name x p4) X.env:=by rfl) (hpx:pY (.Name y1 p2):=by intro _ _;rfl) (ha:∀ov iv new,augStore (.Name y2 p6) ov iv new=(do holding [new,ov,iv] (setItem ov iv new);release [new,ov,iv] [];pure .next):=by intros;rfl) (hs:∀z,foldedSetIterable (.Subscript (.Attribute (.Name x p0) f1 p1) (.Name y1 p2) p3) X.env z=pure z:=by intro _;rfl):PS X (.For tg (.Subscript (.Attribute (.Name x p0) f1 p1) (.Name y1 p2) p3) [.AugAssign (.Subscript (.Attribute (.Name x p4) f2 p5) (.Name y2 p6) p7) .Add (.Name y3 p8) pos] [] pos') (dP X.K F I (lO i a k s C f1 f2)):=by
 refine PS.imp (kX hp hc (sD (sH zaq (kZ (dH (i:=i) hN0 hv0 hd0 hc0) zgp) (dH (i:=a) hN1 hv1 hd1 hc1) hpx)) hg (sj (Bo (kZ (dH (i:=i) hN0 hv0 hd0 hc0) zgo) (dH (i:=k) hN2 hv2 hd2 YA) Dv (dH (i:=s) hN3 hv3 hd3 hc3) xD rG ha)) hs) ?_;rintro E σ0 H ⟨A,t,t2,R,e,h⟩;refine aB e λq z1 e=>?_;obtain⟨C',ns,ds⟩:=q;refine aB e λn z2 e=>?_;refine aB e λm z3 e=>?_;refine bW e λok e=>?_;obtain⟨rfl,ki,ka,ks,kt⟩:=ok;refine aB e λj1 ej1 e=>?_;refine aB e λj2 ej2 e=>?_;refine aB e λrows ed1 e=>?_;refine aB e λYG ed2 e=>?_;refine aB e λxs er e=>?_;refine aB e λzs ezs e=>?_;refine aB e λZj ews e=>?_;refine bW e λjne e=>?_;refine aB e λus eus e=>?_;have ef:=e
 repeat clear e
 have e:=ef;clear ef;replace z1:=MM z1;replace z2:=DJ z2;replace z3:=DJ z3;replace ed1:=yr ed1;replace ed2:=yr ed2;replace er:=yr er;have exs:=lG ezs;have ees:=lG ews;subst exs ees;obtain⟨p,dx,vs,q,ws,a1,a2,a3,a4,a5,hl,hvj,⟨C0,rd,nC⟩,a6⟩:=R.zdj z1 ej2 ed2 (UW _);have ew:=iO a5;obtain⟨v1,v2,B1,B2,b1,b2,b3,b4,b5,b6,b7⟩:=rd.apart nC jne ed1 ed2;rw[hvj]at b2;cases b2;have qB:q∈B2:=by
  cases b4 with
  |flat f' _=>simp[flat]at f'
  |lst _ _=>exact Ox ..
 cases b3 with
 |flat f' _=>simp[flat]at f'
 |@lst _ q1 ws1 Cq hq1 rq1=>
 obtain⟨jr,jr1,jr2⟩:=N6 er;obtain⟨vr,Br,c1,c2,c3,_⟩:=rq1.focus jr2;cases c2 with
 |flat f' _=>simp[flat]at f'
 |@lst _ qr wr Cr hqr rqr=>
 have q1q:q1≠q:=λz=>b7 q1 (Ox ..) (z▸qB);have qrq:qr≠q:=λz=>b7 qr (Ov _ (c3 qr (Ox ..))) (z▸qB);have ewr:wr=zs.map V.int:=iO (TL.fl rqr (UW _)).1;subst ewr;have hat:UO ws1 n=Qs (.ref qr):=by unfold L2.UO;rw[rq1.length,jr1];exact c1
 obtain⟨vn,hn1,Y8⟩:=R.rel.YE z2;cases cI Y8;obtain⟨vm,hm1,hm2⟩:=R.rel.YE z3;cases cI hm2;have pq:p≠q:=λz=>by rw[z,a4]at a2;cases a2
 refine⟨_,a1,p,C',dx,_,_,rfl,a2,c,n1,mR ej1 b1,_,hn1,q1,ws1,n,.ref qr,rfl,rfl,TZ.of hq1,hat,qr,rfl,⟨_,TZ.of hqr⟩,?_⟩;let W:Nat->Nat->L2.St->Hp->Prop:=λi' m' σ H'=>i'+m'=zs.length/\∃YX,gy m (zs.take i') Zj=Qs YX/\H'=L2.upd H q (.lst (YX.map V.int))/\σ=ik σ0 k (zs.take i')
 have hH0:L2.upd H q (.lst (Zj.map V.int))=H:=by
  funext b;by_cases z:b=q
  .rw[z,bB,a4,ew]
  .exact aS z
 refine⟨W,⟨zs.length,by lia,Zj,rfl,hH0.symm,rfl⟩,?_⟩;rintro i' m' σ H' ⟨hm,YX,eu,rfl,rfl⟩;have zbk:L2.upd H q (.lst (YX.map V.int)) qr=Qs (.lst (zs.map V.int)):=by rw[aS qrq];exact hqr
 cases m' with
 |zero=>
  have zi:i'=zs.length:=by lia
  subst zi;rw[Tw]at eu;rw[Tw];rw[eus]at eu;cases eu;refine .inl ⟨⟨_,TZ.of zbk,by simp⟩,?_⟩;obtain⟨A2,d1,d2⟩:=a6 H (us.map D.int) (us.map V.int) (Tj.refl H) (UW _) (Ts.ints us);unfold ik;unfold xR at e;split at e
  .rename_i el
   try rw[el]
   cases e;exact h _ _ _ d2 d1 λ_ _=>rfl
  .rename_i z el
   try rw[el]
   rcases es2:cR (t.set i (.dp (.obj C' ns (ds.set j2 (.lst (us.map D.int)))))) k (.cl (.int z)) with _|t5
   .rw[es2]at e;cases e
   rw[es2]at e;cases e;obtain⟨A3,g3,R3⟩:=d1.put (i:=k) (r:=.cl (.int z)) (Tj.refl _) (.int z) es2;exact h _ _ _ (d2.trans g3) R3 λj hj=>Pc λ(w:k=j)=>hk (w▸hj)
 |succ m'=>
  have hi:i'<zs.length:=by lia
  refine .inr ⟨⟨_,.int zs[i'],TZ.of zbk,by rw[O1,OE hi];rfl⟩,W (i'+1) m',λσ' H' q=>⟨m',PB m',q⟩,λw Xg y=>?_⟩;obtain⟨y1,y2⟩:=y;have zz:=y2 _ (TZ.of zbk);subst y1;rw[O1,OE hi]at zz;cases zz;have et:zs.take (i'+1)=zs.take i'++[zs[i']]:=by rw[List.take_succ,OE hi];rfl
  obtain⟨ts,ets⟩:∃ts,gy m (zs.take (i'+1)) Zj=Qs ts:=EW (ys:=zs.drop (i'+1)) (by rw[List.take_append_drop];exact eus);obtain⟨l,v,g1,g2,g3⟩:=EX (by rw[<-et];exact ets) eu;have s1:∀j,k≠j->((ik σ0 k (zs.take i')).set k (Qs (.int zs[i'])))[j]?=σ0[j]?:=λj hj=>by rw[Pc hj,LX hj]
  have kl:k<(ik σ0 k (zs.take i')).length:=by rw[LY,R.rel.len];exact kt
  have hp2:L2.upd H q (.lst (YX.map V.int)) p=Qs (.ins C' dx (ns.zip vs)):=by rw[aS pq];exact a2
  refine⟨_,by rw[s1 i ki];exact a1,p,C',dx,_,_,rfl,hp2,c,n2,a3,_,by rw[Qr kl],q,_,zs[i'],.int v,rfl,rfl,TZ.of bB,?_,_,by rw[s1 s ks];exact hm1,v,m,rfl,rfl,q,_,zs[i'],l,rfl,rfl,bB,?_,?_⟩
  .unfold L2.UO;rw[OI,g1];show(YX.map V.int)[l]?=_;rw[O1,g2];rfl
  .rw[OI];exact g1
  .refine⟨by lia,ts,ets,?_,?_⟩
   .rw[FC,g3,Tx]
   .rw[LW,<-et]
end
def RS.zgT{k:Nat}{rows xs:Ql D}(R:RS K F H A t σ)(ne:k≠i)(e:t[i]?=Qs (.dp (.obj C ns ds)))(ek:t[k]?=Qs (.own xs))(fl:Ui xs=Qt)(ef:aX f ns=Qs j)(ed:ds[j]?=Qs (.lst rows)):∃p dx vs q ws pj,σ[i]?=Qs (Qs (.ref p))/\σ[k]?=Qs (Qs (.ref pj))/\H p=Qs (.ins C dx (ns.zip vs))/\(ns.zip vs).lookup f=Qs (.ref q)/\H q=Qs (.lst ws)/\ws.length=rows.length/\∃A2,RS K F (L2.upd H q (.lst (ws++[.ref pj]))) A2 ((t.set k .no).set i (.dp (.obj C ns (ds.set j (.lst (rows++[.lst xs])))))) σ/\Gr A H A2 (L2.upd H q (.lst (ws++[.ref pj]))):=by
 obtain⟨pj,vj,A1,s1,R1,pF,hpj,rj,zcg,pjA⟩:=R.zel ek;have zf:∀z∈[pj],z∉F:=λz hz=>by rw[Oy.mp hz];exact pF
 have e':(t.set k .no)[i]?=Qs (.dp (.obj C ns ds)):=by rw[Pc ne];exact e
 obtain⟨p,dx,vs,C0,a1,hp,hl,pA,pC,pZ,nC,WQ,rd,fin⟩:=RS.zbF R1 zf e';obtain⟨v1,B1,b1,b2,b3,b4,b5⟩:=rd.swap nC ed;cases b2 with
 |flat f' r=>simp[flat]at f'
 |@lst _ q ws Bq hq rq=>
  have qC:q∈C0:=b3 q (Ox ..);have qA:q∈A1:=(WQ q qC).1;have qp:p≠q:=λz=>pC (z▸qC);have jC:pj∉C0:=λz=>(WQ pj z).2 (Oy.mpr rfl);have qj:pj≠q:=λz=>jC (z▸qC);refine⟨p,dx,vs,q,ws,pj,a1,s1,hp,mR ef b1,hq,rq.length,?_⟩;generalize Ws:L2.upd H q (.lst (ws++[.ref pj]))=H2;have u1:∀b,b≠q->H2 b=H b:=λb n=>by rw[<-Ws];exact aS n
  have u2:H2 q=Qs (.lst (ws++[.ref pj])):=by rw[<-Ws];exact bB
  have S1:Tj (ah (A1++([pj]++F)) H) (ah (A1++([pj]++F)) H2):=λb o h=>by obtain⟨n,h⟩:=cN h;exact bA (by rw[u1 b λz=>n (z▸Ot _ qA)];exact h) n
  have n1:=OO.mp b4;have rj2:T6 K (ah (A1++([pj]++F)) H2) H2 (.lst xs) (.ref pj) [pj]:=.lst (by rw[u1 pj qj];exact hpj) (TL.Zw fl (Ts.mono S1 rj));have rq2:TL K (ah (A1++([pj]++F)) H2) H2 rows ws Bq:=TL.mono S1 rq λb hb o h=>by rw[u1 b λz=>n1.1 (z▸hb)];exact h
  obtain⟨C',c1,c2,c3⟩:=b5 _ H2 (.lst (rows++[.lst xs])) (.ref q) (q::(Bq++[pj])) S1 (.lst u2 (TL.snoc rj2 rq2)) (OO.mpr ⟨λz=>(Ow.mp z).elim n1.1 λw=>qj (Oy.mp w).symm,OG.mpr ⟨n1.2,by simp,λx hx y hy e=>by
   rw[Oy.mp hy]at e;subst e;exact jC (b3 _ (Ov _ hx))⟩⟩) (λb hb=>by
    rcases OC.mp hb with z|z
    .exact .inl (z▸Ox ..)
    .rcases Ow.mp z with z|z
     .exact .inl (Ov _ z)
     .rw[Oy.mp z];exact .inr jC) (λb hb n o h=>by rw[u1 b λz=>n (by rw[z];exact Ox ..)];exact h)
  rw[AD b1]at c1;have VM:∀b∈C',b∈C0\/b∈[pj]:=λb hb=>by
   rcases c3 b hb with z|z
   .rcases OC.mp z with z|z
    .exact .inl (z▸qC)
    .rcases Ow.mp z with z|z
     .exact .inl (b3 b (Ov _ z))
     .exact .inr z
   .exact .inl z.1
  have sub:Tj (ah (A1++([pj]++F)) H2) (ah ((p::(C0++C'))++(A1++([pj]++F))) H2):=bf H2 λb hb=>by
   rcases Ow.mp hb with z|z
   .rcases OC.mp z with z|z
    .rw[z];exact Ot _ pA
    .rcases Ow.mp z with z|z
     .exact Ot _ (WQ b z).1
     .rcases VM b z with z|z
      .exact Ot _ (WQ b z).1
      .exact Oq _ (Ot _ z)
   .exact z
  obtain⟨A2,d1,d2⟩:=fin H2 ns vs (ds.set j (.lst (rows++[.lst xs]))) C' (λb o n nC' _ h=>by rw[u1 b λz=>nC' (z▸qC)];exact h) (by rw[u1 p qp];exact hp) hl c2 (λz=>(VM p z).elim pC pZ) (λb hb=>(VM b hb).imp id .inl) (TL.mono sub c1 λ_ _ _ w=>w);refine⟨A2,d1,λb o n h=>by rw[u1 b λz=>n (z▸zcg q qA)];exact h,λb hb=>?_,λb hb=>?_⟩
  .by_cases z:b=q
   .rw[z,u2];simp
   .obtain⟨o,w⟩:=R.mu b (Ot _ hb);rw[u1 b z,w];simp
  .rcases d2 b hb with z|z|z
   .exact .inl (zcg b z)
   .rw[Oy.mp z];exact .inl pjA
   .exact .inr z
def pK(i k:Nat)(C:Xl)(f:Str):DS:=λt=>match t[i]?,t[k]? with
 |some (.dp (.obj C' ns ds)),Qs (.own xs)=>if C'=C/\k≠i/\Ui xs=Qt then(aX f ns).bind λj=>match ds[j]? with
  |some (.lst rows)=>if rows.length<100000 then Qs (.nx ((t.set k .no).set i (.dp (.obj C ns (ds.set j (.lst (rows++[.lst xs]))))))) else Qn
  |_=>Qn else Qn
 |_,_=>Qn
def Ji(i k:Nat){y:Str}(c:UL X.K C)(n:Ue X.K C f)(hN:X.N[i]?=Qs x:=by rfl)(hv:dt X.env.scope x:=by first|exact Or.inl rfl|exact Or.inr (Or.inl rfl)|exact Or.inr (Or.inr rfl))(hd:UR x:=by decide)(UI:Vz x:=by decide) (hN':X.N[k]?=Qs y:=by rfl) (hv':dt X.env.scope y:=by first|exact Or.inl rfl|exact Or.inr (Or.inl rfl)|exact Or.inr (Or.inr rfl)) (Wi:UR y:=by decide) (zgf:Vz y:=by decide) (YD:attributeBase (.Name x p0) f X.env (eval (.Name x p0) X.env)=eval (.Name x p0) X.env:=by rfl) (UT:OP [.Name y p2] X.env=[(Qf,eval (.Name y p2) X.env)]:=by rfl) (YC:attributeBase (.Attribute (.Name x p0) f p1) "append" X.env (eval (.Attribute (.Name x p0) f p1) X.env)=eval (.Attribute (.Name x p0) f p1) X.env:=by rfl) (Yy:((QJ Uw (OP [.Name y p2] X.env)).all (λx=>!x.1)&&(backToKw Uw (keywordEach [] X.env)).all (λx=>x.1.isSome)
   && decide ([Expr.Name y p2].length+([]:Ql SW).length+(if([]:Ql SW).isEmpty then 0 else 1)<30))=Qt:=by rfl) (Yw:(apos.endLine==Uw.line)=Qt:=by rfl) (Yu:(QJ Uw (OP [] X.env)).any (·.1)=Qf:=by rfl) (Wh:swapsWith (.Call (.Attribute (.Attribute (.Name x p0) f p1) "append" apos) [.Name y p2] [] Uw) Qn pos.line X.env=pure Qf:=by rfl):PS X (.Expr (.Call (.Attribute (.Attribute (.Name x p0) f p1) "append" apos) [.Name y p2] [] Uw) pos) (dP X.K F I (pK i k C f)):=by
 refine PS.imp (ot (wK Q6 QB Q3 sQ (kZ (dH (i:=i) hN hv hd UI) YD) (gm (dH (i:=k) hN' hv' Wi zgf) gF UT) YC Yy Yw UT Yu) Wh) ?_;rintro E σ H ⟨A,t,t2,R,e,h⟩;unfold pK at e;split at e
 case h_2=>cases e
 rename_i C' ns ds xs z1 z2;replace e:=Ve e;obtain⟨ok,e⟩:=e;obtain⟨rfl,ne,fl⟩:=ok;rcases e2:aX f ns with _|j
 .rw[e2]at e;cases e
 rw[e2]at e;simp only[Oz]at e;split at e
 case h_2=>cases e
 rename_i rows z3;replace e:=Ve e;obtain⟨hlen,e⟩:=e;cases e;obtain⟨p,dx,vs,q,ws,pj,a1,a2,a3,a4,a5,a6,A2,b1,b2⟩:=R.zgT ne z1 z2 fl e2 z3;refine⟨_,a1,p,C',dx,_,_,rfl,a3,c,n,a4,.inl ⟨rfl,ws,TZ.of a5⟩,_,a2,q,ws,_,rfl,rfl,a5,?_,h _ _ _ b2 b1 λ_ _=>rfl⟩;exact OS (show ws.length<100000 by lia) (by rw[sizeLine_eq];decide)
end DL
namespace PySem.SeqAt
open PySem.Spec
open MeetsSeq MeetsSeq2 MeetsSeq3
def WC(z:Bool)(e c:Nat->Bool):Ql Nat->Bool
 |[]=>z
 |j::r=>if e j then WC z e c r else c j
theorem Lz(l b:Xl)(items U8:Array OM)(n n2:Nat)(dd Yi:Qo Xl)(sl X4:Array (Qo OM))(e c:Nat->Bool)(k:Nat):∀i:Nat,min items.size U8.size-i=k->i<=min items.size U8.size->Meets (Builtin.«list.__eq__.loop» ⟨[.ref l,.ref b,rawInt i,rawInt 0],[]⟩) (λA R s=>s.heap.get? l=Qs {cls:=.type "list",dict:=dd,data:=.seq items n,slots:=sl}/\s.heap.get? b=Qs {cls:=.type "list",dict:=Yi,data:=.seq U8 n2,slots:=X4}/\ (∀j (h1:j<items.size) (h2:j<U8.size),EqAt A.in1 s items[j] U8[j] (e j))/\(∀j (h1:j<items.size) (h2:j<U8.size),e j=Qf->Fe .Lt A.in1 s items[j] U8[j] (c j))/\R (.ok (.ret (.bool (WC (decide (items.size<U8.size)) e c ((Pk (min items.size U8.size)).drop i))))) s):=by
 induction k with
 |zero=>
  intro i hk hi prog w A R s h;obtain⟨hp,g,d,tk,os⟩:=s;obtain⟨hl,hb,he,Yf,h⟩:=h;have hd:(Pk (min items.size U8.size)).drop i=[]:=by simp;lia
  rw[hd]at h
  wp_walk using wpAny_loadPart' hl,wpAny_loadPart' hb
  by_cases h1:i<items.size
  .have h2:¬i<U8.size:=by lia
   have Za:items[((i:Nat):Int).toNat]?=Qs items[i]:=by simp[h1]
   have hi2:U8[((i:Nat):Int).toNat]?=Qn:=by simp;lia
   rw[Za,hi2]
   wp_walk using wpAny_loadPart' hl,wpAny_loadPart' hb
   show R (.ok (.ret (.bool (decide (items.size<U8.size))))) _;simpa[WC] using h
  .have Za:items[((i:Nat):Int).toNat]?=Qn:=by simp;lia
   rw[Za]
   wp_walk using wpAny_loadPart' hl,wpAny_loadPart' hb
   show R (.ok (.ret (.bool (decide (items.size<U8.size))))) _;simpa[WC] using h
 |succ k ih=>
  intro i hk hi prog w A R s h;obtain⟨hp,g,d,tk,os⟩:=s;obtain⟨hl,hb,he,Yf,h⟩:=h
  wp_walk using wpAny_loadPart' hl,wpAny_loadPart' hb
  have hm:i<min items.size U8.size:=by lia
  have XI:i<items.size:=by lia
  have zbp:i<U8.size:=by lia
  have Za:items[((i:Nat):Int).toNat]?=Qs items[i]:=by simp[XI]
  have hi2:U8[((i:Nat):Int).toNat]?=Qs U8[i]:=by simp[zbp]
  have hd:(Pk (min items.size U8.size)).drop i=i::(Pk (min items.size U8.size)).drop (i+1):=by simp[Py,hm]
  have hc:((i:Int)+1)=((i+1:Nat):Int):=by push_cast;rfl
  rw[hd,WC]at h;rw[Za,hi2];refine OB (he i XI zbp prog w _ _ ?_);cases XN:e i with
  |true=>
   rw[XN]at h
   wp_walk
   rw[hc];exact⟨plainId_quiet plain_eq_loop _,codeAny_builtin entry_eq_loop (by
    rw[Around.under_plainId plain_eq_loop _];exact ih (i+1) (by lia) (by lia) prog w A R _ ⟨hl,hb,he,Yf,by simpa using h⟩)⟩
  |false=>
   rw[XN]at h
   wp_walk using wpAny_loadPart' hl,wpAny_loadPart' hb
   rw[Za,hi2];refine OB (Yf i XI zbp XN prog w _ _ ?_)
   wp_walk
   simpa using h
theorem zfb(l b:Xl)(items U8:Array OM)(n n2:Nat)(dd Yi:Qo Xl)(sl X4:Array (Qo OM))(e c:Nat->Bool):Meets (Builtin.«list.__lt__» ⟨[.ref l,.ref b],[]⟩) (λA R s=>s.heap.get? l=Qs {cls:=.type "list",dict:=dd,data:=.seq items n,slots:=sl}/\s.heap.get? b=Qs {cls:=.type "list",dict:=Yi,data:=.seq U8 n2,slots:=X4}/\ (∀j (h1:j<items.size) (h2:j<U8.size),EqAt A.in1 s items[j] U8[j] (e j))/\(∀j (h1:j<items.size) (h2:j<U8.size),e j=Qf->Fe .Lt A.in1 s items[j] U8[j] (c j))/\R (.ok (.ret (.bool (WC (decide (items.size<U8.size)) e c (Pk (min items.size U8.size)))))) s):=by
 intro prog w A R s h;obtain⟨hp,g,d,tk,os⟩:=s;obtain⟨hl,hb,he,Yf,h⟩:=h;have f3:=AutoSeq1.sub_list_list
 wp_walk using wpAny_loadPart' hl,wpAny_loadPart' hb
 exact⟨plainId_quiet plain_eq_loop _,codeAny_builtin entry_eq_loop (by
  rw[Around.under_plainId plain_eq_loop _];exact Lz l b items U8 n n2 dd Yi sl X4 e c _ 0 rfl (QD _) prog w A R _ ⟨hl,hb,he,Yf,by simpa using h⟩)⟩
end PySem.SeqAt
namespace TS
def bq:Ql Int->Ql Int->Bool
 |[],[]=>Qf
 |[],_::_=>Qt
 |_::_,[]=>Qf
 |a::as,b::bs=>if a=b then bq as bs else decide (a<b)
def mU:∀xs:Ql Int,bq xs xs=Qf
 |[]=>rfl
 |a::as=>by simp only[bq,if_true];exact mU as
def sZ:∀{xs ys zs:Ql Int},bq xs ys=Qt->bq ys zs=Qt->bq xs zs=Qt
 |[],[],_,h,_=>by cases h
 |[],_::_,[],_,h=>by cases h
 |[],_::_,_::_,_,_=>rfl
 |_::_,[],_,h,_=>by cases h
 |_::_,_::_,[],_,h=>by cases h
 |a::as,b::bs,c::cs,h1,h2=>by
  simp only[bq]at h1 h2 ⊢;by_cases e1:a=b
  .subst e1;rw[S9 rfl]at h1;by_cases e2:a=c
   .subst e2;rw[S9 rfl]at h2 ⊢;exact sZ h1 h2
   .rw[Tr e2]at h2 ⊢;exact h2
  .rw[Tr e1]at h1;have l1:a<b:=of_decide_eq_true h1;by_cases e2:b=c
   .subst e2;rw[Tr e1];exact h1
   .rw[Tr e2]at h2;have l2:b<c:=of_decide_eq_true h2;rw[Tr (by lia)];exact Uc (by lia)
def oH:∀{xs ys:Ql Int},xs≠ys->bq xs ys=Qf->bq ys xs=Qt
 |[],[],n,_=>absurd rfl n
 |[],_::_,_,h=>by cases h
 |_::_,[],_,_=>rfl
 |a::as,b::bs,n,h=>by
  simp only[bq]at h ⊢;by_cases e:a=b
  .subst e;rw[S9 rfl]at h ⊢;exact oH (λz=>n (by rw[z])) h
  .rw[Tr e]at h;have l:¬a<b:=of_decide_eq_false h;rw[Tr (λz=>e z.symm)];exact Uc (by lia)
def rS(ls:Ql (Ql Int))(x:Ql Int):Int:=((ls.filter λy=>bq y x).length:Nat)
def AO{x y:Ql Int}(h:∀z,bq z x=Qt->bq z y=Qt):∀ls:Ql (Ql Int),(ls.filter λz=>bq z x).length<=(ls.filter λz=>bq z y).length
 |[]=>OL _
 |l::ls=>by
  have i:=AO h ls;simp only[P8];cases e1:bq l x with
  |true=>rw[h l e1];simpa using i
  |false=>
   cases e2:bq l y with
   |true=>simp;lia
   |false=>simpa using i
def vP{x y:Ql Int}(hxy:bq x y=Qt):∀{ls:Ql (Ql Int)},x∈ls->(ls.filter λz=>bq z x).length<(ls.filter λz=>bq z y).length
 |l::ls,m=>by
  have tr:∀z,bq z x=Qt->bq z y=Qt:=λz q=>sZ q hxy;simp only[P8];rcases OC.mp m with e|m
  .subst e;have i:=AO tr ls;rw[mU,hxy];simp;lia
  .have i:=vP hxy m;cases e1:bq l x with
   |true=>rw[tr l e1];simpa using i
   |false=>
    cases e2:bq l y with
    |true=>simp;lia
    |false=>simpa using i
def HP{ls:Ql (Ql Int)}{x y:Ql Int}(mx:x∈ls)(my:y∈ls):decide (rS ls x<rS ls y)=bq x y:=by
 unfold rS;cases e:bq x y with
 |true=>have:=vP e mx;exact Uc (by lia)
 |false=>
  refine UJ ?_;by_cases z:x=y
  .subst z;lia
  .have:=vP (oH z e) my;lia
def DQ{z:Bool}{e c:Nat->Bool}{f:Nat->Nat}:∀l:Ql Nat,SeqAt.WC z e c (l.map f)=SeqAt.WC z (λj=>e (f j)) (λj=>c (f j)) l
 |[]=>rfl
 |j::l=>by simp only[OF,SeqAt.WC,DQ l]
def DR:∀is js:Ql Int,SeqAt.WC (decide (is.length<js.length)) (λj=>decide (is.getD j 0=js.getD j 0)) (λj=>decide (is.getD j 0<js.getD j 0)) (Pk (min is.length js.length))=bq is js
 |[],[]=>rfl
 |[],_::_=>by simp[SeqAt.WC,bq]
 |_::_,[]=>by simp[SeqAt.WC,bq]
 |a::as,b::bs=>by
  have i:=DR as bs;have hm:min (a::as).length (b::bs).length=min as.length bs.length+1:=by simp only[OX];lia
  rw[hm,List.range_succ_eq_map];simp only[SeqAt.WC,DQ,bq];have hd:decide ((a::as).length<(b::bs).length)=decide (as.length<bs.length):=decide_eq_decide.mpr (by simp);rw[hd];simp only[List.getD_cons_zero,List.getD_cons_succ,UX];by_cases e:a=b
  .rw[S9 e,S9 e];exact i
  .rw[Tr e,Tr e]
def lV(h:Xm)(a:Xl)(is:Ql Int):Prop:=∃TH:Ql OM,h.IsList a TH.toArray/\IntsAre TH is
def oZ:∀{vs:Ql OM}{ns:Ql Int},IntsAre vs ns->∀(j:Nat) (h:j<vs.length),∃t,vs[j]=.int (ns.getD j 0) t
 |_,_,.nil,j,h=>by simp at h
 |_,_,.cons n t r,0,h=>⟨t,rfl⟩
 |_,_,.cons n t r,j+1,h=>by obtain⟨t',e⟩:=oZ r j (by simpa using h);exact⟨t',by simpa using e⟩
def oY:∀{vs:Ql OM}{ns:Ql Int},IntsAre vs ns->vs.length=ns.length
 |_,_,.nil=>rfl
 |_,_,.cons n t r=>by simp[oY r]
section
variable {A:Qq}
def Na{b:Xl}{js:Ql Int}(hl:lV s.heap l is)(hb:lV s.heap b js)(ne:is≠js)(hu:A.units<cLine)(hlb:l≠b):SeqAt.EqAt A s (.ref l) (.ref b) Qf:=by
 obtain⟨v1,a1,a2⟩:=hl;obtain⟨v2,b1,b2⟩:=hb;have l1:=oY a2;have l2:=oY b2;refine SeqAt.EqAt.of_refs hlb ?_;by_cases hz:is.length=js.length
 .have k:=SeqAt.RcAt.lists (A:=A) (e:=λj=>decide (is.getD j 0=js.getD j 0)) a1 b1 (by simp;lia) hu (λj g1 g2=>by
   obtain⟨t1,e1⟩:=oZ a2 j (by simpa using g1);obtain⟨t2,e2⟩:=oZ b2 j (by simpa using g2);have ZY:v1.toArray[j]=.int (is.getD j 0) t1:=by simpa using e1
   have Zf:v2.toArray[j]=.int (js.getD j 0) t2:=by simpa using e2
   rw[ZY,Zf];exact λprog w E Q h=>wpAny_eqBool_int h)
  have:((Pk v1.toArray.size).all λj=>decide (is.getD j 0=js.getD j 0))=Qf:=by
   cases q:(Pk v1.toArray.size).all λj=>decide (is.getD j 0=js.getD j 0) with
   |false=>rfl
   |true=>refine absurd (Sh hz λj h1 h2=>?_) ne;have:=PF.mp q j (by simp;lia);have:=of_decide_eq_true this;simpa[ON,OE h1,OE h2] using this
  rw[this]at k;exact k
 .exact SeqAt.RcAt.lists_lengths a1 b1 (by simp;lia) hu
def Kg{b:Xl}{js:Ql Int}{Q:Bool->OJ->Prop}(hl:lV s.heap l is)(hb:lV s.heap b js)(hu:A.units+2<cLine)(h:Q (bq is js) s):wpAny (model prog w) A (oneLt' Qt (.ref l) (.ref b)) Q E s:=by
 obtain⟨v1,a1,a2⟩:=hl;obtain⟨v2,b1,b2⟩:=hb;have l1:=oY a2;have l2:=oY b2;rw[<-DR]at h;obtain⟨⟨cls,dd,data,sl⟩,ho,hc1,n,hd⟩:=id a1;obtain⟨⟨zht,Yi,data2,X4⟩,XH,YA,n2,hd2⟩:=id b1;simp only at hc1 hd YA hd2;subst hc1 hd YA hd2;have at1:∀j (g1:j<v1.toArray.size),∃t,v1.toArray[j]=.int (is.getD j 0) t:=λj g1=>by obtain⟨t,e⟩:=oZ a2 j (by simpa using g1);exact⟨t,by simpa using e⟩
 have at2:∀j (g1:j<v2.toArray.size),∃t,v2.toArray[j]=.int (js.getD j 0) t:=λj g1=>by obtain⟨t,e⟩:=oZ b2 j (by simpa using g1);exact⟨t,by simpa using e⟩
 rw[oneLt'_eq];simp only[if_true];refine OB (wpAny_cRoomFor (by lia) ?_);refine OB (wpAny_callSpecialIfBound?_slot ⟨_,ho,rfl⟩ SJ (call_meets SJ ⟨_,ho,rfl⟩ PySem.F.entry_list_lt (PySem.F.args_list_lt_2 _ _) (SeqAt.zfb l b v1.toArray v2.toArray n n2 dd Yi sl X4 (λj=>decide (is.getD j 0=js.getD j 0)) (λj=>decide (is.getD j 0<js.getD j 0))) ⟨ho,XH,λj g1 g2=>?_,λj g1 g2 _=>?_,?_⟩))
 .obtain⟨t1,e1⟩:=at1 j g1;obtain⟨t2,e2⟩:=at2 j g2;rw[e1,e2];exact λprog w E Q h=>wpAny_eqBool_int h
 .obtain⟨t1,e1⟩:=at1 j g1;obtain⟨t2,e2⟩:=at2 j g2;rw[e1,e2];exact λprog w E Q h=>CmpOf.ints_lt (prog:=prog) (w:=w) (P:=λ(n:Nat) v=>∃t,v=.int (if n=0 then is.getD j 0 else js.getD j 0) t) (λn=>if n=0 then is.getD j 0 else js.getD j 0) (λ_ _ h=>h) 0 1 _ _ _ _ _ ⟨t1,rfl⟩ ⟨t2,rfl⟩ h
 .refine wpAny_truthy_bool ?_;have z1:v1.toArray.size=is.length:=by simp[l1]
  have z2:v2.toArray.size=js.length:=by simp[l2]
  rw[z1,z2];exact h
end
def UK(f:Nat->Int)(N:Nat){α:Type}(Q:α->Prop):Rt α->Prop
 |.ret a=>Q a
 |.ask i j k=>i<N/\j<N/\UK f N Q (k (decide (f i<f j)))
section
variable {f:Nat->Int}{N:Nat}{α β:Type}{p:Array Nat}
def UK.bind{Q:β->Prop}{g:α->Rt β}:∀{t:Rt α}{R:α->Prop},UK f N R t->(∀a,R a->UK f N Q (g a))->UK f N Q (t.bind g)
 |.ret a,_,h,k=>k a h
 |.ask _ _ _,_,h,k=>⟨h.1,h.2.1,UK.bind h.2.2 k⟩
def UK.wp{cmp:Nat->Nat->(Bool->OJ->Prop)->OJ->Prop}{s:OJ}(hc:∀i j C,i<N->j<N->C (decide (f i<f j)) s->cmp i j C s){Q:α->Prop}{G:α->OJ->Prop}(hG:∀a,Q a->G a s):∀{t:Rt α},UK f N Q t->t.kasWp cmp G s
 |.ret a,h=>hG a h
 |.ask i j k,h=>hc i j _ h.1 h.2.1 (UK.wp hc hG (t:=k _) h.2.2)
def UK.ask{Q:α->Prop}{i j:Nat}{k:Bool->Rt α}(hi:i<N)(hj:j<N)(h1:f i<f j->UK f N Q (k Qt))(h2:¬f i<f j->UK f N Q (k Qf)):UK f N Q (.ask i j k):=⟨hi,hj,by
 by_cases c:f i<f j
 .rw[Uc c];exact h1 c
 .rw[UJ c];exact h2 c⟩
def UK.mono{Q Q':α->Prop}(k:∀a,Q a->Q' a):∀{t:Rt α},UK f N Q t->UK f N Q' t
 |.ret a,h=>k a h
 |.ask _ _ _,h=>⟨h.1,h.2.1,UK.mono k h.2.2⟩
def Vv(N:Nat)(p:Array Nat):Prop:=p.toList.Perm (Pk N)
def Vv.sz(h:Vv N p):p.size=N:=by simpa using h.length_eq
def Vv.lt(h:Vv N p)(i:Nat)(hi:i<N):p.getD i 0<N:=by
 have XJ:i<p.size:=by rw[h.sz];exact hi
 refine QA.mp (h.mem_iff.mp ?_);simp[UD,XJ]
def Vv.inj(h:Vv N p)(i j:Nat)(hi:i<N)(hj:j<N)(e:p.getD i 0=p.getD j 0):i=j:=by
 have z:=h.sz;have nd:=Q0.mp (h.nodup_iff.mpr Tz);simp only[UD,show i<p.size by lia,show j<p.size by lia,dite_true]at e;rcases Td i j with l|l|l
 .exact absurd e (nd i j (by simpa using(by lia:i<p.size)) (by simpa using(by lia:j<p.size)) l)
 .exact l
 .exact absurd e.symm (nd j i (by simpa using(by lia:j<p.size)) (by simpa using(by lia:i<p.size)) l)
def bH(f:Nat->Int)(p:Array Nat)(i:Nat):Int:=f (p.getD i 0)
def WH(f:Nat->Int)(p:Array Nat)(k:Nat):Prop:=∀i j,i<j->j<k->bH f p i<bH f p j
def YN(f:Nat->Int)(p:Array Nat)(k:Nat):Prop:=∀i j,i<j->j<k->bH f p j<bH f p i
def Vv.ne(h:Vv N p)(hf:∀i j,i<N->j<N->f i=f j->i=j) (hi:i<N)(hj:j<N)(n:i≠j):bH f p i≠bH f p j:=λe=>n (h.inj i j hi hj (hf _ _ (h.lt i hi) (h.lt j hj) e))
def WH.snoc{n:Nat}(h:WH f p n)(n1:1<=n)(l:bH f p (n-1)<bH f p n):WH f p (n+1):=λi j a b=>by
 by_cases z:j=n
 .subst z;by_cases y:i=j-1
  .rw[y];exact l
  .have:=h i (j-1) (by lia) (by lia);lia
 .exact h i j a (by lia)
def YN.snoc{n:Nat}(h:YN f p n)(n1:1<=n)(l:bH f p n<bH f p (n-1)):YN f p (n+1):=λi j a b=>by
 by_cases z:j=n
 .subst z;by_cases y:i=j-1
  .rw[y];exact l
  .have:=h i (j-1) (by lia) (by lia);lia
 .exact h i j a (by lia)
def xo(hp:Vv N p)(hf:∀i j,i<N->j<N->f i=f j->i=j):∀(fu n:Nat),1<=n->n+fu<=N->WH f p n->UK f N (λm=>n<=m/\m<=n+fu/\WH f p m/\(m<n+fu->bH f p m<bH f p (m-1))) (TQ p fu n)
 |0,n,n1,h,u=>⟨OL _,OL _,u,λz=>absurd z (by lia)⟩
 |fu+1,n,n1,h,u=>by
  refine UK.ask (hp.lt _ (by lia)) (hp.lt _ (by lia)) (λc=>?_) λc=>?_
  .exact⟨OL _,by lia,u,λ_=>c⟩
  .show UK f N _ (TQ p fu (n+1));have ne:bH f p n≠bH f p (n-1):=hp.ne hf (by lia) (by lia) (by lia);have l:bH f p (n-1)<bH f p n:=by have c:¬bH f p n<bH f p (n-1):=c;lia
   have r:=xo hp hf fu (n+1) (by lia) (by lia) (u.snoc n1 l);rw[show n+1+fu=n+(fu+1) by lia]at r;exact UK.mono (λm q=>⟨by lia,q.2⟩) r
def CQ(hp:Vv N p)(hf:∀i j,i<N->j<N->f i=f j->i=j):∀(fu n:Nat),1<=n->n+fu<=N->YN f p n->UK f N (λr=>r.1=p/\r.2.2=0/\n<=r.2.1/\r.2.1<=n+fu/\YN f p r.2.1) (TC fu p n 0)
 |0,n,n1,h,u=>⟨rfl,rfl,OL _,OL _,u⟩
 |fu+1,n,n1,h,u=>by
  refine UK.ask (hp.lt _ (by lia)) (hp.lt _ (by lia)) (λc=>?_) λc=>?_
  .show UK f N _ (TC fu p (n+1) 0);have r:=CQ hp hf fu (n+1) (by lia) (by lia) (u.snoc n1 c);rw[show n+1+fu=n+(fu+1) by lia]at r;exact UK.mono (λm q=>⟨q.1,q.2.1,by lia,q.2.2.2⟩) r
  .have ne:bH f p n≠bH f p (n-1):=hp.ne hf (by lia) (by lia) (by lia);refine UK.ask (hp.lt _ (by lia)) (hp.lt _ (by lia)) (λ_=>⟨rfl,rfl,OL _,by show n<=_;lia,u⟩) λd=>absurd ne ?_;have c:¬bH f p n<bH f p (n-1):=c;have d:¬bH f p (n-1)<bH f p n:=d;lia
def tj{q:Array Nat}:q.getD i 0=(q[i]?).getD 0:=by simp[Array.getD_eq_getD_getElem?]
def CP(hp:Vv N p) (hn:n<=N)(i:Nat):(RK p 0 n).getD i 0=p.getD (if i<n then n-1-i else i) 0:=by
 rw[tj,tj];unfold RK;rw[getElem?_mirror_all (by rw[hp.sz];exact hn)];by_cases z:i<n
 .rw[S9 ⟨by lia,z⟩,S9 z,QM]
 .rw[Tr (λh=>z h.2),Tr z]
def CO(hp:Vv N p):Vv N (RK p 0 n):=(RL.mp (mirror_perm _ _ _ _)).trans hp
def L0(hp:Vv N p) (hn:n<=N)(d:YN f p n):WH f (RK p 0 n) n:=λi j a b=>by unfold bH;rw[CP hp hn,CP hp hn,S9 (by lia),S9 (by lia)];exact d (n-1-j) (n-1-i) (by lia) (by lia)
def Oi(f:Nat->Int)(N:Nat)(r:Nat×Array Nat):Prop:=1<=r.1/\r.1<=N/\Vv N r.2/\WH f r.2 r.1
def L4(hp:Vv N p)(hf:∀i j,i<N->j<N->f i=f j->i=j)(h2:2<=N):UK f N (Oi f N) (Te N p):=by
 unfold Te;refine UK.bind (xo hp hf (N-1) 1 (by lia) (by lia) λi j a b=>absurd b (by lia)) λn ⟨n1,n2,u,st⟩=>?_;by_cases z:n=N
 .rw[z,beq_self_eq_true,S9 rfl];exact⟨by lia,OL _,hp,z▸u⟩
 .rw[Tr (by simpa using z)];by_cases y:n>1
  .rw[S9 y];exact UK.ask (hp.lt _ (by lia)) (hp.lt _ (by lia)) (λ_=>⟨n1,by show n<=N;lia,hp,u⟩) λc=>absurd (u 0 (n-1) (by lia) (by lia)) c
  .rw[Tr y];have en:n=1:=by lia
   subst en;show UK f N _ (SK 1 N p);unfold SK;refine UK.bind (CQ hp hf (N-(1+1)) (1+1) (by lia) (by lia) ((show YN f p 1 from λi j a b=>absurd b (by lia)).snoc (by lia) (st (by lia)))) ?_;rintro⟨p',m,q⟩ ⟨e1,e2,m1,m2,d⟩;simp only at e1 e2 m1 m2 d;subst e1 e2;show UK f N _ (Tf m N p');unfold Tf;have hm:m<=N:=by lia
   exact UK.bind (xo (CO hp) hf (N-m) m (by lia) (by lia) (L0 hp hm d)) λk ⟨k1,k2,k3,_⟩=>⟨by show 1<=k;lia,by show k<=N;lia,CO hp,k3⟩
def xn(hp:Vv N p)(hf:∀i j,i<N->j<N->f i=f j->i=j){k:Nat}(hk:k<N):∀(fu l r:Nat),l<=r->r<=k->r-l<=fu->(∀i,i<l->bH f p i<bH f p k)->(∀i,r<=i->i<k->bH f p k<bH f p i)->WH f p k->UK f N (λm=>m<=k/\(∀i,i<m->bH f p i<bH f p k)/\∀i,m<=i->i<k->bH f p k<bH f p i) (Tg p k fu l r)
 |0,l,r,h1,h2,h3,a,b,u=>⟨by lia,a,λi x y=>b i (by lia) y⟩
 |fu+1,l,r,h1,h2,h3,a,b,u=>by
  unfold Tg;by_cases z:l≥r
  .rw[S9 z];exact⟨by lia,a,λi x y=>b i (by lia) y⟩
  .rw[Tr z];refine UK.ask (hp.lt _ hk) (hp.lt _ (by lia)) (λc=>?_) λc=>?_
   .exact xn hp hf hk fu l _ (by lia) (by lia) (by lia) a (λi x y=>by
     have c:bH f p k<bH f p ((l+r)/2):=c;by_cases w:i=(l+r)/2
     .rw[w];exact c
     .have:=u ((l+r)/2) i (by lia) y;lia) u
   .exact xn hp hf hk fu _ r (by lia) h2 (by lia) (λi x=>by
     have c:¬bH f p k<bH f p ((l+r)/2):=c;have ne:bH f p k≠bH f p ((l+r)/2):=hp.ne hf hk (by lia) (by lia);by_cases w:i=(l+r)/2
     .rw[w];lia
     .have:=u i ((l+r)/2) (by lia) (by lia);lia) b u
def L1(hp:Vv N p){k l:Nat}(hk:k<N)(hl:l<=k)(i:Nat):(bubble p k (k-l)).getD i 0=p.getD (if i=l then k else if l<i/\i<=k then i-1 else i) 0:=by
 rw[tj,tj,getElem?_bubble (by rw[hp.sz];exact hk) _ (by lia),show k-(k-l)=l by lia];split
 .rfl
 .split<;>rfl
def CS(hf:∀i j,i<N->j<N->f i=f j->i=j):∀(fu k:Nat){p:Array Nat},k+fu=N->Vv N p->WH f p k->UK f N (λq=>Vv N q/\WH f q N) (TR fu p k)
 |0,k,p,h,hp,u=>⟨hp,by rw[<-h];exact u⟩
 |fu+1,k,p,h,hp,u=>by
  unfold TR;have hk:k<N:=by lia
  refine UK.bind (xn hp hf hk k 0 k (by lia) (OL _) (by lia) (λi z=>absurd z (by lia)) (λi z y=>absurd y (by lia)) u) λl ⟨hl,a,b⟩=>?_;have e:=λi=>L1 hp hk hl i;refine CS hf fu (k+1) (by lia) ((RL.mp (bubble_perm _ _ _)).trans hp) λi j ij jk=>?_;unfold bH;rw[e i,e j];have a':=λi h=>(a i h:f (p.getD i 0)<f (p.getD k 0));have b':=λi h g=>(b i h g:f (p.getD k 0)<f (p.getD i 0));have u':=λi j h g=>(u i j h g:f (p.getD i 0)<f (p.getD j 0));by_cases i1:i=l
  .rw[S9 i1,Tr (by lia),S9 (by lia)];exact b' _ (by lia) (by lia)
  .rw[Tr i1];by_cases j1:j=l
   .rw[S9 j1,Tr (by lia)];exact a' _ (by lia)
   .rw[Tr j1];split<;>split
    .exact u' _ _ (by lia) (by lia)
    .lia
    .exact u' _ _ (by lia) (by lia)
    .exact u' _ _ (by lia) (by lia)
def L3(hf:∀i j,i<N->j<N->f i=f j->i=j)(h2:2<=N):UK f N (λq=>Vv N q/\WH f q N) (TF N):=by
 have hp:Vv N (List.toArray (Pk N)):=QC _;unfold TF;refine UK.bind (L4 hp hf h2) ?_;rintro⟨n,q⟩ ⟨n1,n2,hq,u⟩;simp only at n1 n2 hq u;by_cases z:n<N
 .rw[S9 z,show max n 1=n by lia];exact CS hf _ n (by lia) hq u
 .rw[Tr z];have:n=N:=by lia
  exact⟨hq,this▸u⟩
end
end TS
namespace DL
open PySem.Spec L2 TS
def Xq{α:Type}(x:Ql Int×α):Ql (Ql Int×α)->Ql (Ql Int×α)
 |[]=>[x]
 |y::ys=>if bq y.1 x.1 then y::Xq x ys else x::y::ys
def VA{α:Type}:Ql (Ql Int×α)->Ql (Ql Int×α)
 |[]=>[]
 |x::xs=>Xq x (VA xs)
def xH{α:Type}(x:Ql Int×α):∀ys:Ql (Ql Int×α),(Xq x ys).Perm (x::ys)
 |[]=>QC _
 |y::ys=>by
  unfold Xq;split
  .exact((xH x ys).cons y).trans (Ub x y ys)
  .exact QC _
def Yp{α:Type}:∀xs:Ql (Ql Int×α),(VA xs).Perm xs
 |[]=>QC _
 |x::xs=>(xH x _).trans ((Yp xs).cons x)
def zI{α:Type}(xs:Ql (Ql Int×α)):Prop:=xs.Pairwise λx y=>bq y.1 x.1=Qf
def LN{x y:Ql Int}(h:bq x y=Qt):bq y x=Qf:=by
 cases e:bq y x with
 |false=>rfl
 |true=>have:=sZ h e;rw[mU]at this;cases this
def LM{x y z:Ql Int}(h1:bq y x=Qf)(h2:bq z y=Qf):bq z x=Qf:=by
 cases e:bq z x with
 |false=>rfl
 |true=>
  by_cases q:x=y
  .subst q;rw[e]at h2;cases h2
  .have:=oH (λw=>q w.symm) h1;rw[sZ e this]at h2;cases h2
def Dh{α:Type}(x:Ql Int×α):∀{ys:Ql (Ql Int×α)},zI ys->zI (Xq x ys)
 |[],_=>R8 _ _
 |y::ys,h=>by
  have h':=PM.mp h;unfold Xq;split
  .rename_i c;refine PM.mpr ⟨λz hz=>?_,Dh x h'.2⟩;rcases OC.mp ((xH x ys).mem_iff.mp hz) with e|m
   .rw[e];exact LN c
   .exact h'.1 z m
  .rename_i c;have c:bq y.1 x.1=Qf:=by simpa using c
   refine PM.mpr ⟨λz hz=>?_,h⟩;rcases OC.mp hz with e|m
   .rw[e];exact c
   .exact LM c (h'.1 z m)
def zck{α:Type}:∀xs:Ql (Ql Int×α),zI (VA xs)
 |[]=>List.Pairwise.nil
 |x::xs=>Dh x (zck xs)
def zco{α:Type}{f:α->Ql Int}:∀{xs ys:Ql α},xs.Perm ys->(∀a∈xs,∀b∈xs,f a=f b->a=b)->(xs.Pairwise λx y=>bq (f y) (f x)=Qf)->(ys.Pairwise λx y=>bq (f y) (f x)=Qf)->xs=ys
 |[],ys,p,_,_,_=>by rw[List.nil_perm.mp p]
 |x::xs,[],p,_,_,_=>absurd p.length_eq (by simp)
 |x::xs,y::ys,p,inj,h1,h2=>by
  have c1:=PM.mp h1;have c2:=PM.mp h2;have m1:x∈y::ys:=p.mem_iff.mp (Ox ..);have m2:y∈x::xs:=p.mem_iff.mpr (Ox ..);have e:x=y:=by
   have a1:bq (f x) (f y)=Qf:=by
    rcases OC.mp m1 with z|z
    .rw[z];exact mU _
    .exact c2.1 x z
   have a2:bq (f y) (f x)=Qf:=by
    rcases OC.mp m2 with z|z
    .rw[z];exact mU _
    .exact c1.1 y z
   refine inj x (Ox ..) y m2 ?_;by_cases q:f x=f y
   .exact q
   .have:=oH q a1;rw[a2]at this;cases this
  subst e;rw[zco (S6 p) (λa ha b hb=>inj a (Ov _ ha) b (Ov _ hb)) c1.2 c2.2]
def Di{α β:Type}(g:α->β)(x:Ql Int×α):∀ys:Ql (Ql Int×α),Xq (x.1,g x.2) (ys.map λw=>(w.1,g w.2))=(Xq x ys).map λw=>(w.1,g w.2)
 |[]=>rfl
 |y::ys=>by
  simp only[OF,Xq];split
  .rw[Di g x ys];rfl
  .rfl
def n8{α β:Type}(g:α->β):∀xs:Ql (Ql Int×α),VA (xs.map λw=>(w.1,g w.2))=(VA xs).map λw=>(w.1,g w.2)
 |[]=>rfl
 |x::xs=>by simp only[OF,VA];rw[n8 g xs];exact Di g x _
def zcD{α β:Type}{g:α->β}:∀{xs:Ql α},(xs.map g).Nodup->∀a∈xs,∀b∈xs,g a=g b->a=b
 |[],_,a,ha,_,_,_=>nomatch ha
 |x::xs,h,a,ha,b,hb,e=>by
  have n:=OO.mp h;rcases OC.mp ha with p|p
  .rcases OC.mp hb with q|q
   .rw[p,q]
   .rw[p]at e;exact absurd (e▸QH q) n.1
  .rcases OC.mp hb with q|q
   .rw[q]at e;exact absurd (e▸QH p) n.1
   .exact zcD n.2 a p b q e
end DL
namespace TS
def WY(h:Xm)(a:Xl)(is:Ql Int):Prop:=∃o l v n,h.get? a=Qs o/\o.cls=.type "tuple"/\o.data=.seq #[.ref l,v] n/\lV h l is
def De:∀{vs:Ql OM}{ns ms:Ql Int},IntsAre vs ns->IntsAre vs ms->ns=ms
 |_,_,_,.nil,.nil=>rfl
 |_,_,_,.cons n t r,.cons _ _ r'=>by rw[De r r']
def LI{js:Ql Int}(a:lV h l is)(b:lV h l js):is=js:=by
 obtain⟨v1,⟨o,e,c,n,d⟩,a2⟩:=a;obtain⟨v2,⟨o',e',c',n',d'⟩,b2⟩:=b;rw[e]at e';cases e';rw[d]at d';injection d' with z1 z2
 have:v1=v2:=by simpa using congrArg SD z1
 subst this;exact De a2 b2
def WY.off{a b:Xl}{bs:Ql Xl}(x:WY h b is)(ho:h.get? a=Qs (seqObj "list" (bs.map OY).toArray n))(mb:b∈bs)(k:∀c o,c≠a->h.get? c=Qs o->h'.get? c=Qs o):WY h' b is:=by
 obtain⟨o,l,v,m,e,c,d,TH,⟨o2,e2,c2,n2,d2⟩,ia⟩:=x;have nb:b≠a:=λz=>by
  rw[z,ho]at e;have:(seqObj "list" (bs.map OY).toArray n).cls=.type "tuple":=by rw[O4 e];exact c
  have q:(Se "list")=.type "tuple":=this;exact absurd q (by decide+kernel)
 have nl:l≠a:=λz=>by
  rw[z,ho]at e2;cases O4 e2;have d2:Data.seq (bs.map OY).toArray n=.seq TH.toArray n2:=d2;injection d2 with z1 z2
  have z1:bs.map OY=TH:=by simpa using congrArg SD z1
  cases bs with
  |nil=>cases mb
  |cons b0 bs=>subst z1;cases ia
 exact⟨o,l,v,m,k b o nb e,c,d,TH,⟨o2,k l o2 nl e2,c2,n2,d2⟩,ia⟩
section
variable {A:Qq}{zs:Ql (Ql Int×Xl)}
def zA(zs:Ql (Ql Int×Xl))(i:Nat):Ql Int×Xl:=zs.getD i ([],0)
def iN(zs:Ql (Ql Int×Xl))(i:Nat):Int:=rS (zs.map (·.1)) (zA zs i).1
def qQ(h:i<zs.length):zA zs i∈zs:=by unfold zA;rw[ON,OE h];exact Qm h
def rR(hi:i<zs.length)(hj:j<zs.length):decide (iN zs i<iN zs j)=bq (zA zs i).1 (zA zs j).1:=HP (QH (qQ hi)) (QH (qQ hj))
def zV(nd:(zs.map (·.1)).Nodup)(hi:i<zs.length)(hj:j<zs.length)(e:(zA zs i).1=(zA zs j).1):i=j:=by
 have p:=Q0.mp nd;unfold zA at e;rw[ON,OE hi,ON,OE hj]at e;rcases Td i j with l|l|l
 .exact absurd (by rw[Ru,Ru];exact e) (p i j (by simpa using hi) (by simpa using hj) l)
 .exact l
 .exact absurd (by rw[Ru,Ru];exact e.symm) (p j i (by simpa using hj) (by simpa using hi) l)
def uE(h:i<zs.length):((zs.map (·.2)).map OY).getD i QS=.ref (zA zs i).2:=by unfold zA;simp[h]
def N7(nd:(zs.map (·.1)).Nodup)(hu:A.units+2<cLine)(hk:∀z∈zs,WY s.heap z.2 z.1)(i j:Nat)(C:Bool->OJ->Prop)(hi:i<zs.length)(hj:j<zs.length)(h:C (decide (iN zs i<iN zs j)) s):TU prog w A (tuples' Qt) ((zs.map (·.2)).map OY) i j C s:=by
 rw[rR hi hj]at h;obtain⟨o,l,v,n,g,c,d,la⟩:=hk _ (qQ hi);unfold TU;rw[uE hi,uE hj];by_cases z:i=j
 .subst z;rw[mU]at h;exact Ud g d g d (Sk (SeqAt.EqAt.same _ prog w _ _ (TV (Sk (SeqAt.EqAt.same _ prog w _ _ (TV (PySem.W.kat_nil (by simpa using h))))))))
 .obtain⟨o',l',v',n',g',c',d',lb⟩:=hk _ (qQ hj);have ne:(zA zs i).1≠(zA zs j).1:=λe=>z (zV nd hi hj e);exact Ud g d g' d' (Sk (Na la lb ne (by lia) (λq=>ne (LI la (q▸lb))) prog w _ _ (PySem.W.kat_no (Kg la lb hu h))))
def HN(nd:(zs.map (·.1)).Nodup)(i j:Nat)(hi:i<zs.length)(hj:j<zs.length)(e:iN zs i=iN zs j):i=j:=by have a:=rR hi hj;have b:=rR hj hi;rw[e]at a b;refine OZ λn=>?_;have:=oH (λq=>n (zV nd hi hj q)) (by rw[<-a];exact UJ (Ta _));rw[this]at b;exact absurd (of_decide_eq_true b) (Ta _)
def Fm(nd:(zs.map (·.1)).Nodup){p:Array Nat}(hp:Vv zs.length p)(u:WH (iN zs) p zs.length):p.toList.map (zA zs)=DL.VA zs:=by
 have pz:(p.toList.map (zA zs)).Perm zs:=by
  have:=hp.map (zA zs);have e:(Pk zs.length).map (zA zs)=zs:=Sh (by simp) λi a b=>by simp[zA,b]
  rw[e]at this;exact this
 refine DL.zco (f:=λz:Ql Int×Xl=>z.1) (pz.trans (DL.Yp zs).symm) (λa ha b hb e=>DL.zcD nd a (pz.mem_iff.mp ha) b (pz.mem_iff.mp hb) e) ?_ (DL.zck zs);rw[Ti,Q0];intro i j hi hj l;have sz:=hp.sz;have XJ:i<p.size:=by simpa using hi
 have ZP:j<p.size:=by simpa using hj
 have k:=u i j l (by lia);unfold bH at k;have l1:=hp.lt i (by lia);have l2:=hp.lt j (by lia);simp only[UD,XJ,ZP,dite_true]at k l1 l2;have q:=rR l2 l1;rw[UJ (by have k:iN zs p[i]<iN zs p[j]:=k;lia)]at q;exact q.symm
def Cd{h:Xm}:∀{zs:Ql (Ql Int×Xl)},(∀z∈zs,WY h z.2 z.1)->∃fs:Ql OM,PySem.W.KatTups h ((zs.map (·.2)).map OY) fs/\fs.length=zs.length/\∀v∈fs,∃l o,v=.ref l/\h.get? l=Qs o/\o.cls=.type "list"
 |[],_=>⟨[],.nil,rfl,λv hv=>by cases hv⟩
 |b::bs,ht=>by
  obtain⟨fs,k,l,r⟩:=Cd (zs:=bs) λx hx=>ht x (Ov _ hx);obtain⟨o,l1,v1,n,e,c,d,TH,⟨o2,e2,c2,_⟩,_⟩:=ht b (Ox ..);refine⟨.ref l1::fs,.cons e c d rfl k,by simp[l],λv hv=>?_⟩;rcases OC.mp hv with z|z
  .exact⟨l1,o2,z,e2,c2⟩
  .exact r v z
def LB{a:Xl}{P:PySem.Fin->OJ->Prop}(ho:s.heap.get? a=Qs (seqObj "list" ((zs.map (·.2)).map OY).toArray n))(ht:∀z∈zs,WY s.heap z.2 z.1)(nd:(zs.map (·.1)).Nodup)(hu:A.units+2<cLine)(hz:zs.length<64)
  (h:P (.done (.ret .none)) { s with heap:=sortedHeap s.heap a ((zs.map (·.2)).map OY) (((DL.VA zs).map (·.2)).map OY).toArray }):wpAny (model prog w) A (Builtin.«list.sort» ⟨[.ref a],[]⟩) P E s:=by
 obtain⟨V,hV⟩:∃V,V=(zs.map (·.2)).map OY:=⟨_,rfl⟩;have lv:V.length=zs.length:=by rw[hV];simp
 obtain⟨e1,ho1⟩:∃e1,(s.heap.update a (Obj.mapSeq λ_=>(#[]:Array OM))).get? a=Qs (seqObj "list" #[] e1):=⟨_,get?_update_seq ho λ_ => #[]⟩;rw[<-hV]at ho h;have XH:(((s.heap.update a (Obj.mapSeq λ_=>(#[]:Array OM))).push (seqObj "tuple" V.toArray 0)).push (seqObj "list" #[] 0)).get? a=Qs (seqObj "list" #[] e1):=OA _ (OA _ ho1);have ZI:∀z∈zs,WY (((s.heap.update a (Obj.mapSeq λ_=>(#[]:Array OM))).push (seqObj "tuple" V.toArray 0)).push (seqObj "list" #[] 0)) z.2 z.1:=λz m=>(ht z m).off (bs:=zs.map (·.2)) (by rw[<-hV];exact ho) (QH m) λc o nc e=>OA _ (OA _ ((PD _ _ (Ne.symm nc)).trans e));rw[list_sort_plain];refine OB (listItems_at ho rfl ?_);refine OB (listUpdate_at ho rfl ?_ (by rw[OV,sizeLine_eq];lia) (QD _));refine OB (seqEpoch_at ho1 rfl ?_);refine OB (wpAny_newTuple ?_ (by show V.length<=_;rw[sizeLine_eq];lia));refine OB (wpAny_newList ?_ (QD _));refine wpAny_holding ?_;have hv2:V.toArray.size=zs.length:=by simp[lv]
 have q0:((V.toArray.zip V.toArray).map (·.2)).size=zs.length:=by simp[lv]
 by_cases h2:V.toArray.size<2
 .rw[S9 h2,S9 h2];refine OB (OQ ?_);dsimp only;rw[StateT.run_pure];refine OB (OQ ?_);dsimp only;have q3:(V.toArray.zip V.toArray).map (·.2)=(((DL.VA zs).map (·.2)).map OY).toArray:=by
   rw[hv2]at h2;subst hV;rcases zs with _ | ⟨z,_ | ⟨y,zs⟩⟩
   .simp[DL.VA]
   .simp[DL.VA,DL.Xq]
   .exact absurd h2 (by simp)
  refine OB (seqEpoch_at XH rfl ?_);refine OB (listUpdate_at XH rfl ?_ (QD _) (by
   show((V.toArray.zip V.toArray).map (·.2)).size<=_;rw[q0,sizeLine_eq];lia))
  simp only[bne_self_eq_false,PJ,if_false];rw[<-q3]at h;exact OQ h
 .rw[Tr h2,Tr h2];obtain⟨fs,kt,fl,fi⟩:=Cd ZI;rw[<-hV]at kt;refine OB (PySem.W.kat_kind (T:=.type "list") kt (by lia) (λv hv=>?_) (by decide) ?_)
  .obtain⟨l,o,rfl,e1,e2⟩:=fi v hv;exact PySem.W.kitAt_ty _ _ ⟨o,e1,e2⟩
  rw[show(Se "list" != Se "tuple")=Qt by decide];dsimp only;refine OB (wpAny_mono (PySem.W.kat_run (ks:=V) (vs:=V) (Q:=λV0 s'=>s'={ s with heap:=((s.heap.update a (Obj.mapSeq λ_=>(#[]:Array OM))).push (seqObj "tuple" V.toArray 0)).push (seqObj "list" #[] 0) }/\failedOf V0=Qn/\(arrOf V0).map (·.2)=(((DL.VA zs).map (·.2)).map OY).toArray)
   (G:=λp s'=>s'={ s with heap:=((s.heap.update a (Obj.mapSeq λ_=>(#[]:Array OM))).push (seqObj "tuple" V.toArray 0)).push (seqObj "list" #[] 0) }/\Vv zs.length p/\WH (iN zs) p zs.length) rfl (by lia) (by lia) (λp V0 s' sz ar fl g=>⟨g.1,fl,?_⟩) (by
    rw[lv];refine UK.wp (λi j C hi hj hc=>?_) (λq hq=>⟨rfl,hq⟩) (L3 (HN nd) (by lia));rw[hV];exact N7 nd hu (by rw[hV]at ZI;exact ZI) i j C hi hj (by rw[<-hV];exact hc))) ?_ λ_ _ e=>e)
  .rw[PySem.W.kat_snds rfl ar, <-Fm nd g.2.1 g.2.2,O9,O9];refine congrArg _ (Pb λi hi=>?_);rw[hV];exact uE (QA.mp (g.2.1.mem_iff.mp hi))
  rintro⟨⟨⟩,V0⟩ s' ⟨rfl,nf,q3⟩;dsimp only at nf q3 ⊢;refine OB (seqEpoch_at XH rfl ?_);refine OB (listUpdate_at XH rfl ?_ (QD _) (by
   show((arrOf V0).map (·.2)).size<=_;rw[q3,OV,OI,OI,(DL.Yp zs).length_eq,sizeLine_eq];lia))
  rw[nf];simp only[bne_self_eq_false,PJ,if_false];rw[<-q3]at h;exact OQ h
end
section
variable {A:Qq}
def Nx{o:Obj}{items:Array OM}{R:Ql OM->OJ->Prop}(ho:s.heap.get? p=Qs o)(hc:o.cls=.type "list")(hd:o.data=.seq items n)(hsz:items.size<=O3) (h:∀(h':Xm),(∀b o,s.heap.get? b=Qs o->h'.get? b=Qs o)->s.heap.objs.size<=h'.objs.size->R items.toList {s with heap:=h'}):wpAny (model prog w) A (collect (.ref p)) R E s:=by
 unfold collect;refine OB (wpAny_runValue (codeAny_builtin entry_proto_collect' ?_));rw[Around.under_plainId Ry _];show wpAny _ A.in1 (newList []>>=λl=>again (.builtin "list.__iadd__" ⟨[l,.ref p],[]⟩)) _ _ s;refine OB (wpAny_newObj_type ?_);refine OQ ⟨plainId_quiet QG _,codeAny_builtin entry_list_iadd' ?_⟩;rw[Around.under_plainId QG _];have g0:(s.heap.push {cls:=.type "list",data:=.seq ([]:Ql OM).toArray}).get? s.heap.objs.size=Qs {cls:=.type "list",data:=.seq #[] 0}:=OU _ rfl;have g1:=Rk (Obj.mapSeq (·++items)) g0 rfl;have key:=wpAny_extend_seq (hsz:=hsz) (A:=A) (prog:=prog) (w:=w) (s:={s with heap:=s.heap.push {cls:=.type "list",data:=.seq ([]:Ql OM).toArray}}) (R:=λ(q:Result) (s':OJ)=>∃(h':Xm) (ob:Obj) (m:Nat),q=.ok (.ret (.ref s.heap.objs.size))/\s'={s with heap:=h'}/\ (∀b o,s.heap.get? b=Qs o->h'.get? b=Qs o)/\s.heap.objs.size<=h'.objs.size/\h'.get? s.heap.objs.size=Qs ob/\ob.data=.seq (#[]++items) m)
  s.heap.objs.size p (.ref s.heap.objs.size) 0 (.inl rfl) g0 (OA _ ho) hc hd
  ⟨_,_,_,rfl,rfl,λb o e=>(PD _ _ (QK (OT e))).trans (OA _ e),Q7 (OT g1),g1,rfl⟩
 show wpAny _ A.in1 (Builtin.List.listExtendWith (.ref s.heap.objs.size) (.ref p) (.ref s.heap.objs.size)) _ _ _;have zdk:∀(h':Xm) (ob:Obj) (m:Nat),(∀b o,s.heap.get? b=Qs o->h'.get? b=Qs o)->s.heap.objs.size<=h'.objs.size->h'.get? s.heap.objs.size=Qs ob->ob.data=.seq (#[]++items) m->wpAny (model prog w) A (load s.heap.objs.size>>=λo=>match o.data with
   |Data.seq xs _=>pure xs.toList
   |_=>unsupported "internal:collect") R E {s with heap:=h'}:=λh' ob m hk hz hS d=>by refine OB (wpAny_load hS ?_);rw[d];refine OQ ?_;have:=h h' hk hz;simpa using this
 refine wpAny_mono key (λfin s' y=>?_) λe s' y=>?_
 .cases fin with
  |done f=>obtain⟨h',ob,m,e,rfl,hk,hz',hS',d⟩:=y;cases e;exact zdk h' ob m hk hz' hS' d
  |again c₁=>refine⟨y.1,codeAny_mono y.2 λq s₂ z=>?_⟩;obtain⟨h',ob,m,rfl,rfl,hk,hz',hS',d⟩:=z;exact zdk h' ob m hk hz' hS' d
 .obtain⟨_,_,_,e',_⟩:=y;cases e'
end
end TS
namespace L2
open PySem.Spec TS
def AS:∀out:Ql Xl,Vals (out.map V.ref) (out.map OY)
 |[]=>.nil
 |a::out=>.cons rfl (AS out)
def z5:∀{bs:Ql Xl}{us:Ql OM},Vals (bs.map V.ref) us->us=bs.map OY
 |[],_,.nil=>rfl
 |b::bs,_,.cons h r=>by cases h;rw[z5 r];rfl
def zM(K:Ou)(H:Hp)(b:Xl)(is:Ql Int):Prop:=∃l v,H b=Qs (.tup [.ref l,v])/\TZ K H l (is.map V.int)
def Lj (I:Inv X pins σ H s){b:Xl}(h:zM X.K H b is):WY s.heap b is:=by
 obtain⟨l,v,hb,hl⟩:=h;obtain⟨_,TH,rv,o,e,c,d⟩:=(show U5 X.prog X.w H s.heap b (.tup [.ref l,v]) from I.TY b _ hb);obtain⟨zfi,rv2,pl,_⟩:=I.list hl;cases rv with
 |cons r1 rv=>
  cases rv with
  |cons r2 rv=>cases rv;cases r1;obtain⟨n,d⟩:=d;exact⟨o,l,_,n,e,c,d,zfi,DL.PlainL.VE pl,tL rv2⟩
def WY.keep{b:Xl}(x:WY h b is)(k:∀c o,h.get? c=Qs o->h'.get? c=Qs o):WY h' b is:=by obtain⟨o,l,v,m,e,c,d,TH,⟨o2,e2,c2⟩,ia⟩:=x;exact⟨o,l,v,m,k b o e,c,d,TH,⟨o2,k l o2 e2,c2⟩,ia⟩
def NI(hu:X.A.units+64<cLine)(hc:X.calm=Qt):gc X (.builtin "sorted") (λxs H Q=>∃(p:Xl) (zs:Ql (Ql Int×Xl)),xs=[.ref p]/\TZ X.K H p ((zs.map (·.2)).map V.ref)/\zs.length<64/\(∀z∈zs,zM X.K H z.2 z.1)/\(zs.map (·.1)).Nodup/\∀l,H l=Qn->Q (.ref l) (upd H l (.lst (((DL.VA zs).map (·.2)).map V.ref)))):=by
 intro pins s σ H xs us Q I r h;obtain⟨p,zs,rfl,hp,hb,hm,hd,q⟩:=h;obtain⟨u,rfl,ru⟩:=j3 r;cases ru;obtain⟨TH,rv,pl,_⟩:=I.list hp;have ei:=z5 rv;subst ei;have lz:((zs.map (·.2)).map OY).length=zs.length:=by simp
 have lo:((DL.VA zs).map (·.2)).length<64:=by rw[OI,(DL.Yp zs).length_eq];exact hb
 refine Aw (P:=λus=>us=(zs.map (·.2)).map OY) (args_sorted1 _) (λ_=>args_list_sort _) (λR hR=>?_) (λh' tk us hk hz hu' hlen=>?_)
 .obtain⟨o,e,c,n,d⟩:=DL.PlainL.VE pl;refine Nx e c d (by rw[OV,lz,sizeLine_eq];lia) (λh' hk hz=>?_);have:=hR h' s.toks ((zs.map (·.2)).map OY) hk hz rfl (by lia);simpa using this
 .subst hu';refine LB (s:={s with heap:=h'.push (seqObj "list" ((zs.map (·.2)).map OY).toArray 0),toks:=tk}) (OU _ rfl) (λb m=>WY.keep (Lj I (hm b m)) λc o z=>OA _ (hk c o z)) hd (by show X.A.units+1+1+2<cLine;lia) hb ⟨rfl,?_⟩;have fr:s.heap.objs.size<=h'.objs.size:=hz;obtain⟨out,ho⟩:∃out,out=(DL.VA zs).map (·.2):=⟨_,rfl⟩;rw[<-ho]at lo ⊢;have g0:(h'.push (seqObj "list" ((zs.map (·.2)).map OY).toArray 0)).get? h'.objs.size=Qs (seqObj "list" ((zs.map (·.2)).map OY).toArray 0):=OU _ rfl;obtain⟨e1,g1⟩:∃e1,((h'.push (seqObj "list" ((zs.map (·.2)).map OY).toArray 0)).update h'.objs.size (Obj.mapSeq λ_=>(#[]:Array OM))).get? h'.objs.size=Qs (seqObj "list" #[] e1):=⟨_,get?_update_seq g0 λ_=>#[]⟩;obtain⟨k,g2⟩:∃k,(sortedHeap (h'.push (seqObj "list" ((zs.map (·.2)).map OY).toArray 0)) h'.objs.size ((zs.map (·.2)).map OY) (out.map OY).toArray).get? h'.objs.size=Qs (seqObj "list" (out.map OY).toArray k):=⟨_,get?_update_seq (OA _ (OA _ g1)) λ_=>(out.map OY).toArray⟩;refine⟨.ref _,_,I.laid (o:=HO.lst (out.map V.ref)) (λb o e=>?_) fr ⟨?_,out.map OY,k,AS out,by simpa[seqObj] using g2⟩,rfl,ho▸q _ (I.TY.fresh fr)⟩
  .have e2:=hk b o e;have nb:h'.objs.size≠b:=QK (OT e2);unfold sortedHeap;exact(PD _ _ nb).trans (OA _ (OA _ ((PD _ _ nb).trans (OA _ e2))))
  .refine DL.W4 ?_;rw[OI];lia
end L2
namespace DL
open PySem.Spec L2 TS
def TL.perm{ps qs:Ql (D×V)}(p:ps.Perm qs):∀{C:Ql Xl},TL K H0 H (ps.map (·.1)) (ps.map (·.2)) C->∃C',C'.Perm C/\TL K H0 H (qs.map (·.1)) (qs.map (·.2)) C':=by
 induction p with
 |nil=>intro C h;exact⟨C,QC _,h⟩
 |@cons x l1 l2 _ ih=>
  intro C h;cases h with
  |cons a r=>obtain⟨C',p',r'⟩:=ih r;exact⟨_,p'.append_left _,.cons a r'⟩
 |@swap x y l=>
  intro C h;cases h with
  |cons a r=>
   cases r with
   |cons b r=>refine⟨_,?_,.cons b (.cons a r)⟩;rw[<-Pm,<-Pm];exact List.perm_append_comm.append_right _
 |trans _ _ ih1 ih2=>intro C h;obtain⟨C1,p1,r1⟩:=ih1 h;obtain⟨C2,p2,r2⟩:=ih2 r1;exact⟨C2,p2.trans p1,r2⟩
def mP:D->Qo (Ql Int)
 |.tup [.lst xs,_]=>dW xs
 |_=>Qn
def jB:Ql D->Qo (Ql (Ql Int×D))
 |[]=>Qs []
 |d::ds=>(mP d).bind λk=>(jB ds).map λr=>(k,d)::r
def mf:Ql (Ql Int×D)->Bool
 |[]=>Qt
 |x::xs=>xs.all (λy=>decide (y.1≠x.1))&&mf xs
def tw:Ql Ev->Qo Ev:=λrs=>match rs with
 |[.dn (.lst ds)]=>(jB ds).bind λks=>if mf ks&&decide (ks.length<64) then Qs (.dn (.lst ((VA ks).map (·.2)))) else Qn
 |_=>Qn
def Cb:∀{ds:Ql D}{ks:Ql (Ql Int×D)},jB ds=Qs ks->ds=ks.map (·.2)/\∀x∈ks,mP x.2=Qs x.1
 |[],ks,e=>by cases e;exact⟨rfl,λx hx=>nomatch hx⟩
 |d::ds,ks,e=>by
  simp only[jB]at e;rcases e1:mP d with _|k
  .rw[e1]at e;cases e
  rw[e1]at e;simp only[Oz]at e;rcases e2:jB ds with _|r
  .rw[e2]at e;cases e
  rw[e2]at e;cases e;obtain⟨a,b⟩:=Cb e2;refine⟨by rw[a];rfl,λx hx=>?_⟩;rcases OC.mp hx with z|z
  .rw[z];exact e1
  .exact b x z
def z9:∀{ks:Ql (Ql Int×D)},mf ks=Qt->(ks.map (·.1)).Nodup
 |[],_=>Pl
 |x::xs,h=>by
  simp only[mf,OH,PF,UX]at h;exact OO.mpr ⟨λm=>by
   obtain⟨y,hy,e⟩:=O2.mp m;exact h.1 y hy e,z9 h.2⟩
def B9{K:Ou}{H0 H:Hp}(hs:Tj H0 H):∀{ks:Ql (Ql Int×D)}{vs:Ql V}{C:Ql Xl},TL K H0 H (ks.map (·.2)) vs C->(∀x∈ks,mP x.2=Qs x.1)->∃zs:Ql (Ql Int×(D×Xl)),ks=zs.map (λz=>(z.1,z.2.1))/\vs=zs.map (λz=>V.ref z.2.2)/\∀z∈zs,zM K H z.2.2 z.1
 |[],_,_,.nil,_=>⟨[],rfl,rfl,λz hz=>nomatch hz⟩
 |k::ks,_,_,.cons (v:=v) h r,hk=>by
  obtain⟨zs,e1,e2,e3⟩:=B9 hs r λx hx=>hk x (Ov _ hx);have ek:=hk k (Ox ..);obtain⟨kk,d⟩:=k;have ek:mP d=Qs kk:=ek;have h:T6 K H0 H d v _:=h;unfold mP at ek;split at ek
  case h_2=>cases ek
  rename_i xs w;have ei:=lG ek;subst ei;cases h with
  |flat f _=>simp[flat,Ui]at f
  |@tup _ p us _ h1 h2=>
   cases h2 with
   |@cons _ v1 _ vs1 B1 C1 a1 a2=>
    cases a2 with
    |@cons _ v2 _ Zk B2 C2 b1 b2=>
     cases b2;cases a1 with
     |flat f _=>simp[flat]at f
     |@lst _ l us2 Cl c1 c2=>
      have eu:=iO (TL.fl c2 (UW _)).1;subst eu;refine⟨(kk,(_,p))::zs,by rw[e1];rfl,by rw[e2];rfl,λz hz=>?_⟩;rcases OC.mp hz with q|q
      .subst q;exact⟨l,v2,hs _ _ h1,TZ.of c1⟩
      .exact e3 z q
def NB(hu:X.A.units+64<cLine)(hc:X.calm=Qt):Vt X F (.builtin "sorted") tw:=Vt.of (NI hu hc) λH0 H A xs rs e Q m g q ek hq=>by
 unfold tw at ek;split at ek
 case h_2=>cases ek
 rename_i ds;cases q with
 |cons q1 q2=>
  cases q2;rcases e1:jB ds with _|ks
  .rw[e1]at ek;cases ek
  rw[e1]at ek;simp only[Oz]at ek;replace ek:=Ve ek;obtain⟨ok,ek⟩:=ek;simp only[OH,UX]at ok;cases ek;obtain⟨eds,emk⟩:=Cb e1;subst eds;obtain⟨B,nb,fr,rd⟩:=q1;cases rd with
  |flat f _=>simp[flat]at f
  |@lst _ p vs C hp r=>
   obtain⟨zs,z1,z2,z3⟩:=B9 (aZ _ _) r emk;have nk:=z9 ok.1;subst z1 z2;refine⟨p,zs.map λz=>(z.1,z.2.2),rfl,TZ.of (by rw[O9,O9];exact hp),by simpa using ok.2,λz hz=>?_,by rw[O9]at nk ⊢;exact nk,λl hl=>?_⟩
   .obtain⟨y,hy,rfl⟩:=O2.mp hz;exact z3 y hy
   .rw[n8 (λz:D×Xl=>z.2)];rw[n8 (λz:D×Xl=>z.1)]at hq;have pz:=Yp zs;generalize VA zs=zs2 at*
    have q1:∀Z:Ql (Ql Int×(D×Xl)),(Z.map λz=>(z.2.1,V.ref z.2.2)).map (·.1)=(Z.map λz=>(z.1,z.2.1)).map (·.2):=λZ=>by rw[O9,O9];rfl
    have q2:∀Z:Ql (Ql Int×(D×Xl)),(Z.map λz=>(z.2.1,V.ref z.2.2)).map (·.2)=((Z.map λz=>(z.1,z.2.2)).map (·.2)).map V.ref:=λZ=>by rw[O9,O9,O9];rfl
    have q3:∀Z:Ql (Ql Int×(D×Xl)),(Z.map λz=>V.ref z.2.2)=(Z.map λz=>(z.2.1,V.ref z.2.2)).map (·.2):=λZ=>by rw[O9];rfl
    rw[<-q1,q3]at r;obtain⟨C',pC,r2⟩:=TL.perm ((pz.map λz=>(z.2.1,V.ref z.2.2)).symm) r;rw[q1,q2]at r2;have nC:=OO.mp nb;have al:∀b∈C',H b≠Qn:=λb hb z=>by obtain⟨o,w⟩:=r2.lists b hb;rw[z]at w;cases w
    have hlC:l∉C':=λz=>al l z hl;have S:Tj (ah ((p::C)++(A++F)) H) (ah ((l::C')++(A++F)) (L2.upd H l (.lst (((zs2.map λz=>(z.1,z.2.2)).map (·.2)).map V.ref)))):=λb o h=>by
     obtain⟨n,h⟩:=cN h;have bl:b≠l:=λz=>by rw[z,hl]at h;cases h
     refine bA (by rw[aS bl];exact h) λz=>?_;rcases Ow.mp z with z|z
     .rcases OC.mp z with z|z
      .exact bl z
      .exact n (Ot _ (Ov _ (pC.mem_iff.mp z)))
     .exact n (Oq _ z)
    have kp:∀b∈C',∀o,H b=Qs o->L2.upd H l (.lst (((zs2.map λz=>(z.1,z.2.2)).map (·.2)).map V.ref)) b=Qs o:=λb hb o h=>by rw[aS (show b≠l from λz=>hlC (z▸hb))];exact h
    refine hq _ _ (dX hl) ⟨l::C',OO.mpr ⟨hlC,pC.nodup_iff.mpr nC.2⟩,λb hb=>?_,.lst bB (TL.mono S r2 kp)⟩;rcases OC.mp hb with z|z
    .rw[z];exact Tj.free g hl
    .exact fr b (Ov _ (pC.mem_iff.mp z))
open PySem.Spec L2
def jA(st:Xo)(k:Nat):Xo:=match st with
 |.ClassDef _ _ _ body _ _ _ _ _ _ _=>body.getD k (.Pass ⟨0,0,0,0⟩)
 |_=>.Pass ⟨0,0,0,0⟩
inductive Hm(K:Ou)(C:Xl)(x qual:Str)(st:Xo)(f:Xl):Prop where
 |mk {oc:OM}{od an:Option Xl}{W0:Array (Option OM)}{kV doc pm T9 ct:OM} (a:PU K (.ref C) x=Qs (Qs (.ref f))) (n:SE K (.ref f)=Qt) (l:K.lookup f=Qs ⟨oc,od,.func (PY x qual (gJ st) (eQ st) (aY st) .none kV doc pm an T9 ct),W0⟩) (c:Rn K T9 qual=Qt) (k:PV K (.ref f)=Qt):Hm K C x qual st f
def Hm.fn{f:Xl}(h:Hm K C x qual st f):∃fd,L2.UB K x qual st f fd:=by
 cases h with
 |mk a n l c k=>exact⟨_,DK l c k⟩
def Hm.Xp{f:Xl}(h:Hm K C x qual st f):Meth K C x f:=by
 cases h with
 |mk a n l c k=>exact⟨a,n,k⟩
def Hm.mk_{f:Xl}(h:Hm K C "__init__" qual st f)(m:RD K C=Qt)(k:PV K (.ref C)=Qt):Mk K C f:=by
 cases h with
 |mk a n l c k'=>exact⟨m,a,n,k⟩
structure Hc(K:Ou)(x:Str)(C:Xl):Prop where
 a:Qb K mainGlobals x=Qs (Qs (.ref C))
 c1:Q2 K C Str.empty=Qt
 c2:Rc K C=Qt
 c3:RV K C=Qt
 c4:PU K (.ref C) "__setattr__"=Qs (Qs (.builtin "object.__setattr__"))
 k1:RD K C=Qt
 k2:PV K (.ref C)=Qt
def Hc.cls (h:Hc K x C):UL K C:=⟨h.c1,h.c2,h.c3,h.c4⟩
def Hc.mg{K:Ou}{x:Str}{C:Xl}{hp:Xm}{mg:Str->Qo OM}(h:Hc K x C)(X:K.In hp)(G:hp.Ns mainGlobals mg):mg x=Qs (.ref C):=Uy X G h.a
section
variable {J:Ql Nat}
def Jb(h:PS X st (dP X.K F J g))(s:∀i∈I,i∈J:=by decide):PS X st (dP X.K F I g):=by refine PS.imp h ?_;rintro E σ H ⟨A,t,t',R,e,k⟩;exact⟨A,t,t',R,e,λσ' H' A' gr R' p=>k σ' H' A' gr R' λi hi=>p i (s i hi)⟩
def lQ(i:Nat)(g:DS):DS:=λt=>match t[i]? with
 |some (.dp (.Uk ks ds))=>pG i g t
 |some (.val (.T4 _))=>g t
 |_=>Qn
def II{g:DS}{st:Xo}(i:Nat)(h:PS X st (dS X.K F g)):PS X st (dS X.K F (lQ i g)):=by
 intro pins s σ H D I q;obtain⟨A,t,o,R,e,p⟩:=kG q;unfold lQ at e;split at e
 .exact IJ i h pins s σ H D I (kH R e p)
 .exact h pins s σ H D I (kH R e p)
 .cases e
def lL(f:DE):DT:=λt=>(f t).bind λr=>match r.d with
 |.T4 ks=>Qs (!ks.isEmpty)
 |.Uk ks _=>Qs (!ks.isEmpty)
 |_=>Qn
def Iw(ha:PE X a (dE X.K F fa))(he:∀whole,isTrue a X.env whole=(do let v<-whole;standAt a.pos;holding [v] (truthy v)):=by intro _;rfl):PT X a (dT X.K F (lL fa)):=by
 rintro pins s σ H Q I ⟨A,t,k,R,e,h⟩;unfold lL at e;rcases e1:fa t with _|r
 .rw[e1]at e;cases e
 rw[e1]at e;simp only[Oz]at e;split at e
 .rename_i ks z;exact Iv ha he pins s σ H Q I ⟨A,t,k,R,by unfold yV;rw[e1];simp only[Oz,z];exact e,h⟩
 .rename_i ks ds z;exact sh ha he pins s σ H Q I ⟨A,t,k,R,by unfold iZ;rw[e1];simp only[Oz,z];exact e,h⟩
 .cases e
def lM(g:l5):DE:=λt=>(g t).bind λq=>if q.1.length<=1000&&q.2.isEmpty then Qs (.dn (.tup q.1)) else Qn
def Jy{fns:l5}{x1}(h:PA X es (dNs X.K F fns)):PE X (.Tuple es x1 pos) (dE X.K F (lM fns)):=by
 refine PE.imp (wG h) ?_;rintro σ H Q ⟨A,t,r,R,e,h⟩;unfold lM at e;rcases e1:fns t with _|q
 .rw[e1]at e;cases e
 obtain⟨ds,I⟩:=q;rw[e1]at e;simp only[Oz]at e;refine bW e λok e=>?_;cases e;simp only[OH,UX,List.isEmpty_iff]at ok;obtain⟨hl,rfl⟩:=ok;refine⟨A,t,ds,[],R,e1,λvs H1 B g1 n1 f1 r1=>⟨by rw[r1.length];exact W4 (by lia),λp hp=>?_⟩⟩;have s1:=dX (o:=HO.tup vs) hp;have np:p∉B:=eM r1.lists hp;have mu2:Ul H1 (A++F):=(R.mu).mono g1;have nq:p∉A++F:=eM mu2 hp;refine h _ _ (g1.trans s1) ⟨B,n1,λb hb=>?_,.tup (UA.of (bA bB λz=>(Ow.mp z).elim np nq)) (TL.mono (cY s1) r1 λb hb o w=>s1 _ _ w)⟩;rcases f1 b hb with w|⟨i,hi,_⟩
 .exact w
 .cases hi
def BV{g1 g2:DS}(h1:kL g1)(h2:kL g2):kL (aF g1 g2):=λt o e=>by unfold aF at e;refine aB e λo1 e1 e=>?_;obtain⟨t1,rfl⟩:=h1 t o1 e1;exact h2 t1 o e
def BW{k:Int->Int->Int}:kL (i9 k i C f fa fb):=λt o e=>by unfold i9 at e;refine aB e λr1 e1 e=>?_;refine aB e λr2 e2 e=>?_;obtain⟨_,_,_,_,_,_,_,_,_,_,_,h⟩:=tE (show gT t i C f (tF k r1 r2)=Qs o from e);exact⟨_,h⟩
def K6{a k s:Nat}{f1 f2:Str}:kL (lO i a k s C f1 f2):=λt o e=>by
 refine aB e λq _ e=>?_;refine aB e λn _ e=>?_;refine aB e λm _ e=>?_;refine bW e λ_ e=>?_;refine aB e λj1 _ e=>?_;refine aB e λj2 _ e=>?_;refine aB e λrows _ e=>?_;refine aB e λYG _ e=>?_;refine aB e λxs _ e=>?_;refine aB e λzs _ e=>?_;refine aB e λZj _ e=>?_;refine bW e λ_ e=>?_;refine aB e λus _ e=>?_;unfold xR at e;split at e
 .cases e;exact⟨_,rfl⟩
 .obtain⟨t',_,rfl⟩:=Q9.mp e;exact⟨t',rfl⟩
end
def Lu(r:Xl)(a b:Int)(t u v:Tok)(i:Int)(ti:Tok):Meets (Builtin.«range.__contains__» ⟨[.ref r,.int i ti],[]⟩) (λ_ R s=>s.heap.get? r=Qs {cls:=.type "range",dict:=Qn,data:=.fields #[.int a t,.int b u,.int 1 v],slots:=#[]}/\R (.ok (.ret (.bool (Builtin.Range.rangePlace? a b 1 i).isSome))) s):=.of_wp λprog w A R s h=>by obtain⟨hp,g,d,tk,os⟩:=s;obtain⟨hl,h⟩:=h;wp_walk;exact⟨_,rfl,h⟩
def Jp(a b i:Int):(Builtin.Range.rangePlace? a b 1 i).isSome=decide (a<=i/\i<b):=by
 unfold Builtin.Range.rangePlace?;by_cases h:a<=i/\i<b
 .simp[h]
 .rw[UJ h];by_cases h1:a<=i
  .have h2:¬i<b:=λz=>h ⟨h1,z⟩;simp[h1,h2]
  .simp[h1]
def K9{A:Qq}{Q:OM->OJ->Prop}{r:Xl}{a b:Int}{t u v:Tok}{i:Int}{ti:Tok}(hr:IsRange s.heap r a b 1 t u v)(h:Q (.bool (!decide (a<=i/\i<b))) s):wpAny (model prog w) A (compareOp .NotIn (.int i ti) (.ref r)) Q E s:=by
 have hT:s.TypeIs (.ref r) "range":=⟨_,hr,rfl⟩;show wpAny _ _ (do return .bool (!(<-contains (.ref r) (.int i ti)))) Q E s;refine OB ?_;unfold contains
 try with_reducible refine wpAny_holding ?_
 refine OB (wpAny_specialOf hT PySem.F.slot_range_contains.lookup ?_);show wpAny _ _ (if(Qs (Value.builtin "range.__contains__")==Qs QS)=Qt then _ else _) _ E s;rw[Tr (by rw[beq_builtin_none];exact OD)];refine OB (wpAny_callSpecialUnlessNone?_slot (name:=Str.ofString "__contains__") hT Rz (call_meets Rz hT PySem.F.entry_range_contains (PySem.F.args_range_contains_2 _ _) (Lu r a b t u v i ti) ⟨hr,?_⟩))
 rw[Jp];exact wpAny_truthy_bool (OQ h)
def kj:Ev->Ev->Qo Ev:=λr1 r2=>match r1.d,r2.d with
 |.int i,.int n=>if dk n then Qs (.cl (.bl (!decide (0<=i/\i<n)))) else Qn
 |_,_=>Qn
def Iy (XM:Gl X "range")(hm:X.mg "range"=Qn)(ha:PE X a (dE X.K F fa))(hb:PE X b (dE X.K F fb))(hs:OP [b] X.env=[(Qf,eval b X.env)]:=by rfl) (hmk:behindInMarks .NotIn (.Call (.Name "range" p1) [b] [] p2)=Qf:=by first|exact wV _|(with_unfolding_all rfl)):PT X (.Compare a [.NotIn] [.Call (.Name "range" p1) [b] [] p2] pos) (dT X.K F (aC (d2 kj fa fb))):=by
 intro pins s σ H Q I h;obtain⟨A,t,b',R,e,h⟩:=h;unfold aC at e;refine aB e λr0 e1 e=>?_;have w0:dE X.K F (d2 kj fa fb) σ H (λz H'=>Tj H H'/\Rep X.K H' r0.d z):=⟨A,t,r0,R,e1,λv H' g q=>⟨g,q.full⟩⟩;obtain⟨A2,t2,r1,r2,r,R2,ZY,Zf,e3,h3,w⟩:=two w0;refine wpAny_isTrue_Compare1 (aE (ha pins s σ H _ I w) λv s1 ⟨x,H1,I1,rx,q1⟩=>?_) hmk;have q1':Ai (dE X.K F fb) uQ σ H1 (λvs H2=>∃y,vs=[y]/\Tj H H2/\T8 X.K F A2 H H2 r1 x/\T8 X.K F A2 H H2 r2 y):=by obtain⟨A3,t3,r3,R3,e4,h4⟩:=q1;exact⟨A3,t3,r3,R3,e4,λv H' g q=>⟨v,rfl,h4 v H' g q⟩⟩
 refine Call_ (iR I1 XM hm boot_range (PyProof.Rows.callWith_type1 (aE (gm hb gF hs p2 pins s1 σ H1 _ I1 q1') λus s2 ⟨vs,H2,I2,ry,q2⟩=>?_) hs rfl));obtain⟨y,rfl,g,qa,qb⟩:=q2;unfold kj at e3;split at e3
 case h_2=>cases e3
 rename_i i n z1 z2;refine bW e3 λok e3=>?_;cases e3;have pa:=qa.full;have pb:=qb.full;rw[z1]at pa;rw[z2]at pb;cases cI pa;cases cI pb;obtain⟨ti,rfl⟩:=rx;cases ry with
 |cons ry rr=>
  cases rr;obtain⟨tn,rfl⟩:=ry;refine call_range_1 (K9 (IsRange.new ..) ?_);obtain⟨_,q3⟩:=h3 (.bl (!decide (0<=i/\i<n))) H2 g (.bl _);have e:(match r0.d with|.bl b=>Qs b|_=>Qn)=Qs b':=e;split at e
  .rename_i b2 zz;cases e;rw[zz]at q3;cases q3;refine wpAny_truthy_bool ⟨H2,I2.kept λb o e=>OA _ e,h H2 g⟩
  .cases e
end DL
namespace L2
open PySem.Spec TS
def Dg:∀{us:Ql OM}{ns:Ql Int},us.length=ns.length->(∀(j:Nat) (v:OM),us[j]?=Qs v->∃n t,ns[j]?=Qs n/\v=SU n t)->IntsAre us ns
 |[],[],_,_=>.nil
 |[],_::_,h,_=>by simp at h
 |_::_,[],h,_=>by simp at h
 |u::us,n::ns,h,k=>by obtain⟨m,t,e1,e2⟩:=k 0 u rfl;cases e1;rw[e2];exact .cons n t (Dg (by simpa using h) λj v e=>by simpa using k (j+1) v (by simpa using e))
def CM:∀{kvs:Ql (aD×V)}{vs:Ql (aD×OM)},KV kvs vs->vs.map (·.1)=kvs.map (·.1)
 |_,_,.nil=>rfl
 |_,_,.cons k q=>by rw[OF,OF,CM q,k.1]
section
variable {A:Qq}
def Ny{r d:Xl}{P:Nat->OM->Prop}{OK:Xm->Prop}{R:Ql OM->OJ->Prop}(K:PySem.W.KdlSrc prog w T r d n P OK)(hh:A.handled=Qn)(TY:OK s.heap)(hn:n<=O3) (h:∀(h':Xm) (tk:Nat) (acc:Array OM),(∀b o,s.heap.get? b=Qs o->h'.get? b=Qs o)->s.heap.objs.size<=h'.objs.size->ItemsOf P acc n->R acc.toList {s with heap:=h',toks:=tk}):wpAny (model prog w) A (collect (.ref r)) R E s:=by
 have lt:=K.there _ TY;unfold collect;refine OB (wpAny_runValue (codeAny_builtin entry_proto_collect' ?_));rw[Around.under_plainId Ry _];show wpAny _ A.in1 (newList []>>=λl=>again (.builtin "list.__iadd__" ⟨[l,.ref r],[]⟩)) _ _ s;refine OB (wpAny_newObj_type ?_);refine OQ ⟨plainId_quiet QG _,codeAny_builtin entry_list_iadd' ?_⟩;rw[Around.under_plainId QG _];show wpAny _ A.in1 (Builtin.List.listExtendWith (.ref s.heap.objs.size) (.ref r) (.ref s.heap.objs.size)) _ _ _;have fin:∀(h':Xm) (tk:Nat) (acc:Array OM) (c:Nat),(∀b o,s.heap.get? b=Qs o->h'.get? b=Qs o)->h'.get? s.heap.objs.size=Qs {cls:=.type "list",dict:=Qn,data:=.seq acc c,slots:=#[]}->ItemsOf P acc n->wpAny (model prog w) A (load s.heap.objs.size>>=λo=>match o.data with
   |Data.seq xs _=>pure xs.toList
   |_=>unsupported "internal:collect") R E {s with heap:=h',toks:=tk}:=λh' tk acc c hk hS it=>OB (wpAny_load hS (OQ (h h' tk acc hk (Q7 (OT hS)) it)))
 refine wpAny_mono (PySem.W.kdl_extend (A:=A) (s:={s with heap:=s.heap.push {cls:=.type "list",data:=.seq ([]:Ql OM).toArray}}) (R:=λ(q:Result) (s':OJ)=>∃(h':Xm) (tk:Nat) (acc:Array OM) (c:Nat),q=.ok (.ret (.ref s.heap.objs.size))/\s'={s with heap:=h',toks:=tk}/\ (∀b o,s.heap.get? b=Qs o->h'.get? b=Qs o)/\h'.get? s.heap.objs.size=Qs {cls:=.type "list",dict:=Qn,data:=.seq acc c,slots:=#[]}/\ItemsOf P acc n)
  K hh (K.keep _ _ TY λb _ o e=>OA _ e) s.heap.objs.size (QK lt.1) (QK lt.2) (.ref s.heap.objs.size) 0 (OU _ rfl) (λh' tk acc c hk hS it=>⟨h',tk,acc,c,rfl,rfl,λb o e=>hk b o (Ph (OT e)) (OA _ e),hS,it⟩) hn) (λfi s' x=>?_) λe s' x=>?_
 .cases fi with
  |done f=>obtain⟨h',tk,acc,c,e,rfl,x⟩:=x;cases e;exact fin h' tk acc c x.1 x.2.1 x.2.2
  |again c₁=>refine⟨x.1,codeAny_mono x.2 λq s₂ y=>?_⟩;obtain⟨h',tk,acc,c,rfl,rfl,x⟩:=y;exact fin h' tk acc c x.1 x.2.1 x.2.2
 .obtain⟨_,_,_,_,e',_⟩:=x;cases e'
end
def NK(hc:X.calm=Qt):gc X (.builtin "sorted") (λxs H Q=>∃(p:Xl) (kvs:Ql (aD×V)) (ns:Ql Int),xs=[V.ref p]/\H p=Qs (.dK kvs)/\kvs.map (·.1)=ns.map Sum.inl/\ns.length<64/\∀l,H l=Qn->Q (.ref l) (upd H l (.lst ((DL.U6 ns).map V.int)))):=by
 intro pins s σ H xs us Q I r h;obtain⟨p,kvs,ns,rfl,hd,en,h64,q⟩:=h;obtain⟨u,rfl,rx⟩:=j3 r;cases rx;obtain⟨hz,lo,vs,kv,hD⟩:=yT I.TY hd;obtain⟨o,es,ep,ho,hx,hdd,hk0,hp0,nd⟩:=hD;have ek:=(CM kv).trans en;have ln:vs.length=ns.length:=by simpa using congrArg List.length ek
 refine Aw (P:=λus=>IntsAre us ns) (args_sorted1 _) (λ_=>args_list_sort _) (λR hR=>?_) (λh' tk Zl hk hz hi hlen=>?_)
 .refine Ny (PySem.W.kdl_dict (knd:=dO X.prog X.w) (kvs:=vs) (ep:=ep) lo) (I.ok.hd hc) ⟨o,es,ho,hx,hdd,hk0,hp0,nd⟩ (by rw[sizeLine_eq];lia) λh' tk acc hk sz it=>hR h' tk acc.toList hk sz (Dg (by rw[RB,it.1,ln]) λj v e=>?_) (by rw[RB,it.1];lia);obtain⟨k,x,e1,e2⟩:=it.2 j v (by simpa using e);have e3:(vs.map (·.1))[j]?=Qs k:=by rw[O1,e1];rfl
  rw[ek,O1]at e3;obtain⟨n,e4,rfl⟩:=Q9.mp e3;have e2:jD (Sum.inl n) v=Qt:=e2;rcases il e2 with⟨i,t,e5,e6⟩|⟨y,t,e5,e6⟩
  .cases e5;exact⟨n,t,e4,e6⟩
  .cases e5
 .refine list_sort_tree (OU _ rfl) hi (by have:=hi.length;lia) λout ns' ho ZM hs'=>⟨rfl,?_⟩;have g0:(h'.push (seqObj "list" Zl.toArray 0)).get? h'.objs.size=Qs (seqObj "list" Zl.toArray 0):=OU _ rfl;obtain⟨e1,g1⟩:∃e1,((h'.push (seqObj "list" Zl.toArray 0)).update h'.objs.size (Obj.mapSeq λ_=>(#[]:Array OM))).get? h'.objs.size=Qs (seqObj "list" #[] e1):=⟨_,get?_update_seq g0 λ_=>#[]⟩;obtain⟨k,g2⟩:∃k,(sortedHeap (h'.push (seqObj "list" Zl.toArray 0)) h'.objs.size Zl out).get? h'.objs.size=Qs (seqObj "list" out k):=⟨_,get?_update_seq (OA _ (OA _ g1)) λ_=>out⟩;have en:ns'=DL.U6 ns:=DL.zaK (ZM.trans (DL.Xk ns).symm) hs' (DL.zaj ns);subst en;refine⟨.ref _,_,I.laid (o:=HO.lst ((DL.U6 ns).map V.int)) (λb o e=>?_) hz ⟨?_,out.toList,k,qZ ho,by simpa[seqObj] using g2⟩,rfl,q _ (I.TY.fresh hz)⟩
  .have e2:=hk b o e;have nb:h'.objs.size≠b:=QK (OT e2);unfold sortedHeap;exact(PD _ _ nb).trans (OA _ (OA _ ((PD _ _ nb).trans (OA _ e2))))
  .refine DL.W4 ?_;rw[OI,(DL.Xk _).length_eq];lia
end L2
namespace DL
open PySem.Spec L2
def kn:Ql aD->Qo (Ql Int)
 |[]=>Qs []
 |.inl i::ks=>(kn ks).map (i::·)
 |.inr _::_=>Qn
def C3:∀{ks:Ql aD}{ns:Ql Int},kn ks=Qs ns->ks=ns.map Sum.inl
 |[],ns,e=>by cases e;rfl
 |.inl i::ks,ns,e=>by
  unfold kn at e;cases h:kn ks with
  |none=>rw[h]at e;cases e
  |some ms=>rw[h]at e;cases e;rw[OF,C3 h]
 |.inr _::_,ns,e=>by cases e
def CV:∀{ks:Ql aD}{vs:Ql V},ks.length=vs.length->(cU ks vs).map (·.1)=ks
 |[],[],_=>rfl
 |[],_::_,h=>by simp at h
 |_::_,[],h=>by simp at h
 |k::ks,v::vs,h=>by have:=CV (ks:=ks) (vs:=vs) (by simpa using h);unfold cU at this ⊢;simpa using this
def oN:Ql Ev->Qo Ev:=λrs=>match rs with
 |[r]=>(match r.d with
  |.Uk ks _=>(kn ks).bind λns=>if ns.length<64 then Qs (.nw ((U6 ns).map D.int)) else Qn
  |_=>Qn)
 |_=>Qn
def NC(hc:X.calm=Qt):Vt X F (.builtin "sorted") oN:=Vt.of (NK hc) λH0 H A xs rs e Q m g q ek hq=>by
 unfold oN at ek;split at ek
 case h_2=>cases ek
 rename_i r;split at ek
 case h_2=>cases ek
 rename_i ks ds z;refine aB ek λns e1 ek=>?_;refine bW ek λh64 ek=>?_;cases ek;cases q with
 |cons q1 q2=>
  cases q2;have p:=q1.full;rw[z]at p;cases p with
  |@Uk _ _ p vs l h1 h2=>refine⟨p,_,ns,rfl,h1,by rw[CV l];exact C3 e1,h64,λa ha=>hq _ _ (dX ha) ⟨a,_,rfl,Tj.free g ha,bB,?_⟩⟩;exact Ts.ints _
def bN(hN:X.N.Nodup)(i:Nat)(hi:X.N[i]?=Qs x:=by rfl)(hx:Loc X.env.scope x:=by exact fI rfl)(hf:X.fn x=Qt\/X.env.scope.names.lookup x=Qs .local:=by first|exact .inl rfl|exact .inr rfl|assumption):PG X (.Name x pos) (jI i):=gB hN hi hx hf
def cu(hN:X.N.Nodup)(i:Nat)(he:PE X a (dE X.K F fa))(hi:X.N[i]?=Qs x:=by rfl)(hx:Loc X.env.scope x:=by exact fI rfl)(hs:swapsWith a (Qs (.Name x pos')) pos.line X.env=pure Qf:=by rfl)(hf:X.fn x=Qt\/X.env.scope.names.lookup x=Qs .local:=by first|exact .inl rfl|exact .inr rfl|assumption):PS X (.Assign [.Name x pos'] a pos) (dS X.K F (aN i fa)):=IE hN hi hx he hs hf
def jt{fw:WE ρ}(hN:X.N.Nodup)(i:Nat)(he:PE X a (wE ρ X.K F p fw))(hi:X.N[i]?=Qs x:=by rfl)(hx:Loc X.env.scope x:=by exact fI rfl)(hs:swapsWith a (Qs (.Name x pos')) pos.line X.env=pure Qf:=by rfl)(hf:X.fn x=Qt\/X.env.scope.names.lookup x=Qs .local:=by first|exact .inl rfl|exact .inr rfl|assumption):PS X (.Assign [.Name x pos'] a pos) (wS ρ X.K F p (e9 i fw)):=IC hN hi hx he hs hf
def kf{fs:DI}(cap:Ql Nat)(N':Ql Str)(hc:X.calm=Qt)(hi:PI X (.Name x pos') iter (dI X.K F fs))(he:∀C s₃ H₃ fp pins F',PE (bC X N' scope C s₃ H₃ fp pins) elt (dE X.K F' fe)) (hd:N'.Nodup:=by decide+kernel) (h0:N'[0]?=Qs x:=by rfl) (hl:∀C s₃ H₃ fp pins,Loc (bC X N' scope C s₃ H₃ fp pins).env.scope x:=by intros;exact fI rfl) (hf:∀C s₃ H₃ fp pins,(bC X N' scope C s₃ H₃ fp pins).fn x=Qt\/(bC X N' scope C s₃ H₃ fp pins).env.scope.names.lookup x=Qs .local:=by intros;first|exact .inl rfl|exact .inr rfl) (W7:scope.kind=.function:=by rfl) (W8:lS scope.names X.env.kindOf=Qt:=by rfl) (hN:N'.length=1+cap.length:=by rfl) (Vo:jR N' X.N 1 scope.names 0 cap=Qt:=by rfl) (hs:∀x,foldedSetIterable iter X.env x=pure x:=by intro _;rfl):PE X (.ListComp elt [⟨.Name x pos',iter,[],0⟩] scope pos) (dE X.K F (bE 1 cap fs (cC 0) bL fe)):=sG 1 cap N' hc hi (λC s₃ H₃ fp pins=>gB hd h0 (hl C s₃ H₃ fp pins) (hf C s₃ H₃ fp pins)) (λ_=>bo 0) (λ_ _ _ _ _ _=>sg) he W7 W8 hN Vo hs
def cM{P:Ql Str}{sc:SV}(h1:sc.kind=.function:=by rfl)(h2:sc.isCoroutine=Qf:=by rfl)(h3:sc.isGenerator=Qf:=by rfl)(h5:N.take P.length=P:=by rfl)(h:(decide N.Nodup&&(decide (∀x∈P,sc.names.lookup x=Qs .local\/sc.names.lookup x=Qs .cell)&&decide (∀y∈sc.names,y.2≠.free)))=Qt:=by decide+kernel):UN N P sc:=G1 h1 h2 h3 h5 h
def d6{mg:Str->Qo OM}{f:Xl}{m:Nat}(k:Nat)(Fn:L2.UB K x qual st f fd)(S:UN N ps (aY st))(g:DS) (W9:∀(T9:OM) (A:Qq) (outer:Ql Env) (s:OJ) (H:Hp) (E:XK) (F:Ql Xl),UP k (A.deeper (envOfC qual (aY st) s.heap.objs.size f T9))->Uu (jd bg P w K mg base N qual (aY st) f T9 A outer s H E).X5 (eQ st) (dS K F g)) (hm:ps.length=m:=by rfl):Um P w K mg base bg (k+1) f fd ps (UY K (dh m N g)):=MN (k:=k) Fn S (λ_ _ e=>hm▸Lp e) g (λ_ _ e=>Ln e) W9
section
variable {f:Xl}{hp:Xm}{mg:Str->Qo OM}
def Hv.df1(h:Hv K x st f)(X:K.In hp)(G:hp.Ns mainGlobals mg)(p0:Str)(hb:∀(kV doc pm:OM) (an:Qo Xl) (T9 ct:OM),∀a0:OM,bindArgs (PY x x (gJ st) (eQ st) (aY st) .none kV doc pm an T9 ct) ⟨[a0],[]⟩=pure [(p0,a0)]:=by intros;rfl):∃fd,Df K mg x st [p0] f fd:=let ⟨fd,u⟩:=h.fn
 ⟨fd,u,h.mg X G,zt u hb⟩
def Hv.Xt(h:Hv K x st f)(X:K.In hp)(G:hp.Ns mainGlobals mg)(p0 p1:Str)(hb:∀(kV doc pm:OM) (an:Qo Xl) (T9 ct:OM),∀a0 a1:OM,bindArgs (PY x x (gJ st) (eQ st) (aY st) .none kV doc pm an T9 ct) ⟨[a0,a1],[]⟩=pure [(p0,a0),(p1,a1)]:=by intros;rfl):∃fd,Df K mg x st [p0,p1] f fd:=let ⟨fd,u⟩:=h.fn
 ⟨fd,u,h.mg X G,pR u hb⟩
def Hv.Zh(h:Hv K x st f)(X:K.In hp)(G:hp.Ns mainGlobals mg)(p0 p1 p2:Str)(hb:∀(kV doc pm:OM) (an:Qo Xl) (T9 ct:OM),∀a0 a1 a2:OM,bindArgs (PY x x (gJ st) (eQ st) (aY st) .none kV doc pm an T9 ct) ⟨[a0,a1,a2],[]⟩=pure [(p0,a0),(p1,a1),(p2,a2)]:=by intros;rfl):∃fd,Df K mg x st [p0,p1,p2] f fd:=let ⟨fd,u⟩:=h.fn
 ⟨fd,u,h.mg X G,ui u hb⟩
end
end DL
variable{M:Nat}{t:DL.Th}{w:Int->Int}{a:Int}{nt:Nat}{ts:Ql (Int×Int)}{C:Xl}{wl:Ql Int}{f:DL.DE}{r:DL.Ev}{fa:DL.DE}{fb:DL.DE}{b:Int}{i:Nat}{n:Nat}{x:Int}{s:Int}{r2:DL.Ev}{ds:Ql DL.D}{v:Int}{r1:DL.Ev}{p:Int}{L:Ql Int}{fe:DL.DE}{g:Int->Bool}{P:Ql Int}{F:Ql Int}{rs:Ql DL.Ev}{G:Ql Int}{j:Nat}{xs:Ql Int}{W:Nat}{u:Int}{ns:Ql Str}{B:Nat}{s0:Int}{ra:DL.Ev}{m:Int}{rb:DL.Ev}{c:Ql DL.D}{t1:DL.Th}{ks:Ql Int}{l:Int}{y:Int}
namespace KX
open PySem.Spec L2 DL
abbrev dY:=lC (kI ic λi j=>.int (i+j)) oU
abbrev qS:=kI ic λi j=>.int (i-j)
abbrev qM:=lC (kI Xe λi j=>.int (i*j)) xv
abbrev qV:=kI Xv λi j=>.int (i.fdiv j)
abbrev qR:=kI jS λi j=>.int (i.fmod j)
abbrev qL:=kI ic λi j=>.bl (decide (i<j))
abbrev qE:=kI ic λi j=>.bl (decide (i<=j))
abbrev qG:=kI ic λi j=>.bl (decide (j<i))
abbrev qN:=kx λi j=>if j<i then j else i
abbrev qX:=kx λi j=>if j>i then j else i
abbrev qP:=kI nh λi j=>.int (i^j.toNat)
abbrev aq:=af 0
abbrev aA:=af 1
abbrev aU:=af 2
abbrev aP:=af 3
abbrev bF:=af 4
abbrev cb:=af 5
abbrev cK:=af 6
abbrev ji:=af 7
abbrev jY:=af 8
abbrev iH:=af 9
abbrev aQ:=dC (.int 0)
abbrev bG:=dC (.int 1)
abbrev hZ:=dC (.int 2)
abbrev nV:=dC (.int 3)
abbrev qY:=dC (.int 6)
abbrev qW:=dC (.int 10)
abbrev nU:=dC (.int 12)
abbrev qU:=dC (.bl Qf)
abbrev hX:=dC .TX
abbrev l9:=dC (.bl Qt)
abbrev bc:=cC 0
abbrev l8:=cC 3
abbrev e8:=ae aU ai
abbrev hU:=cC 4
abbrev fR:=ae aq ai
abbrev fQ:=ae aP ai
abbrev fP:=ae cb ai
abbrev l7:=ae aA ai
abbrev nT:=cC 2
abbrev nS:=cC 1
abbrev nR:=cC 6
abbrev kQ:=cC 5
abbrev g9:=bQ aj aq
abbrev nO:=bQ aj aA
abbrev nN:=cC 7
abbrev j0:=cO hX
abbrev nL:=ae bF ai
abbrev Fu:=d5 l8 iW
abbrev Ft:=d5 nS iW
abbrev jZ:=ae aq l7
abbrev Fs:=d5 hU iW
abbrev Fq:=d5 nR iW
abbrev nK:=bZ nO V4
abbrev Fp:=d5 nN iW
abbrev jl:=d5 nT Fu
abbrev jj:=d5 bc Ft
abbrev l6:=d5 l8 Fs
abbrev nJ:=d5 kQ Fq
abbrev qT:=d5 nR Fp
def cL(i:Nat):Xo:=PySem.Challenge.pw_nearenough_k62_one_wish_lightest.main.body.getD i (.Pass ⟨0,0,0,0⟩)
abbrev vA:Xo:=cL 1
abbrev vx:Xo:=cL 2
abbrev ve:Xo:=cL 8
abbrev vK:Xo:=jA (cL 9) 0
abbrev vH:Xo:=jA (cL 9) 1
abbrev vF:Xo:=jA (cL 9) 2
abbrev vJ:Xo:=jA (cL 9) 3
abbrev vB:Xo:=jA (cL 9) 4
abbrev vG:Xo:=jA (cL 9) 5
abbrev vC:Xo:=jA (cL 9) 6
abbrev vI:Xo:=jA (cL 9) 7
abbrev vE:Xo:=jA (cL 9) 8
abbrev vy:Xo:=cL 11
abbrev vc:Xo:=cL 12
abbrev vd:Xo:=cL 13
abbrev vw:Xo:=cL 14
abbrev vp:Xo:=cL 16
abbrev vl:Xo:=cL 17
abbrev vf:Xo:=cL 18
abbrev vh:Xo:=cL 19
abbrev vg:Xo:=cL 20
abbrev vo:Xo:=cL 21
abbrev vt:Xo:=cL 22
abbrev vq:Xo:=cL 23
abbrev vk:Xo:=cL 25
abbrev vu:Xo:=cL 26
abbrev vi:Xo:=cL 27
abbrev vv:Xo:=cL 28
structure Vc(mg:Str->Option OM):Prop where
 zcK:mg "abs"=Qn
 zap:mg "enumerate"=Qn
 zaY:mg "isinstance"=Qn
 W3:mg "len"=Qn
 WM:mg "list"=Qn
 zcJ:mg "max"=Qn
 zao:mg "min"=Qn
 W2:mg "range"=Qn
 ZD:mg "sorted"=Qn
 zeX:mg "sum"=Qn
 zeW:mg "tuple"=Qn
noncomputable section
variable {P:Pe}{w:QI}{K:Ou}{mg:Str->Qo OM}{base:VZ}{ad:Xl}{fd:PX}
def Hr:UN ["one","other"] ["one","other"] (aY vA):=cM
def m9:DS:=(i7 0 1 (ae aA (ae (d2 qR aq aA) ai)))
def DF:DS:=(aF (iY (lH 1) (aC (d2 di aA aQ)) m9) (cO (ag ku fR)))
def qI:Ql D->Qo Ev:=dh 2 ["one","other"] DF
def KA(Fn:L2.UB K "common_factor" "common_factor" vA ad fd)(bu:Vc mg):Um P w K mg base bg 1 ad fd ["one","other"] (UY K qI):=by
 have SC:=Hr;refine d6 0 Fn SC DF λ_ _ _ _ _ _ _ hr=>?_;refine ba ?_ ?_
 .exact(sk (lH 1) PassesOwn.never (bV (jy hr.units) (aa 1) aH) (aW (wc (i:=0) (j:=1) rfl SC.nd rfl rfl (by decide) rfl rfl (aw (aa 1) (aw (bR jz (aa 0) (aa 1)) aG)) rfl)))
 exact aW (dG (c7 EF rfl bu.zcK EJ (aw (aa 0) aG)))
def Hn:UN ["top","bottom","factor"] ["top","bottom"] (aY vx):=cM
def yh:DS:=(aF (aN 2 (ag (aO qI) jZ)) (aF (bI (aC (d2 qL aA aQ)) (aN 2 (d1 oO aU)) bX) (cO (ag cG (ae (d2 qV aq aU) (ae (d2 qV aA aU) ai))))))
def iE:Ql D->Qo Ev:=dh 2 ["top","bottom","factor"] yh
def Ky(Fn:L2.UB K "fraction" "fraction" vx ad fd)(bu:Vc mg)(zhH:V6 P w K mg base "common_factor" 1 qI):Um P w K mg base bg 2 ad fd ["top","bottom"] (UY K iE):=by
 have SC:=Hn;refine d6 1 Fn SC yh λ_ _ _ _ _ _ _ hr=>?_;refine ba ?_ ?_
 .exact(cu SC.nd 2 (fj zhH hr.mono (aw (aa 0) (aw (aa 1) aG))))
 refine ba ?_ ?_
 .exact(dZ (bV oy (aa 1) aH) (aW (cu SC.nd 2 (BE (aa 2)))) eD)
 exact aW (dG (gS (aw (bR k8 (aa 0) (aa 2)) (aw (bR k8 (aa 1) (aa 2)) aG))))
def G3:UN ["web","numbers","many","ties","least","at","low","high"] ["web","numbers"] (aY ve):=cM
def uq:DS:=(aF (dy (kE 2 qT) (ag iS (ae (bE 1 [4] (fX (d2 az aP cb)) bc bL (d2 az aA aq)) ai))) (aN 4 (bE 1 [6,7] (cV bF) bc bL (pE (aC (d2 fq aq aU)) aA aq))))
def xU:DS:=(aF (dy (ck 2 jl) aq) (aF (aN 4 (jP e8)) (aF (d8 kQ aA uq) (eR 4))))
def lX:Ql D->Qo Ev:=dh 2 ["web","numbers","many","ties","least","at","low","high"] xU
def Kk(Fn:L2.UB K "least_led_to" "least_led_to" ve ad fd)(bu:Vc mg):Um P w K mg base bg 1 ad fd ["web","numbers"] (UY K lX):=by
 have SC:=G3;refine d6 0 Fn SC xU λ_ _ _ _ _ _ _ hr=>?_;refine ba ?_ ?_
 .exact(oq (aa 0) (gR rfl (cE (bN SC.nd 2) (cE (bN SC.nd 3) fV))) (gN (cD (bo 2) (cD (bo 3) fU))))
 refine ba ?_ ?_
 .exact(cu SC.nd 4 (wB rfl rfl bu.WM rfl bu.W2 (aw (aa 2) aG)))
 refine ba ?_ ?_
 .exact(kW PassesOwn.never rfl (aa 1) (bN SC.nd 5) (bo 5) (ba (oq (c7 zp rfl bu.ZD boot_sorted (aw (kf [4] ["end","least"] rfl (sC (bh (aa 3) (aa 5))) (λ_ _ _ _ _ _=>(bh (aa 1) (aa 0)))) aG)) (wz rfl (cE (bN SC.nd 6) (cE (bN SC.nd 7) fV))) (uN (cD (bo 6) (cD (bo 7) fU)))) (aW (cu SC.nd 4 (kf [6,7] ["own","low","high"] rfl (jw (aa 4)) (λ_ _ _ _ _ _=>(JC (bV (k7 hr.units) (aa 0) (aa 2)) (aa 1) (aa 0))))))))
 exact aW (jv 4)
def HD:UN ["self","web","weights","many","ties"] ["self","web","weights"] (aY vK):=cM
noncomputable def tU(C:Xl):DS:=(aF (dy (ck 2 l6) aA) (aF (eV 0 C "ties" (ag dU nL)) (aF (eV 0 C "weights" (ag dU e8)) (aF (eV 0 C "parts" bG) (aF (eV 0 C "taken" (ag bO ai)) (aF (eV 0 C "points" (jb 1 [] (ip aP) bc bL (ag bO fR))) (aF (eV 0 C "widths" (d2 qM (ag bO (ae aQ ai)) aP)) (aF (eV 0 C "paid" (d2 qM (ag bO (ae aQ ai)) aP)) (aF (eV 0 C "around" (d2 qM (ag bO (ae aQ ai)) aP)) (eV 0 C "piece_of" (jP fQ)))))))))))
def nH(C:Xl):Ql D->Qo D:=lq 3 ["self","web","weights","many","ties"] (tU C)
def KR (cl:UL K C)(Wr:Ue K C "around")(Wf:Ue K C "paid")(WL:Ue K C "parts")(Wq:Ue K C "piece_of")(We:Ue K C "points")(XD:Ue K C "taken")(VU:Ue K C "ties")(Y4:Ue K C "weights")(V1:Ue K C "widths")(Fn:L2.UB K "__init__" "Pieces.__init__" vK ad fd)(bu:Vc mg):Um P w K mg base bg 1 ad fd ["self","web","weights"] (X3 K (nH C)):=by
 have SC:=HD;refine tX (k:=0) (m:=3) Fn SC rfl (tU C) (λT9 A outer s H E F hr=>?_);exact(d4 (Bt (aa 1) (gR rfl (cE (bN SC.nd 3) (cE (bN SC.nd 4) fV))) (gN (cD (bo 3) (cD (bo 4) fU))) (L5 (tu (tq (by decide)) (tu (tq (by decide)) CT)))) (d4 (gQ 0 cl VU (kY lT rfl bu.WM jT (aw (aa 4) aG))) (d4 (gQ 0 cl Y4 (kY lT rfl bu.WM jT (aw (aa 2) aG))) (d4 (gQ 0 cl WL aH) (d4 (gQ 0 cl XD (fh aG)) (d4 (gQ 0 cl We (BG 1 [] ["point"] rfl (wx rfl bu.W2 (aa 3)) (λ_ _ _ _ _=>(gB (i:=0) (show List.Nodup (["point"]:Ql Str) by decide+kernel) rfl (fI rfl))) (λ_=>(bo 0)) (λ_ _ _ _ _ _=>sg) (λ_ _ _ _ _ _=>(fh (aw (aa 0) aG))))) (d4 (gQ 0 cl V1 (bR (Wd.or fW) (fh (aw aH aG)) (aa 3))) (d4 (gQ 0 cl Wf (bR (Wd.or fW) (fh (aw aH aG)) (aa 3))) (d4 (gQ 0 cl Wr (bR (Wd.or fW) (fh (aw aH aG)) (aa 3))) (mz (gQ 0 cl Wq (wB rfl rfl bu.WM rfl bu.W2 (aw (aa 3) aG)))))))))))))
def HA:UN ["self","at","growing","one","other"] ["self","at","growing"] (aY vH):=cM
def yl(C:Xl):DS:=(aF (dy (kE 2 l6) (bE 1 [0] (fX (d2 az (d1 (aI C "ties") aq) aA)) bc bL (d2 az (d1 (aI C "piece_of") aA) aq))) (aF (bI (aC (d2 fq aP bF)) (cO aQ) bX) (cO (ag bK (ae (bE 1 [2] (fX (ag cG (ae aP nL))) bc (aC (d2 (kq Qf) aq aA)) aq) ai)))))
def jh(C:Xl):Ql D->Qo Ev:=dh 3 ["self","at","growing","one","other"] (yl C)
def KO (cl:UL K C)(Wq:Ue K C "piece_of")(VU:Ue K C "ties")(Fn:L2.UB K "growing_beside" "Pieces.growing_beside" vH ad fd)(bu:Vc mg):Um P w K mg base bg 1 ad fd ["self","at","growing"] (UY K (jh C)):=by
 have SC:=HA;refine d6 0 Fn SC (yl C) λ_ _ _ _ _ _ _ hr=>?_;refine ba ?_ ?_
 .exact(oq (kf [0] ["end","self"] rfl (sC (bh (cT cl VU (aa 0)) (aa 1))) (λ_ _ _ _ _ _=>(bh (cT cl Wq (aa 1)) (aa 0)))) (wz rfl (cE (bN SC.nd 3) (cE (bN SC.nd 4) fV))) (uN (cD (bo 3) (cD (bo 4) fU))))
 refine ba ?_ ?_
 .exact(dZ (bV (k7 hr.units) (aa 3) (aa 4)) (aW (dG aH)) eD)
 exact aW (dG (c7 iA rfl bu.W3 PySem.boot_len (aw (sG 1 [2] ["piece","growing"] rfl (sC (gS (aw (aa 3) (aw (aa 4) aG)))) (λ_ _ _ _ _=>(gB (i:=0) (show List.Nodup (["piece","growing"]:Ql Str) by decide+kernel) rfl (fI rfl))) (λ_=>(bo 0)) (λ_ _ _ _ _ _=>(oo (bV (K0 hr.units) (aa 0) (aa 1)))) (λ_ _ _ _ _ _=>(aa 0))) aG)))
def Hy:UN ["self","at","one","other"] ["self","at"] (aY vF):=cM
def yk(C:Xl):DS:=(aF (dy (ck 2 jl) (d2 az (d1 (aI C "ties") aq) aA)) (cO (d2 qS (d2 qS (d2 qM (d2 az (d1 (aI C "weights") aq) aA) (d1 (aI C "parts") aq)) (d2 az (d1 (aI C "around") aq) aU)) (d2 az (d1 (aI C "around") aq) aP))))
def gK(C:Xl):Ql D->Qo Ev:=dh 2 ["self","at","one","other"] (yk C)
def KL (cl:UL K C)(Wr:Ue K C "around")(WL:Ue K C "parts")(VU:Ue K C "ties")(Y4:Ue K C "weights")(Fn:L2.UB K "left_between" "Pieces.left_between" vF ad fd)(bu:Vc mg):Um P w K mg base bg 1 ad fd ["self","at"] (UY K (gK C)):=by
 have SC:=Hy;refine d6 0 Fn SC (yk C) λ_ _ _ _ _ _ _ hr=>?_;refine ba ?_ ?_
 .exact(oq (bh (cT cl VU (aa 0)) (aa 1)) (gR rfl (cE (bN SC.nd 2) (cE (bN SC.nd 3) fV))) (gN (cD (bo 2) (cD (bo 3) fU))))
 exact aW (dG (bR BP (bR BP (bR (Wd.or fW) (bh (cT cl Y4 (aa 0)) (aa 1)) (cT cl WL (aa 0))) (bh (cT cl Wr (aa 0)) (aa 2))) (bh (cT cl Wr (aa 0)) (aa 3))))
def HC:UN ["self","growing","at"] ["self","growing"] (aY vJ):=cM
def DH(C:Xl):DS:=(aF (g6 nT (ag bK (ae (d1 (aI C "ties") aq) ai)) (bI (iz (aC (d2 qG (bY C "growing_beside" (jh C) aq (ae aU l7)) aQ)) (aC (d2 qE (bY C "left_between" (gK C) aq e8) aQ))) (eR 2) bX))
  j0)
def lZ(C:Xl):Ql D->Qo Ev:=dh 2 ["self","growing","at"] (DH C)
def KQ (cl:UL K C)(VU:Ue K C "ties")(Fn:L2.UB K "first_full" "Pieces.first_full" vJ ad fd)(bu:Vc mg)(zbU:XY P w K mg base C "growing_beside" 1 (jh C))(zbT:XY P w K mg base C "left_between" 1 (gK C)):Um P w K mg base bg 2 ad fd ["self","growing"] (UY K (lZ C)):=by
 have SC:=HC;refine d6 1 Fn SC (DH C) λ_ _ _ _ _ _ _ hr=>?_;refine ba ?_ ?_
 .exact(wa PassesOwn.never rfl rfl bu.W2 (c7 iA rfl bu.W3 PySem.boot_len (aw (cT cl VU (aa 0)) aG)) (bN SC.nd 2) (bo 2) (aW (dZ (L2.PW.pt (sf (bV mJ (mE cl zbU hr.mono (aa 0) (aw (aa 2) (aw (aa 1) aG))) aH) (r8 (bV KY (mE cl zbT hr.mono (aa 0) (aw (aa 2) aG)) aH)))) (aW (jv 2)) eD)))
 exact aW (dG ke)
def Hs:UN ["self","at","one","other","joined","point"] ["self","at"] (aY vB):=cM
noncomputable def tS(C:Xl):DS:=(aF (dy (kE 2 jl) (bE 1 [0] (fX (d2 az (d1 (aI C "ties") aq) aA)) bc bL (d2 az (d1 (aI C "piece_of") aA) aq))) (aF (aN 4 (ag iS (ae (d2 dY (d2 az (d1 (aI C "points") aq) aU) (d2 az (d1 (aI C "points") aq) aP)) ai))) (aF (pI 4 5 (m5 0 C "piece_of" cb (ag bK (ae (d1 (aI C "points") aq) ai)))) (aF (pK 0 4 C "points") (aF (lR 0 C "widths" aQ) (aF (lR 0 C "paid" (d2 dY (d2 az (d1 (aI C "paid") aq) aU) (d2 az (d1 (aI C "paid") aq) aP))) (lR 0 C "taken" aA)))))))
def qJ(C:Xl):Ql D->Qo D:=lq 2 ["self","at","one","other","joined","point"] (tS C)
def KC (cl:UL K C)(Wf:Ue K C "paid")(Wq:Ue K C "piece_of")(We:Ue K C "points")(XD:Ue K C "taken")(VU:Ue K C "ties")(V1:Ue K C "widths")(Fn:L2.UB K "take" "Pieces.take" vB ad fd)(bu:Vc mg):Um P w K mg base bg 1 ad fd ["self","at"] (X3 K (qJ C)):=by
 have SC:=Hs;refine tX (k:=0) (m:=2) Fn SC rfl (tS C) (λT9 A outer s H E F hr=>?_);exact(d4 (Bt (kf [0] ["end","self"] rfl (sC (bh (cT cl VU (aa 0)) (aa 1))) (λ_ _ _ _ _ _=>(bh (cT cl Wq (aa 1)) (aa 0)))) (wz rfl (cE (bN SC.nd 2) (cE (bN SC.nd 3) fV))) (uN (cD (bo 2) (cD (bo 3) fU))) (L6 (tu (tq (by decide)) (tu (tq (by decide)) CT)))) (d4 (Jc (i:=4) (by decide) SC.nd rfl (fI rfl) (c7 zp rfl bu.ZD boot_sorted (aw (bR (Wy.or gG) (bh (cT cl We (aa 0)) (aa 2)) (bh (cT cl We (aa 0)) (aa 3))) aG))) (d4 (Jb (J:=[0,4]) (Jg (by decide) (by decide) PassesOwn.never rfl (bN SC.nd 5) (mz (Jf 0 cl Wq (aa 5) (c7 iA rfl bu.W3 PySem.boot_len (aw (cT cl We (aa 0)) aG)))))) (d4 (Ji 0 4 cl We) (d4 (wj 0 cl V1 aH) (d4 (wj 0 cl Wf (bR (Wy.or gG) (bh (cT cl Wf (aa 0)) (aa 2)) (bh (cT cl Wf (aa 0)) (aa 3)))) (mz (wj 0 cl XD (aa 1)))))))))
def Hz:UN ["self"] ["self"] (aY vG):=cM
def tT(C:Xl):DS:=(aF (pL 0 C "parts" hZ) (aF (eV 0 C "widths" (bE 1 [] (cV (d1 (aI C "widths") aq)) bc bL (d2 qM hZ aq))) (aF (eV 0 C "paid" (bE 1 [] (cV (d1 (aI C "paid") aq)) bc bL (d2 qM hZ aq))) (eV 0 C "around" (bE 1 [] (cV (d1 (aI C "around") aq)) bc bL (d2 qM hZ aq))))))
def qK(C:Xl):Ql D->Qo D:=lq 1 ["self"] (tT C)
def KN (cl:UL K C)(Wr:Ue K C "around")(Wf:Ue K C "paid")(WL:Ue K C "parts")(V1:Ue K C "widths")(Fn:L2.UB K "halve_parts" "Pieces.halve_parts" vG ad fd)(bu:Vc mg):Um P w K mg base bg 1 ad fd ["self"] (X3 K (qK C)):=by
 have SC:=Hz;refine tX (k:=0) (m:=1) Fn SC rfl (tT C) (λT9 A outer s H E F hr=>?_);exact(d4 (Jj 0 cl WL aH) (d4 (gQ 0 cl V1 (kf [] ["width"] rfl (jw (cT cl V1 (aa 0))) (λ_ _ _ _ _ _=>(bR (Wd.or fW) aH (aa 0))))) (d4 (gQ 0 cl Wf (kf [] ["width"] rfl (jw (cT cl Wf (aa 0))) (λ_ _ _ _ _ _=>(bR (Wd.or fW) aH (aa 0))))) (mz (gQ 0 cl Wr (kf [] ["width"] rfl (jw (cT cl Wr (aa 0))) (λ_ _ _ _ _ _=>(bR (Wd.or fW) aH (aa 0)))))))))
def Ht:UN ["self","growing","beside"] ["self","growing"] (aY vC):=cM
def yi(C:Xl):DS:=(aF (aN 2 (bE 1 [1,0] (ip (ag bK (ae (d1 (aI C "ties") aq) ai))) bc bL (bY C "growing_beside" (jh C) aU jZ))) (cO (bE 2 [0] (jJ aU) (ck 2 jj) (aC (d2 qG aA aQ)) (d2 qV (bY C "left_between" (gK C) aU fR) aA))))
def nF(C:Xl):Ql D->Qo Ev:=dh 2 ["self","growing","beside"] (yi C)
def KG (cl:UL K C)(VU:Ue K C "ties")(Fn:L2.UB K "steps_to_full" "Pieces.steps_to_full" vC ad fd)(bu:Vc mg)(zbU:XY P w K mg base C "growing_beside" 1 (jh C))(zbT:XY P w K mg base C "left_between" 1 (gK C)):Um P w K mg base bg 2 ad fd ["self","growing"] (UY K (nF C)):=by
 have SC:=Ht;refine d6 1 Fn SC (yi C) λ_ _ _ _ _ _ _ hr=>?_;refine ba ?_ ?_
 .exact(v8 (i:=2) 1 [1,0] ["at","growing","self"] SC.nd rfl (Or.inl rfl) rfl (wx rfl bu.W2 (c7 iA rfl bu.W3 PySem.boot_len (aw (cT cl VU (aa 0)) aG))) (λ_ _ _ _ _=>(gB (i:=0) (show List.Nodup (["at","growing","self"]:Ql Str) by decide+kernel) rfl (fI rfl))) (λ_=>(bo 0)) (λ_ _ _ _ _ _=>sg) (λ_ _ _ _ _ _=>(mE cl zbU hr.mono (aa 2) (aw (aa 0) (aw (aa 1) aG)))))
 exact aW (dG (sG 2 [0] ["at","many","self"] rfl (By rfl bu.zap (aa 2)) (λ_ _ _ _ _=>(gR rfl (cE (gB (i:=0) (show List.Nodup (["at","many","self"]:Ql Str) by decide+kernel) rfl (fI rfl)) (cE (gB (i:=1) (show List.Nodup (["at","many","self"]:Ql Str) by decide+kernel) rfl (fI rfl)) fV)))) (λ_=>(gN (cD (bo 0) (cD (bo 1) fU)))) (λ_ _ _ _ _ _=>(oo (bV mJ (aa 1) aH))) (λ_ _ _ _ _ _=>(bR k8 (mE cl zbT hr.mono (aa 2) (aw (aa 0) aG)) (aa 1)))))
def HB:UN ["self","growing","step","piece","point"] ["self","growing","step"] (aY vI):=cM
def DG(C:Xl):DS:=(pJ l8 aA (aF (i9 (λi j=>i+j) 0 C "widths" aP aU) (aF (i9 (λi j=>i+j) 0 C "paid" aP aU) (lO 0 3 4 2 C "points" "around"))))
def qO(C:Xl):Ql D->Qo D:=lq 3 ["self","growing","step","piece","point"] (DG C)
def KP (cl:UL K C)(Wr:Ue K C "around")(Wf:Ue K C "paid")(We:Ue K C "points")(V1:Ue K C "widths")(Fn:L2.UB K "grow" "Pieces.grow" vI ad fd)(bu:Vc mg):Um P w K mg base bg 1 ad fd ["self","growing","step"] (X3 K (qO C)):=by
 have SC:=HB;refine tX (k:=0) (m:=3) Fn SC rfl (DG C) (λT9 A outer s H E F hr=>?_);exact(mz (Jh (by decide) (BV BW (BV BW K6)) PassesOwn.never rfl (aa 1) (bN SC.nd 3) (d4 (Bs 0 cl V1 xD (aa 3) (aa 2)) (d4 (Bs 0 cl Wf xD (aa 3) (aa 2)) (mz (Je 0 3 4 2 cl We Wr (by decide) PassesOwn.never rfl (bN SC.nd 4)))))))
def Hu:UN ["self","wide"] ["self"] (aY vE):=cM
def yj(C:Xl):DS:=(aF (aN 1 (bE 2 [] (jJ (d1 (aI C "widths") aq)) (ck 2 jj) (aC (d2 qG aA aQ)) aq)) (cO (ag tw (ae (jb 1 [0] (cV aA) bc bL (lM (gn (fH (ag dU (ae (d2 az (d1 (aI C "points") aA) aq) ai))) (gn (fH (ag (aO iE) (ae (d2 az (d1 (aI C "widths") aA) aq) (ae (d1 (aI C "parts") aA) ai)))) mO)))) ai))))
def g8(C:Xl):Ql D->Qo Ev:=dh 1 ["self","wide"] (yj C)
def KJ (cl:UL K C)(WL:Ue K C "parts")(We:Ue K C "points")(V1:Ue K C "widths")(Fn:L2.UB K "moats" "Pieces.moats" vE ad fd)(bu:Vc mg)(zhG:V6 P w K mg base "fraction" 2 iE):Um P w K mg base bg 3 ad fd ["self"] (UY K (g8 C)):=by
 have SC:=Hu;refine d6 2 Fn SC (yj C) λ_ _ _ _ _ _ _ hr=>?_;refine ba ?_ ?_
 .exact(v8 (i:=1) 2 [] ["piece","width"] SC.nd rfl (Or.inl rfl) rfl (By rfl bu.zap (cT cl V1 (aa 0))) (λ_ _ _ _ _=>(gR rfl (cE (gB (i:=0) (show List.Nodup (["piece","width"]:Ql Str) by decide+kernel) rfl (fI rfl)) (cE (gB (i:=1) (show List.Nodup (["piece","width"]:Ql Str) by decide+kernel) rfl (fI rfl)) fV)))) (λ_=>(gN (cD (bo 0) (cD (bo 1) fU)))) (λ_ _ _ _ _ _=>(oo (bV mJ (aa 1) aH))) (λ_ _ _ _ _ _=>(aa 0)))
 exact aW (dG (c7 (NB hr.units rfl) rfl bu.ZD boot_sorted (aw (BG 1 [0] ["piece","self"] rfl (jw (aa 1)) (λ_ _ _ _ _=>(gB (i:=0) (show List.Nodup (["piece","self"]:Ql Str) by decide+kernel) rfl (fI rfl))) (λ_=>(bo 0)) (λ_ _ _ _ _ _=>sg) (λ_ _ _ _ _ _=>(Jy (Bu (Bv (kY lT rfl bu.WM jT (aw (bh (cT cl We (aa 1)) (aa 0)) aG))) (Bu (Bv (fj zhG hr.mono (aw (bh (cT cl V1 (aa 1)) (aa 0)) (aw (cT cl WL (aa 1)) aG)))) Jl))))) aG)))
def Hq:UN ["web","wishes","numbers","least","wish","one","other"] ["web","wishes","numbers"] (aY vy):=cM
def DD:DS:=(aF (aN 3 (ag (aO lX) (ae aq e8))) (aF (m6 (ck 2 (d5 hU (d5 (ck 2 nJ) iW))) aA (bI (aC (d2 di (d2 az aP cb) (d2 az aP cK))) (eR 4) bX)) j0))
def iF:Ql D->Qo Ev:=dh 3 ["web","wishes","numbers","least","wish","one","other"] DD
def Kz(Fn:L2.UB K "first_parted" "first_parted" vy ad fd)(bu:Vc mg)(zhv:V6 P w K mg base "least_led_to" 1 lX):Um P w K mg base bg 2 ad fd ["web","wishes","numbers"] (UY K iF):=by
 have SC:=Hq;refine d6 1 Fn SC DD λ_ _ _ _ _ _ _ hr=>?_;refine ba ?_ ?_
 .exact(cu SC.nd 3 (fj zhv hr.mono (aw (aa 0) (aw (aa 2) aG))))
 refine ba ?_ ?_
 .exact(Bl PassesOwn.never rfl rfl bu.zap (aa 1) (gR rfl (cE (bN SC.nd 4) (cE (gR rfl (cE (bN SC.nd 5) (cE (bN SC.nd 6) fV))) fV))) (gN (cD (bo 4) (cD (gN (cD (bo 5) (cD (bo 6) fU))) fU))) (aW (dZ (bV (jy hr.units) (bh (aa 3) (aa 5)) (bh (aa 3) (aa 6))) (aW (jv 4)) eD)))
 exact aW (dG ke)
def GZ:UN ["pieces","wishes","found","one","other","here","there"] ["pieces","wishes"] (aY vc):=cM
def Dw(C:Xl):DS:=(aF (aN 2 ua) (aF (d8 (ck 2 l6) aA (aF (i7 5 6 (ae (d2 az (d1 (aI C "piece_of") aq) aP) (ae (d2 az (d1 (aI C "piece_of") aq) bF) ai))) (bI (aC (d2 di cb cK)) (m7 (gu 2 cb) (gu 2 cK) l9) bX))) (eR 2)))
def jX(C:Xl):Ql D->Qo Ev:=dh 2 ["pieces","wishes","found","one","other","here","there"] (Dw C)
def Kh (cl:UL K C)(Wq:Ue K C "piece_of")(Fn:L2.UB K "wanting" "wanting" vc ad fd)(bu:Vc mg):Um P w K mg base bg 1 ad fd ["pieces","wishes"] (UY K (jX C)):=by
 have SC:=GZ;refine d6 0 Fn SC (Dw C) λ_ _ _ _ _ _ _ hr=>?_;refine ba ?_ ?_
 .exact(cu SC.nd 2 Jz)
 refine ba ?_ ?_
 .exact(kW PassesOwn.never rfl (aa 1) (gR rfl (cE (bN SC.nd 3) (cE (bN SC.nd 4) fV))) (gN (cD (bo 3) (cD (bo 4) fU))) (ba (wc (i:=5) (j:=6) rfl SC.nd rfl rfl (by decide) rfl rfl (aw (bh (cT cl Wq (aa 0)) (aa 3)) (aw (bh (cT cl Wq (aa 0)) (aa 4)) aG)) rfl) (aW (dZ (bV (jy hr.units) (aa 5) (aa 6)) (aW (IL mF (BB 2 hr.units (aa 5)) (BB 2 hr.units (aa 6)) Af Af)) eD))))
 exact aW (jv 2)
def G2:UN ["web","wishes","taken","kept","at","fewer"] ["web","wishes","taken"] (aY vd):=cM
def Dx:DS:=(aF (aN 3 (ag dU e8)) (aF (d8 hU (d1 lB aU) (aF (aN 5 (bE 1 [4] (cV aP) bc (aC (d2 di aq aA)) aq)) (bI (aC (d2 iT (ag (aO iF) (ae aq (ae aA fP))) hX)) (pH 5 (aN 3 cb)) bX))) (cO (ag iS fQ))))
def iD:Ql D->Qo Ev:=dh 3 ["web","wishes","taken","kept","at","fewer"] Dx
def Kj(Fn:L2.UB K "needed" "needed" vd ad fd)(bu:Vc mg)(zbS:V6 P w K mg base "first_parted" 2 iF):Um P w K mg base bg 3 ad fd ["web","wishes","taken"] (UY K iD):=by
 have SC:=G2;refine d6 2 Fn SC Dx λ_ _ _ _ _ _ _ hr=>?_;refine ba ?_ ?_
 .exact(cu SC.nd 3 (kY lT rfl bu.WM jT (aw (aa 2) aG)))
 refine ba ?_ ?_
 .exact(kW PassesOwn.never rfl (Jx (aa 2)) (bN SC.nd 4) (bo 4) (ba (v8 (i:=5) 1 [4] ["own","at"] SC.nd rfl (Or.inl rfl) rfl (jw (aa 3)) (λ_ _ _ _ _=>(gB (i:=0) (show List.Nodup (["own","at"]:Ql Str) by decide+kernel) rfl (fI rfl))) (λ_=>(bo 0)) (λ_ _ _ _ _ _=>(oo (bV (jy hr.units) (aa 0) (aa 1)))) (λ_ _ _ _ _ _=>(aa 0))) (aW (dZ (bV wO (fj zbS hr.mono (aw (aa 0) (aw (aa 1) (aw (aa 5) aG)))) ke) (aW (Bk 5 (cu SC.nd 3 (aa 5)))) eD))))
 exact aW (dG (c7 zp rfl bu.ZD boot_sorted (aw (aa 3) aG)))
def Hl:UN ["web","weights","wishes","lost","pieces","growing","full"] ["web","weights","wishes"] (aY vw):=cM
def uu(C:Xl):DS:=(aF (lQ 5 (aN 6 (bY C "first_full" (lZ C) bF fP))) (bI (aC (d2 iT cK hX)) (aF (iy 4 C "halve_parts" (qK C) ai) (iy 4 C "grow" (qO C) (ae cb (ae (ag (lF dQ) (ae (bY C "steps_to_full" (nF C) bF fP) ai)) ai)))) (aF (iy 4 C "take" (qJ C) (ae cK ai)) (aN 5 (ag (aO (jX C)) (ae bF e8))))))
noncomputable def yg(C:Xl):DS:=(aF (aN 3 (ag (aO iF) (ae aq (ae aU (ae (jP (ae (ag bK (ae (d2 az aq bG) ai)) ai)) ai))))) (aF (bI (aC (d2 tD aP hX)) yW bX) (aF (aN 4 (ag (oQ C (nH C)) jZ)) (aF (aN 5 (ag (aO (jX C)) (ae bF e8))) (aF (iY (λ_=>200) (lL cb) (uu C)) (pk (oC (gq (eN (ag (aO iD) (ae aq (ae aU (ae (d1 (aI C "taken") bF) ai))))) (gq (eN (bY C "moats" (g8 C) bF ai)) kg)))))))))
def qH(C:Xl):Ql D->Qo Ev:=dh 3 ["web","weights","wishes","lost","pieces","growing","full"] (yg C)
def Kx (cl:UL K C)(XD:Ue K C "taken")(Fn:L2.UB K "join_by_moats" "join_by_moats" vw ad fd)(bu:Vc mg)(zbS:V6 P w K mg base "first_parted" 2 iF)(zhO:zdP P w K mg base "Pieces" C 1 (nH C))(zdF:V6 P w K mg base "wanting" 1 (jX C))(zhN:XY P w K mg base C "first_full" 2 (lZ C))(zhL:Z6 P w K mg base C "halve_parts" 1 (qK C))(zhM:Z6 P w K mg base C "grow" 1 (qO C))(zhJ:XY P w K mg base C "steps_to_full" 2 (nF C))(zhI:Z6 P w K mg base C "take" 1 (qJ C))(zhK:XY P w K mg base C "moats" 3 (g8 C))(zhu:V6 P w K mg base "needed" 3 iD):Um P w K mg base bg 4 ad fd ["web","weights","wishes"] (UY K (qH C)):=by
 have SC:=Hl;refine d6 3 Fn SC (yg C) λ_ _ _ _ _ _ _ hr=>?_;refine ba ?_ ?_
 .exact(cu SC.nd 3 (fj zbS hr.mono (aw (aa 0) (aw (aa 2) (aw (wB rfl rfl bu.WM rfl bu.W2 (aw (c7 iA rfl bu.W3 PySem.boot_len (aw (bh (aa 0) aH) aG)) aG)) aG)))))
 refine ba ?_ ?_
 .exact(dZ (bV KZ (aa 3) ke) (aW IG) eD)
 refine ba ?_ ?_
 .exact(cu SC.nd 4 (JA zhO hr.mono (aw (aa 0) (aw (aa 1) aG))))
 refine ba ?_ ?_
 .exact(cu SC.nd 5 (fj zdF hr.mono (aw (aa 4) (aw (aa 2) aG))))
 refine ba ?_ ?_
 .exact(sk (λ_=>200) PassesOwn.never (Iw (aa 5)) (ba (II 5 (cu SC.nd 6 (mE cl zhN hr.mono (aa 4) (aw (aa 5) aG)))) (aW (dZ (bV wO (aa 6) ke) (ba (wb wR (Jd 4 cl zhL hr.mono)) (aW (wb wR (Bp 4 cl zhM hr.mono (aw (aa 5) (aw (c7 (ND rfl) rfl bu.zao (by decide+kernel) (aw (mE cl zhJ hr.mono (aa 4) (aw (aa 5) aG)) aG)) aG)))))) (ba (wb wR (Bp 4 cl zhI hr.mono (aw (aa 6) aG))) (aW (cu SC.nd 5 (fj zdF hr.mono (aw (aa 4) (aw (aa 2) aG))))))))))
 exact aW (IF (Jn (Bw (λ_=>(Bx (fj zhu hr.mono (aw (aa 0) (aw (aa 2) (aw (cT cl XD (aa 4)) aG)))))) (λ_=>(Bw (λ_=>(Bx (JB cl zhK hr.mono (aa 4)))) (λ_=>Jm))))))
def Hf:UN ["_law_script","_law_k","_law_cell","_law_number"] ["_law_script","_law_k"] (aY vp):=cM
def xY:DS:=(aF (aN 2 aQ) (aF (bI (aC (d2 qL aA (ag bK fR))) (aN 2 (d2 az aq aA)) bX) (aF (aN 3 (d2 qR (d2 qP (d2 dY (d2 dY (d2 qR aU (dC (.int 2147483629))) (d2 qM (d2 qM (dC (.int 104729)) aA) aA)) (dC (.int 11))) nV) (dC (.int 2147483647)))) (aF (bI (aC (d2 qL aU (d2 qP qW (dC (.int 18))))) (aN 2 aQ) bX) (cO (ag bO (ae aU fQ)))))))
def qD:Ql D->Qo Ev:=dh 2 ["_law_script","_law_k","_law_cell","_law_number"] xY
def Ks(Fn:L2.UB K "_law_pool" "_law_pool" vp ad fd)(bu:Vc mg):Um P w K mg base bg 1 ad fd ["_law_script","_law_k"] (UY K qD):=by
 have SC:=Hf;refine d6 0 Fn SC xY λ_ _ _ _ _ _ _ hr=>?_;refine ba ?_ ?_
 .exact(cu SC.nd 2 aH)
 refine ba ?_ ?_
 .exact(dZ (bV oy (aa 1) (c7 iA rfl bu.W3 PySem.boot_len (aw (aa 0) aG))) (aW (cu SC.nd 2 (bh (aa 0) (aa 1)))) eD)
 refine ba ?_ ?_
 .exact(cu SC.nd 3 (bR jz (bR wM (bR (Wy.or gG) (bR (Wy.or gG) (bR jz (aa 2) aH) (bR (Wd.or fW) (bR (Wd.or fW) aH (aa 1)) (aa 1))) aH) aH) aH))
 refine ba ?_ ?_
 .exact(dZ (bV oy (aa 2) (bR wM aH aH)) (aW (cu SC.nd 2 aH)) eD)
 exact aW (dG (fh (aw (aa 2) (aw (aa 3) aG))))
def G9:UN ["_law_pool_here","_law_many","_law_found"] ["_law_pool_here","_law_many"] (aY vl):=cM
noncomputable def DC(p:Xl):WS aj:=(cg (jq (ml (cW qG (gY p 0 0) (bQ aj aQ))) (cg (e9 2 (cW qR (gY p 0 0) nO)) (cg (j9 p 0 0 (cW qV (gY p 0 0) nO)) (ez aj (eR 2)))) rM) (cg (j9 p 0 1 (cW qR (cW dY (cW qM (gY p 0 1) (bQ aj (dC (.int 48271)))) (bQ aj (dC (.int 11)))) (bQ aj (dC (.int 2147483647))))) (j8 (cW qR (cW qV (cW qR (cW qM (gY p 0 1) (gY p 0 1)) (bQ aj (dC (.int 2147483629)))) (bQ aj (dC (.int 64)))) nO))))
def eZ:Int×Int->Ql D->Qo (Ev×(Int×Int)):=iQ (ρ:=aj) 2 ["_law_pool_here","_law_many","_law_found"] DC
def Kq(Fn:L2.UB K "_law_take" "_law_take" vl ad fd)(bu:Vc mg):Um P w K mg base bg 1 ad fd ["_law_pool_here","_law_many"] (X2 aj K eZ):=by
 have SC:=G9;refine tW sy (k:=0) (m:=2) Fn SC rfl DC (λT9 A outer s H E F p hr=>?_);refine dF ?_ ?_
 .exact(vZ (Be (λ_=>mJ) (mC 0) (bJ λ_=>aH)) (dF (jt SC.nd 2 (gC (λ_=>jz) (mC 0) (bJ λ_=>(aa 1)))) (dF (Bh 0 (gC (λ_=>k8) (mC 0) (bJ λ_=>(aa 1)))) (iP (gP λF=>(jv 2))))) vY)
 refine dF ?_ ?_
 .exact(Bh 0 (gC (λ_=>jz) (gC (λ_=>(Wy.or gG)) (gC (λ_=>(Wd.or fW)) (mC 0) (bJ λ_=>aH)) (bJ λ_=>aH)) (bJ λ_=>aH)))
 exact iP (si (gC (λ_=>jz) (gC (λ_=>k8) (gC (λ_=>jz) (gC (λ_=>(Wd.or fW)) (mC 0) (mC 0)) (bJ λ_=>aH)) (bJ λ_=>aH)) (bJ λ_=>(aa 1))))
def G4:UN ["_law_pool_here","_law_many"] ["_law_pool_here","_law_many"] (aY vf):=cM
def Dy(p:Xl):WS aj:=(j8 (cW qR (cW dY (cW qM (eX p eZ (bZ g9 (bZ (bQ aj (dC (.int 1000003))) V4))) (bQ aj (dC (.int 1000003)))) (eX p eZ (bZ g9 (bZ (bQ aj (dC (.int 1000003))) V4)))) nO))
def uC:Int×Int->Ql D->Qo (Ev×(Int×Int)):=iQ (ρ:=aj) 2 ["_law_pool_here","_law_many"] Dy
def Kl(Fn:L2.UB K "_law_wide" "_law_wide" vf ad fd)(bu:Vc mg)(WD:XX aj P w K mg base "_law_take" 1 eZ):Um P w K mg base bg 2 ad fd ["_law_pool_here","_law_many"] (X2 aj K uC):=by have SC:=G4;refine tW sy (k:=1) (m:=2) Fn SC rfl Dy (λT9 A outer s H E F p hr=>?_);exact iP (si (gC (λ_=>jz) (gC (λ_=>(Wy.or gG)) (gC (λ_=>(Wd.or fW)) (gD WD hr.mono (df (bJ λ_=>aa 0) (df (bJ λ_=>aH) gE))) (bJ λ_=>aH)) (gD WD hr.mono (df (bJ λ_=>aa 0) (df (bJ λ_=>aH) gE)))) (bJ λ_=>(aa 1))))
def G6:UN ["_law_pool_here","_law_most","_law_many","_law_dense","_law_line","_law_ties","_law_one","_law_other"] ["_law_pool_here","_law_most"] (aY vh):=cM
def rZ:DT:=(iz (aC (d2 qG bF aQ)) (aC (d2 fq ji (d2 dY cK bG))))
noncomputable def Ii(p:Xl):WE aj:=(cW fq (eX p eZ (bZ g9 (bZ (bQ aj aP) V4))) (bQ aj aQ))
noncomputable def vU(p:Xl):WT aj:=(XB (ml (Ii p)) (j4 aj rZ))
noncomputable def EV(p:Xl):WS aj:=(jq (vU p) (ez aj (jc 5 (ag cG (ae cK (ae ji ai))))) rM)
noncomputable def uo(p:Xl):WS aj:=(kT nN (kz aj (o9 (d2 dY cK bG) aU)) (EV p))
noncomputable def DB(p:Xl):WS aj:=(cg (e9 2 (cW dY (bQ aj bG) (eX p eZ (bZ g9 nK)))) (cg (e9 3 (cW az (bQ aj (ag bO (ae hZ (ae nV (ae qY ai))))) (eX p eZ (bZ g9 (bZ (bQ aj nV) V4))))) (cg (e9 4 (eX p eZ (bZ g9 (bZ (bQ aj nV) V4)))) (cg (ez aj (aN 5 (ag bO ai))) (cg (kT nR (kz aj (ip aU)) (uo p)) (ez aj (pH 5 (cO (ag cG (ae aU fP))))))))))
def qu:Int×Int->Ql D->Qo (Ev×(Int×Int)):=iQ (ρ:=aj) 2 ["_law_pool_here","_law_most","_law_many","_law_dense","_law_line","_law_ties","_law_one","_law_other"] DB
def Kn(Fn:L2.UB K "_law_web" "_law_web" vh ad fd)(bu:Vc mg)(WD:XX aj P w K mg base "_law_take" 1 eZ):Um P w K mg base bg 2 ad fd ["_law_pool_here","_law_most"] (X2 aj K qu):=by
 have SC:=G6;refine tW sy (k:=1) (m:=2) Fn SC rfl DB (λT9 A outer s H E F p hr=>?_);refine dF ?_ ?_
 .exact(jt SC.nd 2 (gC (λ_=>(Wy.or gG)) (bJ λ_=>aH) (gD WD hr.mono (df (bJ λ_=>aa 0) (df (bJ λ_=>(aa 1)) gE)))))
 refine dF ?_ ?_
 .exact(jt SC.nd 3 (BD (bJ λ_=>(fh (aw aH (aw aH (aw aH aG))))) (gD WD hr.mono (df (bJ λ_=>aa 0) (df (bJ λ_=>aH) gE)))))
 refine dF ?_ ?_
 .exact(jt SC.nd 4 (gD WD hr.mono (df (bJ λ_=>aa 0) (df (bJ λ_=>aH) gE))))
 refine dF ?_ ?_
 .exact(gP λF=>(cu SC.nd 5 (fh aG)))
 refine dF ?_ ?_
 .exact(Bi PassesOwn.never rfl (wu λ_=>(wx rfl bu.W2 (aa 2))) (bN SC.nd 6) (λ_=>(bo 6)) (iP (Bi PassesOwn.never rfl (wu λ_=>(Jq rfl bu.W2 (bR (Wy.or gG) (aa 6) aH) (aa 2))) (bN SC.nd 7) (λ_=>(bo 7)) (iP (vZ (PW.ptw (Il (Be (λ_=>(k7 hr.units)) (gD WD hr.mono (df (bJ λ_=>aa 0) (df (bJ λ_=>(aa 3)) gE))) (bJ λ_=>aH)) (Im (Bc λ_=>(L2.PW.pt (sf (bV mJ (aa 4) aH) (r8 (bV (k7 hr.units) (aa 7) (bR (Wy.or gG) (aa 6) aH))))))))) (iP (gP λF=>(we 5 (gS (aw (aa 6) (aw (aa 7) aG)))))) vY)))))
 exact iP (gP λF=>(Bk 5 (dG (gS (aw (aa 2) (aw (aa 5) aG))))))
def G5:UN ["_law_pool_here","_law_way"] ["_law_pool_here"] (aY vg):=cM
def Dz(p:Xl):WS aj:=(cg (e9 1 (eX p eZ (bZ g9 (bZ (bQ aj (dC (.int 8))) V4)))) (cg (ez aj (bI (aC (d2 fq aA aQ)) (cO aQ) bX)) (cg (jq (j4 aj (aC (d2 qL aA qY))) (j8 (eX p eZ (bZ g9 (bZ (bQ aj qW) V4)))) rM) (j8 (eX p uC (bZ g9 (bZ (bQ aj (d2 dY (d2 qP qW nU) bG)) V4)))))))
def lY:Int×Int->Ql D->Qo (Ev×(Int×Int)):=iQ (ρ:=aj) 1 ["_law_pool_here","_law_way"] Dz
def Km(Fn:L2.UB K "_law_weight" "_law_weight" vg ad fd)(bu:Vc mg)(WD:XX aj P w K mg base "_law_take" 1 eZ)(zhw:XX aj P w K mg base "_law_wide" 2 uC):Um P w K mg base bg 3 ad fd ["_law_pool_here"] (X2 aj K lY):=by
 have SC:=G5;refine tW sy (k:=2) (m:=1) Fn SC rfl Dz (λT9 A outer s H E F p hr=>?_);refine dF ?_ ?_
 .exact(jt SC.nd 1 (gD WD hr.mono (df (bJ λ_=>aa 0) (df (bJ λ_=>aH) gE))))
 refine dF ?_ ?_
 .exact(gP λF=>(dZ (bV (k7 hr.units) (aa 1) aH) (aW (dG aH)) eD))
 refine dF ?_ ?_
 .exact(vZ (Bc λ_=>(bV oy (aa 1) aH)) (iP (si (gD WD hr.mono (df (bJ λ_=>aa 0) (df (bJ λ_=>aH) gE))))) vY)
 exact iP (si (gD zhw hr.mono (df (bJ λ_=>aa 0) (df (bJ λ_=>(bR (Wy.or gG) (bR wM aH aH) aH)) gE))))
def He:UN ["_law_web_here","_law_ties","_law_start","_law_found","_law_at","_law_number","_law_one","_law_other"] ["_law_web_here","_law_ties","_law_start"] (aY vo):=cM
def um:DS:=(aF (dy (ck 2 qT) (d2 az (d2 az aq bG) cb)) (aF (bI (iz (aC (d2 fq cK (d2 az aP bF))) (aC (d2 km ji aP))) (jc 3 ji) bX) (bI (iz (aC (d2 fq ji (d2 az aP bF))) (aC (d2 km cK aP))) (jc 3 cK) bX)))
def pT:DS:=(aF (d8 kQ aA um) (aN 4 (d2 dY bF bG)))
def xX:DS:=(aF (aN 3 (ag bO e8)) (aF (aN 4 aQ) (aF (iY (λ_=>100) (aC (d2 qL bF (ag bK fQ))) pT) (eR 3))))
def qz:Ql D->Qo Ev:=dh 3 ["_law_web_here","_law_ties","_law_start","_law_found","_law_at","_law_number","_law_one","_law_other"] xX
def Kr(Fn:L2.UB K "_law_reached" "_law_reached" vo ad fd)(bu:Vc mg):Um P w K mg base bg 1 ad fd ["_law_web_here","_law_ties","_law_start"] (UY K qz):=by
 have SC:=He;refine d6 0 Fn SC xX λ_ _ _ _ _ _ _ hr=>?_;refine ba ?_ ?_
 .exact(cu SC.nd 3 (fh (aw (aa 2) aG)))
 refine ba ?_ ?_
 .exact(cu SC.nd 4 aH)
 refine ba ?_ ?_
 .exact(sk (λ_=>100) PassesOwn.never (bV oy (aa 4) (c7 iA rfl bu.W3 PySem.boot_len (aw (aa 3) aG))) (ba (kW PassesOwn.never rfl (aa 1) (bN SC.nd 5) (bo 5) (ba (oq (bh (bh (aa 0) aH) (aa 5)) (gR rfl (cE (bN SC.nd 6) (cE (bN SC.nd 7) fV))) (gN (cD (bo 6) (cD (bo 7) fU)))) (ba (dZ (L2.PW.pt (sf (bV (k7 hr.units) (aa 6) (bh (aa 3) (aa 4))) (r8 (bV wN (aa 7) (aa 3))))) (aW (we 3 (aa 7))) eD) (aW (dZ (L2.PW.pt (sf (bV (k7 hr.units) (aa 7) (bh (aa 3) (aa 4))) (r8 (bV wN (aa 6) (aa 3))))) (aW (we 3 (aa 6))) eD))))) (aW (cu SC.nd 4 (bR (Wy.or gG) (aa 4) aH)))))
 exact aW (jv 3)
def Hh:UN ["_law_top","_law_bottom","_law_one","_law_other"] ["_law_top","_law_bottom"] (aY vt):=cM
def oE:DS:=(i7 2 3 (ae aP (ae (d2 qR aU aP) ai)))
def sU:DT:=(aC (d2 qG aP aQ))
def x6:DS:=(aF (aN 2 (ag ku fR)) (aF (aN 3 aA) (aF (iY (lH 3) sU oE) (cO (ag cG (ae (d2 qV aq aU) (ae (d2 qV aA aU) ai)))))))
def nE:Ql D->Qo Ev:=dh 2 ["_law_top","_law_bottom","_law_one","_law_other"] x6
def Ku(Fn:L2.UB K "_law_low" "_law_low" vt ad fd)(bu:Vc mg):Um P w K mg base bg 1 ad fd ["_law_top","_law_bottom"] (UY K nE):=by
 have SC:=Hh;refine d6 0 Fn SC x6 λ_ _ _ _ _ _ _ hr=>?_;refine ba ?_ ?_
 .exact(cu SC.nd 2 (c7 EF rfl bu.zcK EJ (aw (aa 0) aG)))
 refine ba ?_ ?_
 .exact(cu SC.nd 3 (aa 1))
 refine ba ?_ ?_
 .exact(sk (lH 3) PassesOwn.never (bV mJ (aa 3) aH) (aW (wc (i:=2) (j:=3) rfl SC.nd rfl rfl (by decide) rfl rfl (aw (aa 3) (aw (bR jz (aa 2) (aa 3)) aG)) rfl)))
 exact aW (dG (gS (aw (bR k8 (aa 0) (aa 2)) (aw (bR k8 (aa 1) (aa 2)) aG))))
def Hg:UN ["_law_one","_law_other"] ["_law_one","_law_other"] (aY vq):=cM
def xZ:DS:=(cO (ag (aO nE) (ae (d2 dY (d2 qM (d2 az aq aQ) (d2 az aA bG)) (d2 qM (d2 az aA aQ) (d2 az aq bG))) (ae (d2 qM (d2 az aq bG) (d2 az aA bG)) ai))))
def kP:Ql D->Qo Ev:=dh 2 ["_law_one","_law_other"] xZ
def Kt(Fn:L2.UB K "_law_plus" "_law_plus" vq ad fd)(bu:Vc mg)(zhD:V6 P w K mg base "_law_low" 1 nE):Um P w K mg base bg 2 ad fd ["_law_one","_law_other"] (UY K kP):=by have SC:=Hg;refine d6 1 Fn SC xZ λ_ _ _ _ _ _ _ hr=>?_;exact aW (dG (fj zhD hr.mono (aw (bR (Wy.or gG) (bR (Wd.or fW) (bh (aa 0) aH) (bh (aa 1) aH)) (bR (Wd.or fW) (bh (aa 1) aH) (bh (aa 0) aH))) (aw (bR (Wd.or fW) (bh (aa 0) aH) (bh (aa 1) aH)) aG))))
def G8:UN ["_law_moats","_law_found","_law_points","_law_width"] ["_law_moats"] (aY vk):=cM
def xW:DS:=(aF (aN 1 (ag cG (ae aQ (ae bG ai)))) (aF (d8 (ck 2 jl) aq (aN 1 (ag (aO kP) (ae aA fQ)))) (eR 1)))
def nD:Ql D->Qo Ev:=dh 1 ["_law_moats","_law_found","_law_points","_law_width"] xW
def Kp(Fn:L2.UB K "_law_together" "_law_together" vk ad fd)(bu:Vc mg)(zhC:V6 P w K mg base "_law_plus" 2 kP):Um P w K mg base bg 3 ad fd ["_law_moats"] (UY K nD):=by
 have SC:=G8;refine d6 2 Fn SC xW λ_ _ _ _ _ _ _ hr=>?_;refine ba ?_ ?_
 .exact(cu SC.nd 1 (gS (aw aH (aw aH aG))))
 refine ba ?_ ?_
 .exact(kW PassesOwn.never rfl (aa 0) (gR rfl (cE (bN SC.nd 2) (cE (bN SC.nd 3) fV))) (gN (cD (bo 2) (cD (bo 3) fU))) (aW (cu SC.nd 1 (fj zhC hr.mono (aw (aa 1) (aw (aa 3) aG))))))
 exact aW (jv 1)
def Hj:UN ["_law_web_here","_law_weights","_law_start","_law_found","_law_turn","_law_number","_law_tie","_law_here","_law_there","_law_goal"] ["_law_web_here","_law_weights","_law_start"] (aY vu):=cM
def zv:DS:=(bI (aC (d2 (oR Qf) ji aP)) (aF (aN 9 (d2 dY (d2 kr aP ji) (d2 az aA cb))) (ja 3 jY (ag qN (ae iH (ae (pM aP jY iH) ai))))) bX)
def uw:DS:=(d8 (ck 2 (d5 nN (d5 (cC 8) iW))) (ag bO (ae cK (ae (ag cG (ae (d2 az cK bG) (ae (d2 az cK aQ) ai))) ai))) zv)
def nu:DS:=(m6 (ck 2 nJ) (d2 az aq bG) uw)
def yd:DS:=(aF (aN 3 (ub aU aQ)) (aF (g6 hU (d2 az aq aQ) nu) (eR 3)))
def qF:Ql D->Qo Ev:=dh 3 ["_law_web_here","_law_weights","_law_start","_law_found","_law_turn","_law_number","_law_tie","_law_here","_law_there","_law_goal"] yd
def Kv(Fn:L2.UB K "_law_lightest" "_law_lightest" vu ad fd)(bu:Vc mg):Um P w K mg base bg 1 ad fd ["_law_web_here","_law_weights","_law_start"] (UY K qF):=by
 have SC:=Hj;refine d6 0 Fn SC yd λ_ _ _ _ _ _ _ hr=>?_;refine ba ?_ ?_
 .exact(cu SC.nd 3 (JD (aa 2) aH))
 refine ba ?_ ?_
 .exact(wa PassesOwn.never rfl rfl bu.W2 (bh (aa 0) aH) (bN SC.nd 4) (bo 4) (aW (Bl PassesOwn.never rfl rfl bu.zap (bh (aa 0) aH) (gR rfl (cE (bN SC.nd 5) (cE (bN SC.nd 6) fV))) (gN (cD (bo 5) (cD (bo 6) fU))) (aW (kW PassesOwn.never rfl (by refine fh ?_;exact(aw (aa 6) (aw (gS (aw (bh (aa 6) aH) (aw (bh (aa 6) aH) aG))) aG))) (gR rfl (cE (bN SC.nd 7) (cE (bN SC.nd 8) fV))) (gN (cD (bo 7) (cD (bo 8) fU))) (aW (dZ (bV (K1 hr.units) (aa 7) (aa 3)) (ba (cu SC.nd 9 (bR (Wy.or gG) (wF hr.units (aa 3) (aa 7)) (bh (aa 1) (aa 5)))) (aW (IK 3 hr.units (aa 8) (c7 (zq rfl) rfl bu.zao (by decide+kernel) (aw (aa 9) (aw (JF hr.units (aa 3) (aa 8) (aa 9)) aG)))))) eD)))))))
 exact aW (jv 3)
def G7:UN ["_law_web_here","_law_weights","_law_wishes","_law_found"] ["_law_web_here","_law_weights","_law_wishes"] (aY vi):=cM
noncomputable def xV(C:Xl):DS:=(aF (aN 3 (ag (aO (qH C)) (ae (ag cG (ae (d2 az aq aQ) (ae (ag dU (ae (d2 az aq bG) ai)) ai))) (ae (ag dU l7) (ae (ag dU e8) ai))))) (aF (bI (iw (jO (iZ (jQ "tuple" aP))) (iw (aC (d2 di (ag bK fQ) hZ)) (jO (iZ (jQ "list" (d2 az aP aQ)))))) j0 bX) (aF (bI (iw (jO (iZ (jQ "list" (d2 az aP bG)))) (aC (d2 di (bE 1 [0] (cV (d2 az aP aQ)) bc (aC (d2 kj aq (ag bK (ae (d2 az aA bG) ai)))) aq) (ag bO ai)))) j0 bX) (eR 3))))
def kO(C:Xl):Ql D->Qo Ev:=dh 3 ["_law_web_here","_law_weights","_law_wishes","_law_found"] (xV C)
def Ko (cl:UL K C) (Fn:L2.UB K "_law_told" "_law_told" vi ad fd)(bu:Vc mg)(zhF:V6 P w K mg base "join_by_moats" 4 (qH C)):Um P w K mg base bg 5 ad fd ["_law_web_here","_law_weights","_law_wishes"] (UY K (kO C)):=by
 have SC:=G7;refine d6 4 Fn SC (xV C) λ_ _ _ _ _ _ _ hr=>?_;refine ba ?_ ?_
 .exact(cu SC.nd 3 (fj zhF hr.mono (aw (gS (aw (bh (aa 0) aH) (aw (kY lT rfl bu.WM jT (aw (bh (aa 0) aH) aG)) aG))) (aw (kY lT rfl bu.WM jT (aw (aa 1) aG)) (aw (kY lT rfl bu.WM jT (aw (aa 2) aG)) aG)))))
 refine ba ?_ ?_
 .exact(dZ (L2.PW.pt (r6 (vX (sh (wC Ml (aa 3) rfl bu.zaY rfl bu.zeW NR))) (r6 (bV (jy hr.units) (c7 iA rfl bu.W3 PySem.boot_len (aw (aa 3) aG)) aH) (vV (vX (sh (wC C7 (bh (aa 3) aH) rfl bu.zaY rfl bu.WM jT))))))) (aW (dG ke)) eD)
 refine ba ?_ ?_
 .exact(dZ (L2.PW.pt (r6 (vX (sh (wC C7 (bh (aa 3) aH) rfl bu.zaY rfl bu.WM jT))) (vV (bV (jy hr.units) (sG 1 [0] ["_law_one","_law_web_here"] rfl (jw (bh (aa 3) aH)) (λ_ _ _ _ _=>(gB (i:=0) (show List.Nodup (["_law_one","_law_web_here"]:Ql Str) by decide+kernel) rfl (fI rfl))) (λ_=>(bo 0)) (λ_ _ _ _ _ _=>(oo (Iy rfl bu.W2 (aa 0) (c7 iA rfl bu.W3 PySem.boot_len (aw (bh (aa 1) aH) aG))))) (λ_ _ _ _ _ _=>(aa 0))) (fh aG))))) (aW (dG ke)) eD)
 exact aW (jv 3)
def Hk:UN ["_law_script","_law_k","_law_pool_here","_law_web_here","_law_weights","_law_one","_law_lightest_here","_law_there","_law_other","_law_found","_law_wishes"] ["_law_script"] (aY vv):=cM
def CK:DS:=(bI (iw (aC (d2 iT iH hX)) (aC (d2 km jY (ag (aO qz) (ae aP (ae (d2 az iH aQ) fP)))))) (cO qU) bX)
def CJ:DS:=(bI (aC (d2 di (ag oM (ae (bE 1 [4] (cV (d2 az iH aQ)) bc bL (d2 az aA aq)) ai)) (d2 kr cK jY))) (cO qU) bX)
def CH:DS:=(bI (aC (d2 di (ag (aO nD) (ae (d2 az iH bG) ai)) (ag cG (ae (d2 kr cK jY) (ae bG ai))))) (cO qU) bX)
def xm(C:Xl):DS:=(bI (aC (d2 di (ag (aO (kO C)) (ae aP (ae bF (ae (af 10) ai)))) (ag cG (ae (ag bO ai) (ae (ag bO ai) ai))))) (cO qU) bX)
def CL(C:Xl):DS:=(d8 (cC 10) (ag bO (ae (ag bO ai) (ae (ag bO (ae (ag cG (ae cb fP)) ai)) ai))) (xm C))
def CG:DE:=(ag bO (ae (ag cG (ae (ag qN (ae cb (ae jY ai))) (ae (ag qX (ae cb (ae jY ai))) ai))) ai))
noncomputable def ni(C p:Xl):WS aj:=(cg (e9 3 (eX p qu (bZ (bQ aj aU) (bZ (bQ aj (dC (.int 8))) V4)))) (cg (e9 4 (mZ 1 [2] (kz aj (cV (d2 az aP bG))) bc n6 (eX p lY nK))) (cg (e9 5 (eX p eZ (bZ (bQ aj aU) (bZ (bQ aj (d2 az aP aQ)) V4)))) (cg (ez aj (aN 6 (ag (aO qF) (ae aP (ae bF fP))))) (cg (ez aj (aN 7 (ag oN (ae cK ai)))) (cg (e9 8 (cW az (bQ aj ji) (eX p eZ (bZ (bQ aj aU) (bZ (bQ aj (ag bK (ae ji ai))) V4))))) (cg (ez aj (aN 9 (ag (aO (kO C)) (ae aP (ae bF (ae CG ai)))))) (cg (ez aj CK) (cg (ez aj CJ) (cg (ez aj CH) (ez aj (CL C))))))))))))
noncomputable def yf(C:Xl):DS:=(aF (g6 nS (ag qX (ae bG (ae (ag qN (ae (ag bK fR) (ae nU ai))) ai))) (aF (aN 2 (ag (aO qD) jZ)) (lN 2 λp=>(ni C p)))) (cO l9))
def zQ(C:Xl):Ql D->Qo Ev:=dh 1 ["_law_script","_law_k","_law_pool_here","_law_web_here","_law_weights","_law_one","_law_lightest_here","_law_there","_law_other","_law_found","_law_wishes"] (yf C)
def Kw (cl:UL K C) (Fn:L2.UB K "law" "law" vv ad fd)(bu:Vc mg)(zhB:V6 P w K mg base "_law_pool" 1 qD)(zhy:XX aj P w K mg base "_law_web" 2 qu)(zhx:XX aj P w K mg base "_law_weight" 3 lY)(WD:XX aj P w K mg base "_law_take" 1 eZ)(zhE:V6 P w K mg base "_law_lightest" 1 qF)(zdG:V6 P w K mg base "_law_told" 5 (kO C))(zhA:V6 P w K mg base "_law_reached" 1 qz)(zhz:V6 P w K mg base "_law_together" 3 nD):Um P w K mg base bg 6 ad fd ["_law_script"] (UY K (zQ C)):=by
 have SC:=Hk;refine d6 5 Fn SC (yf C) λ_ _ _ _ _ _ _ hr=>?_;refine ba ?_ ?_
 .exact(wa PassesOwn.never rfl rfl bu.W2 (c7 (EE rfl) rfl bu.zcJ (by decide+kernel) (aw aH (aw (c7 (zq rfl) rfl bu.zao (by decide+kernel) (aw (c7 iA rfl bu.W3 PySem.boot_len (aw (aa 0) aG)) (aw aH aG))) aG))) (bN SC.nd 1) (bo 1) (ba (cu SC.nd 2 (fj zhB hr.mono (aw (aa 0) (aw (aa 1) aG)))) (IH 2 λp=>(dF (jt SC.nd 3 (gD zhy hr.mono (df (bJ λ_=>aa 2) (df (bJ λ_=>aH) gE)))) (dF (jt SC.nd 4 (Ju 1 [2] ["_law_tie","_law_pool_here"] rfl (wu λ_=>(jw (bh (aa 3) aH))) (λ_ _ _ _ _=>(gB (i:=0) (show List.Nodup (["_law_tie","_law_pool_here"]:Ql Str) by decide+kernel) rfl (fI rfl))) (λ_=>(bo 0)) (λ_ _ _ _ _ _=>Ir) (λ_ _ _ _ _ _=>(gD zhx hr.mono (df (bJ λ_=>aa 1) gE))))) (dF (jt SC.nd 5 (gD WD hr.mono (df (bJ λ_=>aa 2) (df (bJ λ_=>(bh (aa 3) aH)) gE)))) (dF (gP λF=>(cu SC.nd 6 (fj zhE hr.mono (aw (aa 3) (aw (aa 4) (aw (aa 5) aG)))))) (dF (gP λF=>(cu SC.nd 7 (c7 (NC rfl) rfl bu.ZD boot_sorted (aw (aa 6) aG)))) (dF (jt SC.nd 8 (BD (bJ λ_=>(aa 7)) (gD WD hr.mono (df (bJ λ_=>aa 2) (df (bJ λ_=>(c7 iA rfl bu.W3 PySem.boot_len (aw (aa 7) aG))) gE))))) (dF (gP λF=>(cu SC.nd 9 (fj zdG hr.mono (by refine aw ?_ ?_ ?_;exact(aa 3);exact(by refine aw ?_ ?_ ?_;exact(aa 4);exact(by refine aw ?_ ?_ ?_;exact(by refine fh ?_;exact(aw (gS (aw (c7 (zq rfl) rfl bu.zao (by decide+kernel) (aw (aa 5) (aw (aa 8) aG))) (aw (c7 (EE rfl) rfl bu.zcJ (by decide+kernel) (aw (aa 5) (aw (aa 8) aG))) aG))) aG));exact aG;exact(kS rfl));exact(kS rfl));exact(kS rfl))))) (dF (gP λF=>(dZ (L2.PW.pt (r6 (bV wO (aa 9) ke) (vV (bV wN (aa 8) (fj zhA hr.mono (aw (aa 3) (aw (bh (aa 9) aH) (aw (aa 5) aG)))))))) (aW (dG mF)) eD)) (dF (gP λF=>(dZ (bV (jy hr.units) (c7 (NA rfl) rfl bu.zeX (by decide+kernel) (aw (kf [4] ["_law_number","_law_weights"] rfl (jw (bh (aa 9) aH)) (λ_ _ _ _ _ _=>(bh (aa 1) (aa 0)))) aG)) (wF hr.units (aa 6) (aa 8))) (aW (dG mF)) eD)) (dF (gP λF=>(dZ (bV (jy hr.units) (fj zhz hr.mono (aw (bh (aa 9) aH) aG)) (gS (aw (wF hr.units (aa 6) (aa 8)) (aw aH aG)))) (aW (dG mF)) eD)) (iP (gP λF=>(by refine kW (gt:=jI 10) (hs:=?_) ?_ ?_ ?_ ?_ ?_ ?_;exact PassesOwn.never;exact rfl;exact(by refine fh ?_;exact(by refine aw ?_ ?_ ?_;exact(fh aG);exact(by refine aw ?_ ?_ ?_;exact(by refine fh ?_;exact(aw (gS (aw (aa 5) (aw (aa 5) aG))) aG));exact aG;exact(kS rfl));exact(kS rfl)));exact(bN SC.nd 10);exact(bo 10);exact(aW (dZ (bV (jy hr.units) (fj zdG hr.mono (aw (aa 3) (aw (aa 4) (aw (aa 10) aG)))) (gS (by refine aw ?_ ?_ ?_;exact(fh aG);exact(by refine aw ?_ ?_ ?_;exact(fh aG);exact aG;exact(kS rfl));exact(kS rfl)))) (aW (dG mF)) eD));exact(λ_=>rfl)))))))))))))))))
 exact aW (dG mF)
end
def Fb(t:Th){xs:Ql D}{d:D}(hf:f t=Qs (.cl d))(hi:t[i]?=Qs (.own xs))(hl:xs.length<100000):jc i f t=Qs (.nx (t.set i (.own (xs++[d])))):=by unfold jc;rw[hf];simp only[Oz,tH,hi,Ev.ok,Ev.d,hl,decide_true,Bool.and_self,if_true]
def N8(t:Th){d:D}(hf:f t=Qs (.cl d))(hi:i<t.length):aN i f t=Qs (.nx (t.set i (.val d))):=by unfold aN;rw[hf];simp only[Oz,cR,hi,if_true,P7]
def UW:∀xs:Ql Int,Ui (xs.map D.int)=Qt
 |[]=>rfl
 |x::xs=>by have:=UW xs;simp[Ui,flat,this]
def eJ{k:Ql Ev->Qo Ev}(h1:fa t=Qs ra)(h2:fb t=Qs rb):ag k (ae fa (ae fb ai)) t=k [ra,rb]:=by simp[ag,ae,ai,h1,h2]
def cP{k:Ev->Ev->Qo Ev}(h1:fa t=Qs ra)(h2:fb t=Qs rb):d2 k fa fb t=k ra rb:=by simp[d2,h1,h2]
def D9(n:Nat):∀xs:Ql Int,bT (n+1) (.lst (xs.map D.int)) (.lst (xs.map D.int))=Qt
 |[]=>rfl
 |x::xs=>by have:=D9 n xs;simp only[bT]at this ⊢;simp only[OF,Pu,PN,this,Ux];cases n<;>rfl
def jo{k:Ql Ev->Qo Ev}{fc:DE}{rc:Ev}(h1:fa t=Qs ra)(h2:fb t=Qs rb)(h3:fc t=Qs rc):ag k (ae fa (ae fb (ae fc ai))) t=k [ra,rb,rc]:=by simp[ag,ae,ai,h1,h2,h3]
def gh{k:Ql Ev->Qo Ev}(h1:fa t=Qs ra):ag k (ae fa ai) t=k [ra]:=by simp[ag,ae,ai,h1]
def iB{d:D}(hf:f t=Qs (.cl d))(hi:i<t.length):aN i f t=Qs (.nx (t.set i (.val d))):=N8 t hf hi
def jf{xs:Ql D}(hf:f t=Qs (.nw xs))(hi:i<t.length):aN i f t=Qs (.nx (t.set i (.own xs))):=by unfold aN;rw[hf];simp only[Oz,cR,hi,if_true,P7]
def Lc (xs:Ql Int)(h1:r1.d=.lst (xs.map D.int))(h2:r2.d=.lst (xs.map D.int)):di r1 r2=Qs (.cl (.bl Qf)):=by unfold di;rw[h1,h2,S9 (D9 5 xs),Eb];rfl
def xB(n b:Nat)(h:b<n):Vn n (b:Int)=Qs b:=by unfold Vn;rw[S9 (by lia),S9 (by lia)];simp
def get_map(L:Ql Int)(b:Nat)(h:b<L.length):(L.map D.int)[b]?=Qs (.int (L.getD b 0)):=by simp[ON,h]
def N4(L:Ql Int)(b:Nat)(h:b<L.length):UO (L.map D.int) (b:Int)=Qs (.int (L.getD b 0)):=by unfold UO;rw[xB _ _ (by simpa using h)];exact get_map L b h
def Mi (L:Ql Int)(b:Nat)(h:b<L.length)(h1:r1.d=.lst (L.map D.int))(h2:r2.d=.int (b:Int)):az r1 r2=Qs (.cl (.int (L.getD b 0))):=by unfold az;rw[h1,h2];show(UO (L.map D.int) (b:Int)).map _=_;rw[N4 L b h];simp[flat]
def xK{c:DT}{g1 g2:DS}{b:Bool}(h:c t=Qs b):bI c g1 g2 t=if b then g1 t else g2 t:=by unfold bI;rw[h];rfl
def iU{c:DT}{g1 g2:DS}{b:Bool}(h:c t=Qs b)(hb:b=Qt):bI c g1 g2 t=g1 t:=by rw[xK h,hb];rfl
def xM{c:DT}{g1 g2:DS}{b:Bool}(h:c t=Qs b)(hb:b=Qf):bI c g1 g2 t=g2 t:=by rw[xK h,hb];rfl
def Mt (p:Int)(K:Ql Int)(h1:r1.d=.int p)(h2:r2.d=.lst (K.map D.int)):Vf r1 r2=Qs (.cl (.bl (decide (p∈K)))):=by
 unfold Vf;rw[h1,h2];clear h2;have e1:(K.map D.int).all (λd=>aM d&&bT 0 d (.int p))=Qt:=by rw[PF];intro d hd;obtain⟨k,_,rfl⟩:=O2.mp hd;rfl
 have e2:(K.map D.int).any (λd=>cq d (.int p))=decide (p∈K):=by
  induction K with
  |nil=>rfl
  |cons k K ih=>
   have ZY:(K.map D.int).all (λd=>aM d&&bT 0 d (.int p))=Qt:=by simp only[OF,PN,OH]at e1;exact e1.2
   rw[OF,Qh,ih ZY,yN];by_cases h:k=p
   .subst h;simp
   .have:¬p=k:=λq=>h q.symm;simp[h,this]
 show(if aM (.int p)&&(K.map D.int).all (λd=>aM d&&bT 0 d (.int p)) then Qs (Ev.cl (.bl ((K.map D.int).any λd=>cq d (.int p)))) else Qn)=_;rw[e1,e2];rfl
def NU (p:Int)(K:Ql Int)(ha:fa t=Qs r1)(hb:fb t=Qs r2)(h1:r1.d=.int p)(h2:r2.d=.lst (K.map D.int)):aC (d2 Vf fa fb) t=Qs (decide (p∈K)):=by unfold aC;rw[cP ha hb,Mt p K h1 h2];rfl
def Oa(t:Th) (hf:f t=Qs (.cl (.int p)))(hi:t[i]?=Qs (.own (xs.map D.int)))(hl:xs.length<100000):jc i f t=Qs (.nx (t.set i (.own ((xs++[p]).map D.int)))):=by rw[Fb t hf hi (by simpa using hl)];simp
def uY{g1 g2:DS}(h:g1 t=Qs (.rt r)):aF g1 g2 t=Qs (.rt r):=by simp[aF,h]
def fL{c:DT}{g:DS}{b:Bool}(h:c t=Qs b)(hb:b=Qf):bI c g bX t=Qs (.nx t):=(xM h hb).trans rfl
def Uj{g:Qo Out}(h:g=Qs (.rt r)):g.bind dg=Qs r:=by rw[h];rfl
def jW (h1:fa t=Qs (.cl (.int a)))(h2:fb t=Qs (.cl (.int b))):(d2 dY fa fb) t=Qs (.cl (.int (a+b))):=(cP h1 h2).trans rfl
def Ap (h1:fa t=Qs (.cl (.int a)))(h2:fb t=Qs (.cl (.int b))):(d2 qS fa fb) t=Qs (.cl (.int (a-b))):=(cP h1 h2).trans rfl
def Cc (h1:fa t=Qs (.cl (.int a)))(h2:fb t=Qs (.cl (.int b)))(hb:b≠0):(d2 qR fa fb) t=Qs (.cl (.int (a.fmod b))):=by rw[cP h1 h2];show(if jS a b=Qt then _ else Qn)=_;rw[S9 (by unfold jS;exact Uc hb)]
def ph (h1:fa t=Qs (.cl (.int a)))(h2:fb t=Qs (.cl (.int b)))(hb:b≠0)(hs:sm b=Qt):(d2 qV fa fb) t=Qs (.cl (.int (a.fdiv b))):=by rw[cP h1 h2];show(if Xv a b=Qt then _ else Qn)=_;rw[S9 (by unfold Xv;rw[hs];simp[hb])]
def lh (h1:fa t=Qs (.cl (.int a)))(h2:fb t=Qs (.cl (.int b)))(ha:sm a=Qt)(hb:sm b=Qt):(d2 qM fa fb) t=Qs (.cl (.int (a*b))):=by
 rw[cP h1 h2];have:Xe a b=Qt:=by simp only[Xe];rw[ha,hb];rfl
 simp[lC,kI,Ev.d,this]
def oF (h1:fa t=Qs (.cl (.int a)))(h2:fb t=Qs (.cl (.int b))):aC (d2 qL fa fb) t=Qs (decide (a<b)):=by unfold aC;rw[cP h1 h2];rfl
def o5 (h1:fa t=Qs (.cl (.int a)))(h2:fb t=Qs (.cl (.int b))):aC (d2 qG fa fb) t=Qs (decide (b<a)):=by unfold aC;rw[cP h1 h2];rfl
def pf (h1:fa t=Qs (.cl (.int a)))(h2:fb t=Qs (.cl (.int b))):aC (d2 fq fa fb) t=Qs (decide (a=b)):=by unfold aC;rw[cP h1 h2];have:fq (.cl (.int a)) (.cl (.int b))=Qs (.cl (.bl (cq (.int a) (.int b)))):=rfl;rw[this,yN];rfl
def wZ (h1:fa t=Qs (.cl (.int a)))(h2:fb t=Qs (.cl (.int b))):aC (d2 di fa fb) t=Qs (!decide (a=b)):=by unfold aC;rw[cP h1 h2];have:di (.cl (.int a)) (.cl (.int b))=Qs (.cl (.bl (!cq (.int a) (.int b)))):=rfl;rw[this,yN];rfl
def Fc{f g:DT}{a b:Bool}(h1:f t=Qs a)(h2:g t=Qs b):iz f g t=Qs (a&&b):=by unfold iz;rw[h1];cases a<;>simp[h2]
def oI (h:f t=Qs r)(hr:r.d=.lst (xs.map D.int)):(ag bK (ae f ai)) t=Qs (.cl (.int (xs.length:Int))):=by rw[gh h];unfold bK;simp only[hr,OI]
def xy (L:Ql Int)(b:Nat)(ha:fa t=Qs r1)(hb:fb t=Qs r2)(h:b<L.length)(h1:r1.d=.lst (L.map D.int))(h2:r2.d=.int (b:Int)):(d2 az fa fb) t=Qs (.cl (.int (L.getD b 0))):=by rw[cP ha hb,Mi L b h h1 h2]
def pP{G:Ql D->Qo Ev}(h:G (rs.map Ev.d)=Qs (.nw (xs.map D.int))):aO G rs=Qs (.nw (xs.map D.int)):=by
 unfold aO;rw[h];simp only[P7,gL];split
 .rfl
 .simp[UW]
def kK{G:Ql D->Qo Ev}{d:D}(h:G (rs.map Ev.d)=Qs (.cl d))(hf:flat d=Qt):aO G rs=Qs (.cl d):=by
 unfold aO;rw[h];simp only[P7,gL];split
 .rfl
 .simp[hf]
def ud{g:DA}(h1:f t=Qs r)(h2:g t=Qs rs):ae f g t=Qs (r::rs):=by unfold ae;rw[h1,h2];rfl
def kc (h:f t=Qs r):cO f t=Qs (.rt r):=by unfold cO;rw[h];rfl
def DX{k:D->Th->Qo Th}{b:DS}(h:f t=Qs r)(hd:r.d=.lst ds)(ho:r.ok=Qt):d8 k f b t=bj k b ds t:=by unfold d8;rw[h];simp only[Oz,hd,ho,if_true]
def AR(x:Int):∀m:Nat,(OR m [D.int x]).flatten=(OR m x).map D.int
 |0=>rfl
 |m+1=>by rw[PZ,QV,AR x m,PZ];rfl
def HQ{m:Nat}(h1:fa t=Qs (.nw [.int x]))(h2:fb t=Qs (.cl (.int (m:Int))))(hm:m<=900):(d2 qM fa fb) t=Qs (.nw ((OR m x).map D.int)):=by rw[cP h1 h2];show(if([D.int x].length<=100&&decide (-1000000<=(m:Int)/\(m:Int)<=1000))=Qt then Qs (Ev.nw (OR (m:Int).toNat [D.int x]).flatten) else Qn)=_;rw[S9 (by simp;lia),Qc,AR]
def uW(n:Nat):Builtin.Range.rangeSize 0 (n:Int) 1=(n:Int):=by unfold Builtin.Range.rangeSize;rw[S9 (by lia)];split<;>lia
def Ki (hn:n<=1000):kU 0 (n:Int) 1=Qt:=by unfold kU;rw[GV (by lia) (by lia),uW,Uc (by lia)];rfl
def xf (h:f t=Qs (.cl (.int (n:Int))))(hn:n<=1000):(jP (ae f ai)) t=Qs (.nw ((av n).map D.int)):=by
 have e:(ae f ai) t=Qs [.cl (.int (n:Int))]:=by simp[ae,ai,h]
 have e2:rY ([Ev.cl (.int (n:Int))].map Ev.d)=Qs (0,(n:Int),1):=rfl;have c:(kU 0 (n:Int) 1&&decide (Builtin.Range.rangeSize 0 (n:Int) 1<=50000))=Qt:=by rw[Ki hn,uW,Uc (by lia)];rfl
 unfold jP;rw[e,Oz,e2,Oz,S9 c];unfold rP av;rw[uW,Qc];simp
def HL{k0:D->Th->Qo Th}{b:DS}(h:f t=Qs r)(hr:r.d=.int (n:Int))(hn:n<=100000):g6 k0 f b t=bj k0 b ((av n).map D.int) t:=by unfold g6;rw[h];simp only[Oz,hr];rw[S9 (by unfold dk;exact Uc (by lia)),Qc];congr 1;unfold dm av;simp
def B6(n:Nat):av (n+1)=av n++[(n:Int)]:=by unfold av;rw[List.range_succ];simp
def am(L:Ql Int):Nat->Nat
 |0=>0
 |k+1=>if L.getD k 0<L.getD (am L k) 0 then k else am L k
def sX (h:f t=Qs r)(hr:r.d=.lst (xs.map D.int)):(ag dU (ae f ai)) t=Qs (.nw (xs.map D.int)):=by rw[gh h];unfold dU;simp only[hr,UW,P1,if_true]
def Lb (xs:Ql Int)(ha:fa t=Qs r1)(hb:fb t=Qs r2)(h1:r1.d=.lst (xs.map D.int))(h2:r2.d=.lst (xs.map D.int)):aC (d2 di fa fb) t=Qs Qf:=by unfold aC;rw[cP ha hb,Lc xs h1 h2];rfl
def rD (h:f t=Qs r)(hr:r.d=.lst (xs.map D.int))(hl:xs.length<64):(ag iS (ae f ai)) t=Qs (.nw ((U6 xs).map D.int)):=by rw[gh h];unfold iS;simp only[hr,xF,Oz];rw[S9 hl]
def yX{k:D->Th->Qo Th}{fe:DE}{f:Int->Int}{ext:Th}(hk:∀(s:Sl) (x:Int),k (.int x) (s::ext)=Qs (.val (.int x)::ext)):∀(xs:Ql Int) (s:Sl),(∀x∈xs,fe (.val (.int x)::ext)=Qs (.cl (.int (f x))))->bU k bL fe (xs.map D.int) (s::ext)=Qs ((xs.map f).map D.int)
 |[],s,_=>rfl
 |x::xs,s,hf=>by simp only[OF,bU,hk,Oz,bL,hf x (Ox ..),if_true];rw[yX hk xs _ λy hy=>hf y (Ov _ hy)];rfl
def y8{cap:Ql Nat}{g:Int->Int}{b:Bool}(hf:f t=Qs r)(hr:r.d=.lst (xs.map D.int))(hn:xs.length<=50000)(hc:fZ t cap=Qs (b,c))(he:∀x∈xs,fe (.val (.int x)::c.map Sl.val)=Qs (.cl (.int (g x)))): (bE 1 cap (cV f) bc bL fe) t=Qs (.nw ((xs.map g).map D.int)):=by
 unfold bE;have e1:cV f t=Qs (r.ok,xs.map D.int):=by unfold cV;rw[hf];simp only[Oz,hr]
 have e2:bU bc bL fe (xs.map D.int) (Sl.no::c.map Sl.val)=Qs ((xs.map g).map D.int):=yX (λ_ _=>rfl) _ _ he;rw[e1,hc];simp only[Oz];rw[S9 (by simpa using hn)];show(bU bc bL fe (xs.map D.int) (Sl.no::c.map Sl.val)).bind _=_;rw[e2];simp only[Oz,UW,P1,if_true]
def GH (h:f t=Qs r)(hr:r.d=.lst (xs.map D.int)):(ag oM (ae f ai)) t=Qs (.cl (.int xs.sum)):=by rw[gh h];unfold oM;simp only[hr,xF];rfl
def DZ{k:D->Th->Qo Th}{b:DS}{d1 d2:D}{t1' t2 t2':Th}(h1:k d1 t=Qs t1)(e1:b t1=Qs (.nx t1'))(h2:k d2 t1'=Qs t2)(e2:b t2=Qs (.nx t2')):bj k b [d1,d2] t=Qs (.nx t2'):=by simp only[bj,h1,e1,h2,e2,Oz]
end KX
set_option maxHeartbeats 1000000
namespace KX
open PySem.Spec L2 DL
section
variable {ρ:Res}{t':Th}{w w1 w2:ρ.γ}{p:Xl}
def yR (h:f t=Qs r):bQ ρ f t w=Qs (r,w):=by simp[bQ,h]
def eP{k:Ev->Ev->Qo Ev}{fa fb:WE ρ}(h1:fa t w=Qs (r1,w1))(h2:fb t w1=Qs (r2,w2))(hk:k r1 r2=Qs r):cW k fa fb t w=Qs (r,w2):=by simp[cW,h1,h2,hk]
def zE:(V4:WA ρ) t w=Qs ([],w):=rfl
def pU{f:WE ρ}{g:WA ρ}(h1:f t w=Qs (r,w1))(h2:g t w1=Qs (rs,w2)):bZ f g t w=Qs (r::rs,w2):=by simp[bZ,h1,h2]
def yQ{G:ρ.γ->Ql D->Qo (Ev×ρ.γ)}{ga:WA ρ}(h:ga t w=Qs (.cl (.adr p)::rs,w1))(hG:G w1 (rs.map Ev.d)=Qs (r,w2)):eX p G ga t w=Qs (gL (rs.all Ev.ok) r,w2):=by simp[eX,h,hG]
def rh{f:WE ρ}{b:Bool}(h:f t w=Qs (.cl (.bl b),w1)):ml f t w=Qs (b,w1):=by simp[ml,h,Ev.d]
def Ah{f:DT}{b:Bool}(h:f t=Qs b):j4 ρ f t w=Qs (b,w):=by simp[j4,h]
def Gi{f g:WT ρ}(h:f t w=Qs (Qt,w1)):XB f g t w=Qs (Qt,w1):=by simp[DL.XB,h]
def Gj{f g:WT ρ}(h:f t w=Qs (Qf,w1)):XB f g t w=g t w1:=by simp[DL.XB,h]
def iM{g:DS}(h:g t=Qs (.nx t')):ez ρ g t w=Qs (.nx t' w):=by simp[ez,h,oL]
def AJ{g:DS}(h:g t=Qs (.rt r)):ez ρ g t w=Qs (.rt r w):=by simp[ez,h,oL]
def cZ{g1 g2:WS ρ}(h:g1 t w=Qs (.nx t' w1)):cg g1 g2 t w=g2 t' w1:=by simp[cg,h]
def vL{g1 g2:WS ρ}(h:g1 t w=Qs (.rt r w1)):cg g1 g2 t w=Qs (.rt r w1):=by simp[cg,h]
def vM{c:WT ρ}{g1 g2:WS ρ}(h:c t w=Qs (Qt,w1)):jq c g1 g2 t w=g1 t w1:=by simp[jq,h]
def vN{c:WT ρ}{g1 g2:WS ρ}(h:c t w=Qs (Qf,w1)):jq c g1 g2 t w=g2 t w1:=by simp[jq,h]
def rO{f:WE ρ}(h:f t w=Qs (r,w1)):j8 f t w=Qs (.rt r w1):=by simp[j8,h]
def kb{f:WE ρ}{d:D}(h:f t w=Qs (.cl d,w1))(hi:i<t.length):e9 i f t w=Qs (.nx (t.set i (.val d)) w1):=by simp[e9,h,cR,hi]
def HH{f:WE ρ}{xs:Ql D}(h:f t w=Qs (.nw xs,w1))(hi:i<t.length):e9 i f t w=Qs (.nx (t.set i (.own xs)) w1):=by simp[e9,h,cR,hi]
def AK{k:D->Th->Qo Th}{fs:WI ρ}{b:WS ρ}(h:fs t w=Qs ((Qt,ds),w1)):kT k fs b t w=fM k b ds t w1:=by simp[kT,h]
def xN{fs:DI}{q:Bool×Ql D}(h:fs t=Qs q):kz ρ fs t w=Qs (q,w):=by simp[kz,h]
def yE{k:D->Th->Qo Th}{b:WS ρ}{d:D}{t2:Th}(h1:k d t=Qs t1)(h2:b t1 w=Qs (.nx t2 w1)):fM k b (d::ds) t w=fM k b ds t2 w1:=by simp[fM,h1,h2]
def Nr{k:D->Th->Qo Th}{ft:WT ρ}{fe:WE ρ}{d:D}{ys:Ql D×ρ.γ}{w3:ρ.γ}(h1:k d t=Qs t1)(h2:ft t1 w=Qs (Qt,w1))(h3:fe t1 w1=Qs (r,w2))(h4:eW k ft fe ds t1 w2=Qs (ys.1,w3)):eW k ft fe (d::ds) t w=Qs (r.d::ys.1,w3):=by simp[eW,h1,h2,h3,h4]
def Nd{cap:Ql Nat}{fs:WI ρ}{k:D->Th->Qo Th}{ft:WT ρ}{fe:WE ρ}{b c:Bool}{cs ys:Ql D}(h1:fs t w=Qs ((b,ds),w1))(h2:fZ t cap=Qs (c,cs))(hl:ds.length<=50000)(h3:eW k ft fe ds (OR n Sl.no++cs.map Sl.val) w1=Qs (ys,w2))(hf:Ui ys=Qt):mZ n cap fs k ft fe t w=Qs (.nw ys,w2):=by unfold mZ;rw[h1];show((fZ t cap).bind λc=>if ds.length<=50000 then(eW k ft fe ds (OR n Sl.no++c.2.map Sl.val) w1).bind λys=>if(b&&c.1)||Ui ys.1 then Qs (Ev.nw ys.1,ys.2) else Qn else Qn)=_;rw[h2];show(if ds.length<=50000 then(eW k ft fe ds (OR n Sl.no++cs.map Sl.val) w1).bind λys=>if(b&&c)||Ui ys.1 then Qs (Ev.nw ys.1,ys.2) else Qn else Qn)=_;rw[S9 hl,h3];show(if(b&&c)||Ui ys then Qs (Ev.nw ys,w2) else Qn)=_;rw[hf,P1,S9 rfl]
def lj{k:Nat}{N:Ql Str}{g:Xl->WS ρ}(hl:ds.length+1=k)(h:∀p,g p (rB N p ds) w=Qs (.rt r w1)):iQ k N g w ds=Qs (r,w1):=Lm hl λp=>by unfold mr;rw[h p];rfl
end
structure V9(w:Int×Int):Prop where
 c0:0<=w.1
 n0:0<=w.2
 n1:w.2<2147483647
def eE{w:Int×Int}(h:f t=Qs r):bQ aj f t w=Qs (r,w):=yR (ρ:=aj) h
def iu{G:Int×Int->Ql D->Qo (Ev×(Int×Int))}{fm:DE}{p:Xl}{w w':Int×Int}{r:Int}(hi:t[i]?=Qs (.val (.adr p)))(hm:fm t=Qs (.cl (.int m)))(hG:G w [.int m]=Qs (.cl (.int r),w')):eX (ρ:=aj) p G (bZ (bQ aj (af i)) (bZ (bQ aj fm) V4)) t w=Qs (.cl (.int r),w'):=by
 have h0:af i t=Qs (.cl (.adr p)):=by unfold af;rw[hi]
 exact yQ (rs:=[.cl (.int m)]) (pU (ρ:=aj) (yR h0) (pU (ρ:=aj) (yR hm) zE)) hG
def sE{p:Xl}{w:Int×Int}(hi:t[i]?=Qs (.val (.adr p))):gY p i 0 t w=Qs (.cl (.int w.1),w):=by simp[gY,hi];rfl
def BC{p:Xl}{w:Int×Int}(hi:t[i]?=Qs (.val (.adr p))):gY p i 1 t w=Qs (.cl (.int w.2),w):=by simp[gY,hi];rfl
def IY{p:Xl}{w w1:Int×Int}{f:WE aj}{n:Int}(hi:t[i]?=Qs (.val (.adr p)))(h:f t w=Qs (.cl (.int n),w1)):j9 p i 0 f t w=Qs (.nx t (n,w1.2)):=by unfold j9;rw[h,hi];exact S9 rfl
def IW{p:Xl}{w w1:Int×Int}{f:WE aj}{n:Int}(hi:t[i]?=Qs (.val (.adr p)))(h:f t w=Qs (.cl (.int n),w1)):j9 p i 1 f t w=Qs (.nx t (w1.1,n)):=by unfold j9;rw[h,hi];exact S9 rfl
def oJ (h:b≠0):qR (.cl (.int a)) (.cl (.int b))=Qs (.cl (.int (a.fmod b))):=by show(if jS a b then Qs (Ev.cl (.int (a.fmod b))) else Qn)=_;rw[S9 (by unfold jS;exact Uc h)]
def CY (h:b≠0)(hs:sm b=Qt):qV (.cl (.int a)) (.cl (.int b))=Qs (.cl (.int (a.fdiv b))):=by show(if Xv a b then Qs (Ev.cl (.int (a.fdiv b))) else Qn)=_;rw[S9 (by unfold Xv;rw[hs,Uc h];rfl)]
def xp (ha:sm a=Qt)(hs:sm b=Qt):qM (.cl (.int a)) (.cl (.int b))=Qs (.cl (.int (a*b))):=by
 (try unfold dY);(try unfold qM);unfold lC
 have:(kI Xe λi j=>.int (i*j)) (.cl (.int a)) (.cl (.int b))=Qs (.cl (.int (a*b))):=by show(if Xe a b then Qs (Ev.cl (.int (a*b))) else Qn)=_;rw[S9 (by unfold Xe;rw[ha,hs];rfl)]
 rw[this]
def xu:dY (.cl (.int a)) (.cl (.int b))=Qs (.cl (.int (a+b))):=rfl
def Me:fq (.cl (.int a)) (.cl (.int b))=Qs (.cl (.bl (decide (a=b)))):=rfl
def CU:qG (.cl (.int a)) (.cl (.int b))=Qs (.cl (.bl (decide (b<a)))):=rfl
def VP (h0:0<=a)(h1:a<1000000000000000000):sm a=Qt:=j6 (by lia) (by lia)
end KX
set_option maxHeartbeats 4000000
namespace KX
open PySem.Spec L2 DL
def pD(p:Int×Int):D:=.tup [.int p.1,.int p.2]
def yG:∀ts:Ql (Int×Int),Ui (ts.map pD)=Qt
 |[]=>rfl
 |p::ts=>by simp only[OF,Ui,yG ts];rfl
def xj (h:f t=Qs r)(hr:r.d=.lst (ts.map pD)):(ag dU (ae f ai)) t=Qs (.nw (ts.map pD)):=by rw[gh h];unfold dU;simp only[hr,yG,P1,if_true]
end KX
set_option maxHeartbeats 1000000
namespace KX
open PySem.Spec L2 DL
def wk (h1:fa t=Qs (.cl (.int a)))(h2:fb t=Qs (.cl (.int b)))(h:nh a b=Qt):(d2 qP fa fb) t=Qs (.cl (.int (a^b.toNat))):=by rw[cP h1 h2];show(if nh a b then Qs (Ev.cl (.int (a^b.toNat))) else Qn)=_;rw[S9 h]
def Jk(ns:Ql Int)(hl:ns.length<=63){k:Nat}(hk:k<=100):∃c n:Int,V9 (c,n)/\qD [.lst (ns.map D.int),.int (k:Int)]=Qs (.nw [.int c,.int n]):=by
 let N:Sl:=.val (.lst (ns.map D.int))
 let K:Sl:=.val (.int (k:Int))
 have E1:aN 2 aQ [N,K,.no,.no]=Qs (.nx [N,K,.val (.int 0),.no]):=rfl;have c1:=oF (fa:=af 1) (t:=[N,K,.val (.int 0),.no]) (a:=(k:Int)) rfl (oI (xs:=ns) (f:=af 0) (t:=[N,K,.val (.int 0),.no]) (r:=.cl (.lst (ns.map D.int))) rfl rfl);obtain⟨v,E2⟩:∃v:Int,(bI (aC (d2 qL aA (ag bK fR))) (aN 2 (d2 az aq aA)) bX) [N,K,.val (.int 0),.no]=Qs (.nx [N,K,.val (.int v),.no]):=by
  by_cases h:(k:Int)<(ns.length:Int)
  .have e:=xy (fa:=af 0) (fb:=af 1) (t:=[N,K,.val (.int 0),.no]) (r1:=.cl (.lst (ns.map D.int))) (r2:=.cl (.int (k:Int))) ns k rfl rfl (by lia) rfl rfl;exact⟨_,(iU c1 (Uc h)).trans (iB (i:=2) e (by simp))⟩
  .exact⟨0,fL c1 (UJ h)⟩
 let t2:Th:=[N,K,.val (.int v),.no]
 have f0:0<=v.fmod 2147483629:=P9 _ (by decide);have f1:v.fmod 2147483629<2147483629:=Qz _ (by decide);have kk:(k:Int)*(k:Int)<=10000:=by have:k*k<=100*100:=SY hk hk;have e:((k*k:Nat):Int)=(k:Int)*(k:Int):=Int.natCast_mul k k;lia
 have k0:0<=(k:Int)*(k:Int):=Q5 (by lia) (by lia);have m1:=lh (fa:=dC (.int 104729)) (fb:=af 1) (t:=t2) (a:=104729) (b:=(k:Int)) rfl rfl (j6 (by decide) (by decide)) (j6 (by lia) (by lia));have m2:=lh (fb:=af 1) (t:=t2) (b:=(k:Int)) m1 rfl (j6 (by lia) (by lia)) (j6 (by lia) (by lia));have em:104729*(k:Int)*(k:Int)=104729*((k:Int)*(k:Int)):=Rb _ _ _;rw[em]at m2;have a1:=jW (jW (Cc (fa:=af 2) (fb:=dC (.int 2147483629)) (t:=t2) (a:=v) (b:=2147483629) rfl rfl (by decide)) m2) (rfl:dC (.int 11) t2=Qs (.cl (.int 11)));have p1:=wk a1 (rfl:dC (.int 3) t2=Qs (.cl (.int 3))) (by unfold nh;exact Uc (by lia));have n1:=Cc p1 (rfl:dC (.int 2147483647) t2=Qs (.cl (.int 2147483647))) (by decide);have g0:=P9 ((v.fmod 2147483629+104729*((k:Int)*(k:Int))+11)^(3:Int).toNat) (show(0:Int)<2147483647 by decide);have g1:=Qz ((v.fmod 2147483629+104729*((k:Int)*(k:Int))+11)^(3:Int).toNat) (show(0:Int)<2147483647 by decide);generalize ((v.fmod 2147483629+104729*((k:Int)*(k:Int))+11)^(3:Int).toNat).fmod 2147483647=n at*
 have E3:=iB (i:=3) n1 (by simp[t2]);let t3:Th:=[N,K,.val (.int v),.val (.int n)]
 have p2:=wk (fa:=dC (.int 10)) (fb:=dC (.int 18)) (t:=t3) (a:=10) (b:=18) rfl rfl (by decide);have c4:=oF (fa:=af 2) (t:=t3) (a:=v) rfl p2;obtain⟨c,c0,E4⟩:∃c:Int,0<=c/\(bI (aC (d2 qL aU (d2 qP qW (dC (.int 18))))) (aN 2 aQ) bX) t3=Qs (.nx [N,K,.val (.int c),.val (.int n)]):=by
  by_cases h:v<(10:Int)^(18:Int).toNat
  .exact⟨0,Pz _,(iU c4 (Uc h)).trans rfl⟩
  .have:(0:Int)<=(10:Int)^(18:Int).toNat:=by decide
   exact⟨v,by lia,fL c4 (UJ h)⟩
 refine⟨c,n,⟨c0,g0,g1⟩,?_⟩;show(xY [N,K,.no,.no]).bind dg=_;refine Uj ?_;exact(aL E1).trans ((aL E2).trans ((aL E3).trans ((aL E4).trans rfl)))
def iJ{w:Int×Int}(hw:V9 w) (m0:0<m)(hs:sm m=Qt):∃(r:Int) (w':Int×Int),0<=r/\r<m/\V9 w'/\eZ w [.int m]=Qs (.cl (.int r),w'):=by
 obtain⟨h0,h1,h2⟩:=hw;by_cases hc:0<w.1
 .refine⟨w.1.fmod m,(w.1.fdiv m,w.2),P9 _ m0,Qz _ m0,⟨Int.fdiv_nonneg h0 (by lia),h1,h2⟩,lj rfl λp=>?_⟩;let t0:Th:=[.val (.adr p),.val (.int m),.no]
  let t1:Th:=[.val (.adr p),.val (.int m),.val (.int (w.1.fmod m))]
  have e1:=rh (eP (ρ:=aj) (sE (i:=0) (t:=t0) (p:=p) (w:=w) rfl) (eE (rfl:dC (.int 0) t0=Qs (.cl (.int 0)))) CU);rw[Uc hc]at e1;have e2:=kb (i:=2) (eP (ρ:=aj) (sE (i:=0) (t:=t0) (p:=p) (w:=w) rfl) (eE (rfl:af 1 t0=Qs (.cl (.int m)))) (oJ (by lia))) (by simp[t0]);have e3:=IY (i:=0) (t:=t1) (p:=p) (w:=w) rfl (eP (ρ:=aj) (sE (i:=0) (t:=t1) (p:=p) (w:=w) rfl) (eE (rfl:af 1 t1=Qs (.cl (.int m)))) (CY (by lia) hs));refine vL ((vM e1).trans ((cZ e2).trans ((cZ e3).trans ?_)));rfl
 .obtain⟨n',ZN⟩:∃n',n'=(w.2*48271+11).fmod 2147483647:=⟨_,rfl⟩;have n0:0<=n':=by rw[ZN];exact P9 _ (by decide)
  have n1:n'<2147483647:=by rw[ZN];exact Qz _ (by decide)
  refine⟨(((n'*n').fmod 2147483629).fdiv 64).fmod m,(w.1,n'),P9 _ m0,Qz _ m0,⟨h0,n0,n1⟩,lj rfl λp=>?_⟩;let t0:Th:=[.val (.adr p),.val (.int m),.no]
  have e1:=rh (eP (ρ:=aj) (sE (i:=0) (t:=t0) (p:=p) (w:=w) rfl) (eE (rfl:dC (.int 0) t0=Qs (.cl (.int 0)))) CU);rw[UJ hc]at e1;have e2:=IW (i:=0) (t:=t0) (p:=p) (w:=w) rfl (eP (ρ:=aj) (eP (ρ:=aj) (eP (ρ:=aj) (BC (i:=0) (t:=t0) (p:=p) (w:=w) rfl) (eE (rfl:dC (.int 48271) t0=Qs (.cl (.int 48271)))) (xp (VP h1 (by lia)) (VP (by decide) (by decide)))) (eE (rfl:dC (.int 11) t0=Qs (.cl (.int 11)))) xu) (eE (rfl:dC (.int 2147483647) t0=Qs (.cl (.int 2147483647)))) (oJ (by decide)));rw[<-ZN]at e2;have g1:=BC (i:=0) (t:=t0) (p:=p) (w:=(w.1,n')) rfl;have e3:=rO (eP (ρ:=aj) (eP (ρ:=aj) (eP (ρ:=aj) (eP (ρ:=aj) g1 g1 (xp (VP n0 (by lia)) (VP n0 (by lia)))) (eE (rfl:dC (.int 2147483629) t0=Qs (.cl (.int 2147483629)))) (oJ (by decide))) (eE (rfl:dC (.int 64) t0=Qs (.cl (.int 64)))) (CY (by decide) (VP (by decide) (by decide)))) (eE (rfl:af 1 t0=Qs (.cl (.int m)))) (oJ (by lia)));exact(cZ ((vN e1).trans rfl)).trans ((cZ e2).trans e3)
def Fy{w:Int×Int}(hw:V9 w) (m0:0<m):∃(r:Int) (w':Int×Int),0<=r/\r<m/\V9 w'/\uC w [.int m]=Qs (.cl (.int r),w'):=by
 obtain⟨a,w1,a0,a1,o1,e1⟩:=iJ hw (m:=1000003) (by decide) (VP (by decide) (by decide));obtain⟨b,w2,b0,b1,o2,e2⟩:=iJ o1 (m:=1000003) (by decide) (VP (by decide) (by decide));refine⟨(a*1000003+b).fmod m,w2,P9 _ m0,Qz _ m0,o2,lj rfl λp=>?_⟩;let t0:Th:=[.val (.adr p),.val (.int m)]
 have d1:=iu (i:=0) (t:=t0) (p:=p) rfl (rfl:dC (.int 1000003) t0=Qs (.cl (.int 1000003))) e1;have Xu:=iu (i:=0) (t:=t0) (p:=p) rfl (rfl:dC (.int 1000003) t0=Qs (.cl (.int 1000003))) e2;exact rO (eP (ρ:=aj) (eP (ρ:=aj) (eP (ρ:=aj) d1 (eE (rfl:dC (.int 1000003) t0=Qs (.cl (.int 1000003)))) (xp (VP a0 (by lia)) (VP (by decide) (by decide)))) Xu xu) (eE (rfl:af 1 t0=Qs (.cl (.int m)))) (oJ (by lia)))
def Fz{w:Int×Int}(hw:V9 w):∃(r:Int) (w':Int×Int),0<=r/\r<=1000000000000/\V9 w'/\lY w []=Qs (.cl (.int r),w'):=by
 obtain⟨a,w1,a0,a1,o1,e1⟩:=iJ hw (m:=8) (by decide) (VP (by decide) (by decide));have first:∀p,e9 1 (eX p eZ (bZ g9 (bZ (bQ aj (dC (.int 8))) V4))) [.val (.adr p),.no] w=Qs (.nx [.val (.adr p),.val (.int a)] w1):=λp=>kb (i:=1) (iu (i:=0) (t:=[.val (.adr p),.no]) (p:=p) rfl rfl e1) (by simp)
 have q:∀p:Xl,aC (d2 fq aA aQ) [.val (.adr p),.val (.int a)]=Qs (decide (a=0)):=λp=>pf (fa:=af 1) (fb:=dC (.int 0)) (a:=a) (b:=0) rfl rfl;by_cases h0:a=0
 .refine⟨0,w1,Pz _,by decide,o1,lj rfl λp=>?_⟩;refine(cZ (first p)).trans (vL (AJ ((iU (q p) (Uc h0)).trans rfl)))
 .have skip:∀p:Xl,ez aj (bI (aC (d2 fq aA aQ)) (cO aQ) bX) [.val (.adr p),.val (.int a)] w1=Qs (.nx [.val (.adr p),.val (.int a)] w1):=λp=>iM (fL (q p) (UJ h0));have q2:∀p:Xl,j4 aj (aC (d2 qL aA qY)) [.val (.adr p),.val (.int a)] w1=Qs (decide (a<6),w1):=λp=>Ah (oF (fa:=af 1) (fb:=dC (.int 6)) (a:=a) (b:=6) rfl rfl);by_cases h6:a<6
  .obtain⟨b,w2,b0,b1,o2,e2⟩:=iJ o1 (m:=10) (by decide) (VP (by decide) (by decide));refine⟨b,w2,b0,by lia,o2,lj rfl λp=>?_⟩;have z:=q2 p;rw[Uc h6]at z;exact(cZ (first p)).trans ((cZ (skip p)).trans (vL ((vM z).trans (rO (iu (i:=0) (t:=[.val (.adr p),.val (.int a)]) (p:=p) rfl rfl e2)))))
  .obtain⟨b,w2,b0,b1,o2,e2⟩:=Fy o1 (m:=1000000000001) (by decide);refine⟨b,w2,b0,by lia,o2,lj rfl λp=>?_⟩;have z:=q2 p;rw[UJ h6]at z;have pw:=jW (wk (fa:=dC (.int 10)) (fb:=dC (.int 12)) (t:=[.val (.adr p),.val (.int a)]) (a:=10) (b:=12) rfl rfl (by decide)) (rfl:dC (.int 1) _=Qs (.cl (.int 1)));exact(cZ (first p)).trans ((cZ (skip p)).trans ((cZ ((vN z).trans rfl)).trans (rO (iu (i:=0) (t:=[.val (.adr p),.val (.int a)]) (p:=p) (m:=1000000000001) rfl pw e2))))
structure VX(M:Nat)(ts:List (Int×Int)):Prop where
 pos:0<M
 lt:∀e∈ts,0<=e.1/\e.1<e.2/\e.2<(M:Int)
def N9 (h6:t[6]?=Qs (.val (.int a)))(h7:t[7]?=Qs (.val (.int b)))(h5:t[5]?=Qs (.own (ts.map pD)))(hl:ts.length<100000):jc 5 (ag cG (ae (af 6) (ae (af 7) ai))) t=Qs (.nx (t.set 5 (.own ((ts++[(a,b)]).map pD)))):=by
 have e6:af 6 t=Qs (.cl (.int a)):=by unfold af;rw[h6]
 have e7:af 7 t=Qs (.cl (.int b)):=by unfold af;rw[h7]
 have:=Fb t (i:=5) (d:=pD (a,b)) ((eJ (k:=cG) e6 e7).trans rfl) h5 (by rw[OI];exact hl);rw[this,PH];rfl
abbrev tI(p:Xl)(s1:Sl)(M:Nat)(dn ln:Int)(ts:Ql (Int×Int))(a b:Int):Th:=[.val (.adr p),s1,.val (.int (M:Int)),.val (.int dn),.val (.int ln),.own (ts.map pD),.val (.int a),.val (.int b)]
def Cu{M:Nat}{a dn ln:Int}(a0:0<=a)(d0:0<dn)(d1:dn<=100):∀(bs:Ql Int) (ts:Ql (Int×Int)) (w:Int×Int),V9 w->(∀b∈bs,a<b/\b<(M:Int))->ts.length+bs.length<100000->(∀e∈ts,0<=e.1/\e.1<e.2/\e.2<(M:Int))->∃(Wu:Ql (Int×Int)) (w':Int×Int),V9 w'/\Wu.length<=ts.length+bs.length/\(∀e∈Wu,0<=e.1/\e.1<e.2/\e.2<(M:Int))/\∀(p:Xl) (s1 s7:Sl),∃u7,fM nN (EV p) (bs.map D.int) [.val (.adr p),s1,.val (.int (M:Int)),.val (.int dn),.val (.int ln),.own (ts.map pD),.val (.int a),s7] w=Qs (.nx [.val (.adr p),s1,.val (.int (M:Int)),.val (.int dn),.val (.int ln),.own (Wu.map pD),.val (.int a),u7] w')
 |[],ts,w,ok,_,_,ht=>⟨ts,w,ok,by simp,ht,λp s1 s7=>⟨s7,rfl⟩⟩
 |b::bs,ts,w,ok,hb,hl,ht=>by
  rw[OX]at hl;obtain⟨b1,b2⟩:=hb b (Ox ..);obtain⟨r,w1,r0,r1,o1,e1⟩:=iJ ok (m:=dn) d0 (VP (by lia) (by lia));have rest:=λts h1 h2=>Cu (M:=M) (ln:=ln) a0 d0 d1 bs ts w1 o1 (λb XN=>hb b (Ov _ XN)) h1 h2;have dr:∀(p:Xl) (s1 s7:Sl),cW fq (eX p eZ (bZ g9 (bZ (bQ aj aP) V4))) (bQ aj aQ) (tI p s1 M dn ln ts a b) w=Qs (.cl (.bl (decide (r=0))),w1):=λp s1 s7=>eP (ρ:=aj) (iu (i:=0) (p:=p) rfl rfl e1) (eE rfl) Me;have c2:∀(p:Xl) (s1:Sl),rZ (tI p s1 M dn ln ts a b)=Qs (decide (0<ln)&&decide (b=a+1)):=λp s1=>by unfold rZ iz;rw[o5 (fa:=af 4) (fb:=dC (.int 0)) (a:=ln) (b:=0) rfl rfl,pf (fa:=af 7) (a:=b) (b:=a+1) rfl (jW (fa:=af 6) (fb:=dC (.int 1)) (a:=a) (b:=1) rfl rfl)];cases decide (0<ln)<;>rfl
  have yes:(∀(p:Xl) (s1:Sl),(vU p) (tI p s1 M dn ln ts a b) w=Qs (Qt,w1))\/∀(p:Xl) (s1:Sl),(vU p) (tI p s1 M dn ln ts a b) w=Qs (Qf,w1):=by
   by_cases z:r=0
   .refine .inl λp s1=>?_;have:=rh (ρ:=aj) (dr p s1 .no);rw[Uc z]at this;exact Gi this
   .have fst:∀(p:Xl) (s1:Sl),_:=λp s1=>by have:=rh (ρ:=aj) (dr p s1 .no);rw[UJ z]at this;exact(Gj (g:=(j4 aj rZ)) this).trans (Ah (ρ:=aj) (c2 p s1))
    cases hh:decide (0<ln)&&decide (b=a+1) with
    |true=>exact .inl λp s1=>by have:=fst p s1;rw[hh]at this;exact this
    |false=>exact .inr λp s1=>by have:=fst p s1;rw[hh]at this;exact this
  rcases yes with yes|no
  .have el:(ts++[(a,b)]).length=ts.length+1:=by simp
   obtain⟨Wu,w',o',l',h',run⟩:=rest (ts++[(a,b)]) (by lia) (λe he=>by
    rcases Ow.mp he with z|z
    .exact ht e z
    .rw[Oy.mp z];exact⟨a0,b1,b2⟩)
   refine⟨Wu,w',o',by rw[OX];lia,h',λp s1 s7=>?_⟩;obtain⟨u7,e⟩:=run p s1 (.val (.int b));refine⟨u7,(yE (ρ:=aj) (rfl:cC 7 (.int b) [.val (.adr p),s1,.val (.int (M:Int)),.val (.int dn),.val (.int ln),.own (ts.map pD),.val (.int a),s7]=Qs (tI p s1 M dn ln ts a b)) ((vM (yes p s1)).trans (iM (N9 (t:=(tI p s1 M dn ln ts a b)) rfl rfl rfl (by lia))))).trans e⟩
  .obtain⟨Wu,w',o',l',h',run⟩:=rest ts (by lia) ht;refine⟨Wu,w',o',by rw[OX];lia,h',λp s1 s7=>?_⟩;obtain⟨u7,e⟩:=run p s1 (.val (.int b));exact⟨u7,(yE (ρ:=aj) (rfl:cC 7 (.int b) [.val (.adr p),s1,.val (.int (M:Int)),.val (.int dn),.val (.int ln),.own (ts.map pD),.val (.int a),s7]=Qs (tI p s1 M dn ln ts a b)) ((vN (no p s1)).trans rfl)).trans e⟩
def above(a:Int)(M:Nat):Ql Int:=(Pk ((M:Int)-(a+1)).toNat).map λ(i:Nat)=>a+1+(i:Int)
def Od:∀b∈above a M,a<b/\b<(M:Int):=λb hb=>by obtain⟨i,hi,rfl⟩:=O2.mp hb;have:=QA.mp hi;lia
def Co{M:Nat}(hM:M<=60){dn ln:Int}(d0:0<dn)(d1:dn<=100):∀(as:Ql Int) (ts:Ql (Int×Int)) (w:Int×Int),V9 w->(∀a∈as,0<=a/\a<(M:Int))->ts.length+60*as.length<90000->(∀e∈ts,0<=e.1/\e.1<e.2/\e.2<(M:Int))->∃(Wu:Ql (Int×Int)) (w':Int×Int),V9 w'/\Wu.length<=ts.length+(as.map λa=>(above a M).length).sum/\(∀e∈Wu,0<=e.1/\e.1<e.2/\e.2<(M:Int))/\∀(p:Xl) (s1 s6 s7:Sl),∃u6 u7,fM nR (uo p) (as.map D.int) [.val (.adr p),s1,.val (.int (M:Int)),.val (.int dn),.val (.int ln),.own (ts.map pD),s6,s7] w=Qs (.nx [.val (.adr p),s1,.val (.int (M:Int)),.val (.int dn),.val (.int ln),.own (Wu.map pD),u6,u7] w')
 |[],ts,w,ok,_,_,ht=>⟨ts,w,ok,by simp,ht,λp s1 s6 s7=>⟨s6,s7,rfl⟩⟩
 |a::as,ts,w,ok,ha,hl,ht=>by
  rw[OX]at hl;obtain⟨a0,a1⟩:=ha a (Ox ..);have al:(above a M).length<=60:=by unfold above;rw[OI,RZ];lia
  obtain⟨ts1,w1,o1,l1,h1,zaO⟩:=Cu (M:=M) (ln:=ln) a0 d0 d1 (above a M) ts w ok Od (by lia) ht;obtain⟨Wu,w',o',l',h',run⟩:=Co hM (ln:=ln) d0 d1 as ts1 w1 o1 (λb hb=>ha b (Ov _ hb)) (by lia) h1;refine⟨Wu,w',o',by rw[OF,O5];lia,h',λp s1 s6 s7=>?_⟩;obtain⟨v7,e1⟩:=zaO p s1 s7;obtain⟨u6,u7,e⟩:=run p s1 (.val (.int a)) v7;refine⟨u6,u7,?_⟩;let t:Th:=[.val (.adr p),s1,.val (.int (M:Int)),.val (.int dn),.val (.int ln),.own (ts.map pD),.val (.int a),s7]
  have rg:o9 (d2 dY cK bG) aU t=Qs (Qt,(above a M).map D.int):=by unfold o9;rw[jW (fa:=af 6) (fb:=dC (.int 1)) (t:=t) (a:=a) (b:=1) rfl rfl];show(if dk (M:Int)&&dk (a+1) then Qs (Qt,dm (a+1) ((M:Int)-(a+1)).toNat) else Qn)=_;rw[S9 (by unfold dk;rw[Uc (by lia),Uc (by lia)];rfl)];unfold above dm;rw[O9];rfl
  exact(yE (ρ:=aj) (t1:=t) rfl ((AK (ρ:=aj) (xN (ρ:=aj) rg)).trans e1)).trans e
def M5:∀M:Nat,M<=9->((av M).map λa=>(above a M).length).sum<=36:=by intro M h;rcases(by lia:M=0\/M=1\/M=2\/M=3\/M=4\/M=5\/M=6\/M=7\/M=8\/M=9) with rfl|rfl|rfl|rfl|rfl|rfl|rfl|rfl|rfl|rfl<;>decide
def FA{w:Int×Int}(hw:V9 w) (m0:0<m)(m1:m<=60):∃(M:Nat) (ts:Ql (Int×Int)) (w':Int×Int),VX M ts/\(M:Int)<=m/\ts.length<=((av M).map λa=>(above a M).length).sum/\V9 w'/\qu w [.int m]=Qs (.cl (.tup [.int (M:Int),.lst (ts.map pD)]),w'):=by
 obtain⟨a,w1,a0,a1,o1,e1⟩:=iJ hw (m:=m) m0 (VP (by lia) (by lia));obtain⟨b,w2,b0,b1,o2,e2⟩:=iJ o1 (m:=3) (by decide) (VP (by decide) (by decide));obtain⟨c,w3,c0,c1,o3,e3⟩:=iJ o2 (m:=3) (by decide) (VP (by decide) (by decide));obtain⟨M,hM⟩:∃M:Nat,1+a=(M:Int):=⟨(1+a).toNat,by lia⟩;obtain⟨dn,d0,d1,ed⟩:∃dn:Int,0<dn/\dn<=100/\az (.nw [.int 2,.int 3,.int 6]) (.cl (.int b))=Qs (.cl (.int dn)):=by
  rcases(by lia:b=0\/b=1\/b=2) with rfl|rfl|rfl
  .exact⟨2,by decide,by decide,rfl⟩
  .exact⟨3,by decide,by decide,rfl⟩
  .exact⟨6,by decide,by decide,rfl⟩
 obtain⟨ts,w',o',l',h',run⟩:=Co (M:=M) (by lia) (ln:=c) d0 d1 (av M) [] w3 o3 (λx hx=>by
  unfold av at hx;obtain⟨i,hi,rfl⟩:=O2.mp hx;have:=QA.mp hi;lia) (by unfold av;simp;lia) (λe he=>by cases he)
 refine⟨M,ts,w',⟨by lia,h'⟩,by lia,by rw[Sy,QM]at l';exact l',o',lj rfl λp=>?_⟩;obtain⟨u6,u7,e⟩:=run p (.val (.int m)) .no .no;let t0:Th:=[.val (.adr p),.val (.int m),.no,.no,.no,.no,.no,.no]
 have E1:=kb (i:=2) (eP (ρ:=aj) (eE (rfl:dC (.int 1) t0=Qs (.cl (.int 1)))) (iu (i:=0) (t:=t0) (p:=p) rfl (rfl:af 1 t0=Qs (.cl (.int m))) e1) xu) (by simp[t0]);rw[hM]at E1;let t1:Th:=[.val (.adr p),.val (.int m),.val (.int (M:Int)),.no,.no,.no,.no,.no]
 have E2:=kb (i:=3) (eP (ρ:=aj) (eE (rfl:ag bO (ae hZ (ae nV (ae qY ai))) t1=Qs (.nw [.int 2,.int 3,.int 6]))) (iu (i:=0) (t:=t1) (p:=p) rfl (rfl:dC (.int 3) t1=Qs (.cl (.int 3))) e2) ed) (by simp[t1]);let t2:Th:=[.val (.adr p),.val (.int m),.val (.int (M:Int)),.val (.int dn),.no,.no,.no,.no]
 have E3:=kb (ρ:=aj) (i:=4) (iu (i:=0) (t:=t2) (p:=p) rfl (rfl:dC (.int 3) t2=Qs (.cl (.int 3))) e3) (by simp[t2]);let t4:Th:=[.val (.adr p),.val (.int m),.val (.int (M:Int)),.val (.int dn),.val (.int c),.own [],.no,.no]
 have rg:ip aU t4=Qs (Qt,(av M).map D.int):=by show(if dk (M:Int) then Qs (Qt,dm 0 (M:Int).toNat) else Qn)=_;rw[S9 (by unfold dk;exact Uc (by lia))];unfold dm av;simp
 have E5:=(AK (ρ:=aj) (k:=cC 6) (b:=uo p) (xN (ρ:=aj) (w:=w3) rg)).trans e;show(cg _ (cg _ (cg _ (cg _ (cg (kT nR (kz aj (ip aU)) (uo p)) _)))):WS aj) t0 w=_;refine(cZ E1).trans ((cZ E2).trans ((cZ E3).trans ((cZ (iM (t':=t4) rfl)).trans ((cZ E5).trans ?_))));exact AJ rfl
abbrev Eg:=Int×Int
inductive Eqv(es:List Eg):Int->Int->Prop
 |refl (u:Int):Eqv es u u
 |WV {a b:Int}:(a,b)∈es->Eqv es a b
 |symm {u v:Int}:Eqv es u v->Eqv es v u
 |trans {u v w:Int}:Eqv es u v->Eqv es v w->Eqv es u w
def Eqv.mono{es UG:Ql Eg}(k:∀e∈es,e∈UG) (h:Eqv es u v):Eqv UG u v:=by
 induction h with
 |refl u=>exact .refl u
 |WV h=>exact .WV (k _ h)
 |symm _ ih=>exact .symm ih
 |trans _ _ i1 i2=>exact .trans i1 i2
def Eqv.pred{es:Ql Eg}{p:Int->Prop}(k:∀e∈es,(p e.1↔p e.2)) (h:Eqv es u v):p u↔p v:=by
 induction h with
 |refl u=>exact Iff.rfl
 |WV h=>exact k _ h
 |symm _ ih=>exact ih.symm
 |trans _ _ i1 i2=>exact i1.trans i2
def Eqv.ends{es:Ql Eg}(h:Eqv es u v):u=v\/((∃e∈es,u=e.1\/u=e.2)/\∃e∈es,v=e.1\/v=e.2):=by
 induction h with
 |refl u=>exact .inl rfl
 |WV h=>exact .inr ⟨⟨_,h,.inl rfl⟩,⟨_,h,.inr rfl⟩⟩
 |symm _ ih=>
  rcases ih with h|⟨a,b⟩
  .exact .inl h.symm
  .exact .inr ⟨b,a⟩
 |trans _ _ i1 i2=>
  rcases i1 with h|⟨a,b⟩
  .subst h;exact i2
  .rcases i2 with h|⟨c,d⟩
   .subst h;exact .inr ⟨a,b⟩
   .exact .inr ⟨a,d⟩
def gi(f:Int->Int)(a b:Int):Int->Int:=λv=>if f v=(if f a<f b then f b else f a) then(if f a<f b then f a else f b) else f v
def mS(f:Int->Int)(es:Ql Eg):Int->Int:=es.foldl (λf e=>gi f e.1 e.2) f
structure LL(es:List Eg)(f:Int->Int):Prop where
 own:∀v,Eqv es v (f v)
 one:∀e∈es,f e.1=f e.2
 low:∀v,0<=v->0<=f v/\f v<=v
def LL.nil:LL [] id:=⟨λv=>.refl v,λe h=>(by cases h),λv h=>⟨h,Pz _⟩⟩
def LL.step{es:Ql Eg}{f:Int->Int}(h:LL es f){e:Eg}(a0:0<=e.1)(b0:0<=e.2):LL (es++[e]) (gi f e.1 e.2):=by
 have mo:∀{u v},Eqv es u v->Eqv (es++[e]) u v:=λq=>q.mono λx hx=>Ot _ hx;have ab:Eqv (es++[e]) (f e.1) (f e.2):=((mo (h.own e.1)).symm.trans (.WV (Oq _ (Oy.mpr rfl)))).trans (mo (h.own e.2));refine⟨λv=>?_,λx hx=>?_,λv hv=>?_⟩
 .have o:=mo (h.own v);unfold gi;by_cases c:f e.1<f e.2
  .simp only[S9 c];split
   .rename_i z;rw[z]at o;exact o.trans ab.symm
   .exact o
  .simp only[Tr c];split
   .rename_i z;rw[z]at o;exact o.trans ab
   .exact o
 .rcases Ow.mp hx with z|z
  .unfold gi;rw[h.one x z]
  .rw[Oy.mp z];unfold gi;by_cases c:f e.1<f e.2
   .simp only[S9 c];rw[Tr (by lia)];simp
   .simp only[Tr c];by_cases c2:f e.2=f e.1
    .rw[c2];simp
    .rw[Tr c2];simp
 .have l1:=h.low e.1 a0;have l2:=h.low e.2 b0;have l3:=h.low v hv;unfold gi;by_cases c:f e.1<f e.2
  .simp only[S9 c];split<;>lia
  .simp only[Tr c];split<;>lia
def LL.run:∀(es YG:Ql Eg){f:Int->Int},LL YG f->(∀e∈es,0<=e.1/\0<=e.2)->LL (YG++es) (mS f es)
 |[],YG,f,h,_=>by rw[Po];exact h
 |e::es,YG,f,h,k=>by have:=LL.run es (YG++[e]) (h.step (k e (Ox ..)).1 (k e (Ox ..)).2) λx hx=>k x (Ov _ hx);rw[Pm]at this;exact this
def ll(es:Ql Eg):Int->Int:=mS id es
def xh{es:Ql Eg}(k:∀e∈es,0<=e.1/\0<=e.2):LL es (ll es):=LL.run es [] LL.nil k
def LL.iff{es:Ql Eg}{f:Int->Int}(h:LL es f)(u v:Int):f u=f v↔Eqv es u v:=by
 constructor
 .intro e;exact(h.own u).trans (e▸(h.own v).symm)
 .intro q
  induction q with
  |refl u=>rfl
  |WV q=>exact h.one _ q
  |symm _ ih=>exact ih.symm
  |trans _ _ i1 i2=>exact i1.trans i2
end KX
variable{e:Int->KX.Eg}{ws:Ql KX.Eg}{es:Ql KX.Eg}
set_option maxHeartbeats 4000000
namespace KX
open PySem.Spec L2 DL
def dD(r:Ql Int):D:=.lst (r.map D.int)
def mD(M:Ql (Ql Int)):D:=.lst (M.map dD)
def BY (p:Int)(K:Ql Int)(ha:fa t=Qs r1)(hb:fb t=Qs r2)(h1:r1.d=.int p)(h2:r2.d=.lst (K.map D.int)):aC (d2 km fa fb) t=Qs (!decide (p∈K)):=by
 have e:=NU p K ha hb h1 h2;unfold aC at e ⊢;rw[cP ha hb]at e ⊢;unfold Vf at e;unfold km;rw[h2]at e ⊢;simp only at e ⊢;split at e
 .rename_i c;rw[S9 c];simp only[Oz,Ev.d,Option.some.injEq]at e ⊢;rw[e]
 .cases e
def oG(L:Ql Int):Int:=dQ (L.headD 0) L.tail
def M7 (h:f t=Qs r)(hr:r.d=.lst (L.map D.int))(hl:0<L.length):(ag (lF dQ) (ae f ai)) t=Qs (.cl (.int (oG L))):=by
 rw[gh h];unfold lF;simp only[hr,xF];cases L with
 |nil=>simp at hl
 |cons x r=>rfl
def AG:∀xs:Ql Int,(xs.map D.int).all aM=Qt
 |[]=>rfl
 |x::xs=>by simp only[OF,PN,AG xs];rfl
def dJ (h:x∈av n):0<=x/\x<(n:Int):=by obtain⟨i,hi⟩:=List.mem_iff_getElem?.mp h;obtain⟨q,l⟩:=Lf hi;lia
def gI (h0:0<=x)(h1:x<(n:Int)):x∈av n:=by unfold av;exact O2.mpr ⟨x.toNat,QA.mpr (by lia),by lia⟩
def j5:∀{l C:Ql Int},l.Nodup->(∀x∈l,x∈C)->l.length<=C.length
 |[],C,_,_=>QD _
 |x::l,C,nd,h=>by rw[OO]at nd;have hx:=h x (Ox ..);have:=j5 (l:=l) (C:=C.erase x) nd.2 λy hy=>(SM (λe=>nd.1 (by rw[<-e];exact hy))).mpr (h y (Ov _ hy));rw[List.length_erase_of_mem hx]at this;have:=Ra hx;simp only[OX];lia
def Ld(n:Nat):(av n).Nodup:=by unfold av;refine Ti.mpr ?_;exact(Tz (n:=n)).imp λh e=>h (by lia)
end KX
set_option maxHeartbeats 1000000
namespace KX
abbrev Hd:=Ql (Int×Nat)
def Oo(w:Nat->Nat)(hd:Hd)(s:Ql Int):Nat:=(hd.map λp=>if p.1∈s then w p.2 else 0).sum
open PySem.Spec L2 DL
def nv{d:D}(hf:f t=Qs (.dn d))(hi:i<t.length):aN i f t=Qs (.nx (t.set i (.dp d))):=by unfold aN;rw[hf];simp only[Oz,cR,hi,if_true,P7]
def iX{k:D->Th->Qo Th}{b:DS}{d:D}{t2:Th}(h1:k d t=Qs t1)(h2:b t1=Qs (.nx t2)):bj k b (d::ds) t=bj k b ds t2:=by simp[bj,h1,h2]
def D0{k:D->Th->Qo Th}{b:DS}{d:D}(h1:k d t=Qs t1)(h2:b t1=Qs (.rt r)):bj k b (d::ds) t=Qs (.rt r):=by simp[bj,h1,h2]
def yZ{α:Type}{e:α->D}{ft:DT}{fe:DE}{p:α->Bool}{f:α->D}{ext:Th}:∀(xs:Ql α) (s:Sl),(∀x∈xs,ft (.val (e x)::ext)=Qs (p x))->(∀x∈xs,p x=Qt->∃r,fe (.val (e x)::ext)=Qs r/\r.d=f x)->bU bc ft fe (xs.map e) (s::ext)=Qs ((xs.filter p).map f)
 |[],s,_,_=>rfl
 |x::l,s,h,h'=>by
  have i:=yZ (p:=p) (f:=f) l (.val (e x)) (λy hy=>h y (Ov _ hy)) (λy hy=>h' y (Ov _ hy));show((ft (.val (e x)::ext)).bind λb=>if b then(fe (.val (e x)::ext)).bind λr=>(bU bc ft fe (l.map e) (.val (e x)::ext)).map λxs=>r.d::xs else bU bc ft fe (l.map e) (.val (e x)::ext))=_;rw[h x (Ox ..),i];cases hp:p x with
  |false=>rw[R9 (by rw[hp];decide)];rfl
  |true=>obtain⟨r,e1,e2⟩:=h' x (Ox ..) hp;rw[e1,Sb hp,OF,<-e2];rfl
def y7{α:Type}{e:α->D}{fe:DE}{f:α->D}{ext:Th}:∀(xs:Ql α) (s:Sl),(∀x∈xs,∃r,fe (.val (e x)::ext)=Qs r/\toDn r=Qs (f x))->fN bc bL fe (xs.map e) (s::ext)=Qs (xs.map f)
 |[],s,_=>rfl
 |x::l,s,h'=>by have i:=y7 (f:=f) l (.val (e x)) (λy hy=>h' y (Ov _ hy));obtain⟨r,e1,e2⟩:=h' x (Ox ..);show((fe (.val (e x)::ext)).bind λr=>(toDn r).bind λd=>(fN bc bL fe (l.map e) (.val (e x)::ext)).map λxs=>d::xs)=_;rw[e1,i];show((toDn r).bind λd=>_)=_;rw[e2];rfl
def Nk{α:Type}{e:α->D}{ft:DT}{p:α->Bool}{g:α->D}{cap:Ql Nat}{xs:Ql α}{b:Bool}(hf:f t=Qs r)(hr:r.d=.lst (xs.map e))(hc:fZ t cap=Qs (b,c))(hl:xs.length<=50000) (h1:∀x∈xs,ft (.val (e x)::c.map Sl.val)=Qs (p x)) (h2:∀x∈xs,p x=Qt->∃r,fe (.val (e x)::c.map Sl.val)=Qs r/\r.d=g x) (h3:Ui ((xs.filter p).map g)=Qt\/(r.ok&&b)=Qt):bE 1 cap (cV f) bc ft fe t=Qs (.nw ((xs.filter p).map g)):=by
 unfold bE;have e1:cV f t=Qs (r.ok,xs.map e):=by unfold cV;rw[hf];simp only[Oz,hr]
 have e2:bU bc ft fe (xs.map e) (Sl.no::c.map Sl.val)=Qs ((xs.filter p).map g):=yZ xs _ h1 h2;rw[e1,hc];simp only[Oz];rw[S9 (by simpa using hl)];show(bU bc ft fe (xs.map e) (Sl.no::c.map Sl.val)).bind _=_;rw[e2];show(if((r.ok&&b)||Ui ((xs.filter p).map g))=Qt then _ else _)=_;rw[S9 (by rcases h3 with h|h<;>rw[h]<;>simp)]
def kN(n:Int):aD:=Sum.inl n
def Dq(x:Int):∀ks:Ql Int,gV (ks.map kN) (kN x)=decide (x∈ks)
 |[]=>rfl
 |k::ks=>by
  have i:=Dq x ks;unfold gV at i ⊢;rw[OF,Qh,i];by_cases h:k=x
  .subst h;simp
  .have h':¬kN k=kN x:=λz=>h (by cases z;rfl);rw[UJ h'];have:(x∈k::ks)=(x∈ks):=by rw[OC];simp[show ¬x=k from λz=>h z.symm]
   simp only[this,Q8]
def gk(ks:Ql Int)(x:Int):Ql Int:=if x∈ks then ks else ks++[x]
def iI(_:Int):D:=.bl Qt
def zR{ks:Ql Int}{x:Int}:∀ls:Ql Int,RT (λk' d'=>if k'=kN x then D.bl Qt else d') (ls.map kN) (ls.map iI)=ls.map iI
 |[]=>rfl
 |l::ls=>by rw[OF,OF,QP,zR (ks:=ks) ls];congr 1;split<;>rfl
def Ip(ks:Ql Int)(x:Int):fD (ks.map kN) (ks.map iI) (kN x) (.bl Qt)=((gk ks x).map kN,(gk ks x).map iI):=by
 unfold fD gk;rw[Dq];by_cases h:x∈ks
 .rw[Uc h,S9 rfl,S9 h,zR (ks:=ks) ks]
 .rw[UJ h,Tr (by decide),Tr h];simp[kN,iI]
structure AllK(M:Nat)(ks:List Int):Prop where
 nd:ks.Nodup
 lt:∀x∈ks,0<=x/\x<(M:Int)
def AllK.len (h:AllK M ks):ks.length<=M:=by have:=j5 (l:=ks) (C:=av M) h.nd λx hx=>gI (h.lt x hx).1 (h.lt x hx).2;simpa[av] using this
def AllK.put (h:AllK M ks)(h0:0<=x)(h1:x<(M:Int)):AllK M (gk ks x):=by
 unfold gk;split
 .exact h
 .rename_i n;refine⟨OG.mpr ⟨h.nd,by simp,λa ha b hb e=>?_⟩,λy hy=>?_⟩
  .rw[Oy]at hb;subst hb;subst e;exact n ha
  .rcases Ow.mp hy with z|z
   .exact h.lt y z
   .rw[Oy]at z;subst z;exact⟨h0,h1⟩
def wD(M:Nat)(ts:Ql (Int×Int)):D:=.tup [.int (M:Int),.lst (ts.map pD)]
def mX (L:Ql Int)(b:Int)(ha:fa t=Qs r1)(hb:fb t=Qs r2)(h0:0<=b)(h:b<(L.length:Int))(h1:r1.d=.lst (L.map D.int))(h2:r2.d=.int b):(d2 az fa fb) t=Qs (.cl (.int (L.getD b.toNat 0))):=xy L b.toNat ha hb (by lia) h1 (by rw[h2,Pp h0])
def ao(ts:Ql (Int×Int))(l:Int):Int×Int:=ts.getD l.toNat (0,0)
def cz(ts:Ql (Int×Int))(L:Ql Int):Ql Eg:=L.map (ao ts)
def mh (h0:0<=l)(h1:l<(ts.length:Int)):ao ts l∈ts:=by unfold ao;rw[ON,OE (by lia)];exact Qm _
def q9 (ha:fa t=Qs r1)(hb:fb t=Qs r2)(h1:r1.d=.lst (ts.map pD))(h2:r2.d=.int l)(h0:0<=l)(hl:l<(ts.length:Int)):(d2 az fa fb) t=Qs (.cl (pD (ao ts l))):=by
 rw[cP ha hb];unfold az;rw[h1,h2];show(UO (ts.map pD) l).map _=_;have:UO (ts.map pD) l=Qs (pD (ao ts l)):=by
  unfold L2.UO;have e:Vn (ts.map pD).length l=Qs l.toNat:=by
   rw[OI];unfold L2.Vn
   first
    |(rw[S9 h0,S9 (by lia)])
    |(simp only[];split<;>first|rfl|lia)
  rw[e];show(ts.map pD)[l.toNat]?=_;rw[O1];unfold ao;rw[ON,OE (by lia)];rfl
 rw[this];show Qs (if r1.ok||flat (pD (ao ts l)) then Ev.cl (pD (ao ts l)) else Ev.tm (pD (ao ts l)))=_;rw[show flat (pD (ao ts l))=Qt from rfl,P1,S9 rfl]
def nX (h:t[i]?=Qs (.val (wD M ts))):(d2 az (af i) (dC (.int 1))) t=Qs (.cl (.lst (ts.map pD))):=by
 have:af i t=Qs (.cl (wD M ts)):=by unfold af;rw[h]
 rw[cP this rfl];rfl
def uF (h:t[i]?=Qs (.val (wD M ts))):(d2 az (af i) (dC (.int 0))) t=Qs (.cl (.int (M:Int))):=by
 have:af i t=Qs (.cl (wD M ts)):=by unfold af;rw[h]
 rw[cP this rfl];rfl
def GU(x y:Int):U6 [x,y]=[if x<y then x else y,if x<y then y else x]:=by
 show jG x [y]=_;unfold jG;by_cases h:x<y
 .rw[S9 (by lia),S9 h,S9 h]
 .by_cases e:x=y
  .subst e;simp
  .rw[Tr (by lia),Tr h,Tr h];rfl
def FQ(s0 s1 s2 s6 s7:Sl) (hM:M<=1000) (hw:VX M ts){f:Int->Int}(h0:0<=l)(h1:l<(ts.length:Int)):∃u6 u7,uq [s0,s1,s2,.val (.lst (ts.map pD)),.own (((av M).map f).map D.int),.val (.int l),s6,s7]=Qs (.nx [s0,s1,s2,.val (.lst (ts.map pD)),.own (((av M).map (gi f (ao ts l).1 (ao ts l).2)).map D.int),.val (.int l),u6,u7]):=by
 obtain⟨a0,ab,bM⟩:=hw.lt _ (mh h0 h1);let e:=ao ts l
 let t:Th:=[s0,s1,s2,.val (.lst (ts.map pD)),.own (((av M).map f).map D.int),.val (.int l),s6,s7]
 have et:=q9 (fa:=af 3) (fb:=af 5) (t:=t) (r1:=.cl (.lst (ts.map pD))) (r2:=.cl (.int l)) (l:=l) rfl rfl rfl rfl h0 h1;have nl:(av M).length=M:=by unfold av;simp
 have gv:∀v:Int,0<=v->v<(M:Int)->((av M).map f).getD v.toNat 0=f v:=λv v0 v1=>by rw[ON,O1];unfold av;rw[O1,Qu (by lia)];show f (v.toNat:Int)=f v;rw[Pp v0]
 have ix:∀(v:Int),0<=v->v<(M:Int)->(d2 az aA aq) [.val (.int v),.val (.lst (((av M).map f).map D.int))]=Qs (.cl (.int (f v))):=λv v0 v1=>by have:=mX (fa:=af 1) (fb:=af 0) (t:=[.val (.int v),.val (.lst (((av M).map f).map D.int))]) (r1:=.cl (.lst (((av M).map f).map D.int))) (r2:=.cl (.int v)) ((av M).map f) v rfl rfl v0 (by rw[OI,nl];exact v1) rfl rfl;rw[gv v v0 v1]at this;exact this
 have c1:(bE 1 [4] (fX (d2 az aP cb)) bc bL (d2 az aA aq)) t=Qs (.nw [.int (f e.1),.int (f e.2)]):=by
  unfold bE fX;rw[et];show((if[D.int e.1,D.int e.2].length<=50000 then(bU bc bL (d2 az aA aq) [D.int e.1,D.int e.2] [.no,.val (.lst (((av M).map f).map D.int))]).bind _ else Qn))=_;have k1:=ix e.1 a0 (SO ab bM);have k2:=ix e.2 (Pj (P6 a0 ab)) bM;have cc:bU bc bL (d2 az aA aq) [D.int e.1,D.int e.2] [.no,.val (.lst (((av M).map f).map D.int))]=Qs [.int (f e.1),.int (f e.2)]:=by show((d2 az aA aq) [.val (.int e.1),.val (.lst (((av M).map f).map D.int))]).bind (λr=>(((d2 az aA aq) [.val (.int e.2),.val (.lst (((av M).map f).map D.int))]).bind λr2=>Qs [r2.d]).map λxs=>r.d::xs)=_;rw[k1,k2];rfl
  rw[cc];rfl
 have c2:=rD (xs:=[f e.1,f e.2]) c1 rfl (by simp);rw[GU]at c2;have E1:dy (kE 2 qT) (ag iS (ae (bE 1 [4] (fX (d2 az aP cb)) bc bL (d2 az aA aq)) ai)) t=Qs (.nx [s0,s1,s2,.val (.lst (ts.map pD)),.own (((av M).map f).map D.int),.val (.int l),.val (.int (if f e.1<f e.2 then f e.1 else f e.2)),.val (.int (if f e.1<f e.2 then f e.2 else f e.1))]):=by unfold dy;rw[c2];rfl
 let t1:Th:=[s0,s1,s2,.val (.lst (ts.map pD)),.own (((av M).map f).map D.int),.val (.int l),.val (.int (if f e.1<f e.2 then f e.1 else f e.2)),.val (.int (if f e.1<f e.2 then f e.2 else f e.1))]
 have c3:=y8 (cap:=[6,7]) (f:=af 4) (t:=t1) (r:=.tm (.lst (((av M).map f).map D.int))) (xs:=(av M).map f) (g:=λx=>if x=(if f e.1<f e.2 then f e.2 else f e.1) then(if f e.1<f e.2 then f e.1 else f e.2) else x) (b:=Qt) (c:=[.int (if f e.1<f e.2 then f e.1 else f e.2),.int (if f e.1<f e.2 then f e.2 else f e.1)]) (fe:=(pE (aC (d2 fq aq aU)) aA aq)) rfl rfl (by rw[OI,nl];lia) rfl (λx _=>by
  unfold pE;rw[pf (fa:=af 0) (fb:=af 2) (a:=x) (b:=(if f e.1<f e.2 then f e.2 else f e.1)) rfl rfl];by_cases z:x=(if f e.1<f e.2 then f e.2 else f e.1)
  .rw[Uc z,S9 z];rfl
  .rw[UJ z,Tr z];rfl)
 have em:((av M).map f).map (λx=>if x=(if f e.1<f e.2 then f e.2 else f e.1) then(if f e.1<f e.2 then f e.1 else f e.2) else x)=(av M).map (gi f e.1 e.2):=by rw[O9];rfl
 rw[em]at c3;exact⟨_,_,(aL E1).trans (jf (i:=4) c3 (by simp[t1]))⟩
def Cp(s0 s1 s2:Sl){M:Nat}(hM:M<=1000){ts:Ql (Int×Int)}(hw:VX M ts):∀(L:Ql Int) (f:Int->Int) (s5 s6 s7:Sl),(∀l∈L,0<=l/\l<(ts.length:Int))->∃u5 u6 u7,bj kQ uq (L.map D.int) [s0,s1,s2,.val (.lst (ts.map pD)),.own (((av M).map f).map D.int),s5,s6,s7]=Qs (.nx [s0,s1,s2,.val (.lst (ts.map pD)),.own (((av M).map (mS f (cz ts L))).map D.int),u5,u6,u7])
 |[],f,s5,s6,s7,_=>⟨s5,s6,s7,rfl⟩
 |l::L,f,s5,s6,s7,h=>by obtain⟨h0,h1⟩:=h l (Ox ..);obtain⟨v6,v7,e⟩:=FQ s0 s1 s2 s6 s7 hM hw (f:=f) h0 h1;obtain⟨u5,u6,u7,ih⟩:=Cp s0 s1 s2 hM hw L (gi f (ao ts l).1 (ao ts l).2) (.val (.int l)) v6 v7 λl' ZO=>h l' (Ov _ ZO);exact⟨u5,u6,u7,(iX rfl e).trans ih⟩
def LQ (hM:M<=1000) (hw:VX M ts) (h:∀l∈L,0<=l/\l<(ts.length:Int)):lX [wD M ts,.lst (L.map D.int)]=Qs (.nw (((av M).map (ll (cz ts L))).map D.int)):=by
 let W:Sl:=.val (wD M ts)
 let N:Sl:=.val (.lst (L.map D.int))
 have E1:dy (ck 2 jl) aq [W,N,.no,.no,.no,.no,.no,.no]=Qs (.nx [W,N,.val (.int (M:Int)),.val (.lst (ts.map pD)),.no,.no,.no,.no]):=rfl;have E2:=jf (i:=4) (xf (f:=af 2) (t:=[W,N,.val (.int (M:Int)),.val (.lst (ts.map pD)),.no,.no,.no,.no]) (n:=M) rfl hM) (by simp);have e0:(av M).map D.int=((av M).map id).map D.int:=by rw[T5]
 obtain⟨u5,u6,u7,e⟩:=Cp W N (.val (.int (M:Int))) hM hw L id .no .no .no h;have E3:d8 kQ aA uq [W,N,.val (.int (M:Int)),.val (.lst (ts.map pD)),.own ((av M).map D.int),.no,.no,.no]=Qs (.nx [W,N,.val (.int (M:Int)),.val (.lst (ts.map pD)),.own (((av M).map (mS id (cz ts L))).map D.int),u5,u6,u7]):=by rw[e0];exact e
 show(xU [W,N,.no,.no,.no,.no,.no,.no]).bind dg=_;refine Uj ?_;have E4:eR 4 [W,N,.val (.int (M:Int)),.val (.lst (ts.map pD)),.own (((av M).map (mS id (cz ts L))).map D.int),u5,u6,u7]=Qs (.rt (.nw (((av M).map (ll (cz ts L))).map D.int))):=rfl;exact(aL E1).trans ((aL E2).trans ((aL E3).trans E4))
structure PS where
 n:Nat
 pa:Int
 tk:List Int
 pt:Int->List Int
 wd:Int->Int
 pd:Int->Int
 ar:Int->Int
 po:Int->Int
def PS.new(M:Nat):PS:=⟨M,1,[],λp=>[p],λ_=>0,λ_=>0,λ_=>0,id⟩
def jU(b:Bool):Int:=if b then 1 else 0
def bw(S:PS)(e:Int->Eg)(g:Int->Bool)(at':Int):Int:=if S.po (e at').1=S.po (e at').2 then 0 else jU (g (S.po (e at').1))+jU (g (S.po (e at').2))
def UM(S:PS)(e:Int->Eg)(w:Int->Int)(at':Int):Int:=w at'*S.pa-S.ar (e at').1-S.ar (e at').2
def kF(S:PS)(e:Int->Eg)(w:Int->Int)(g:Int->Bool)(at':Int):Bool:=decide (0<bw S e g at')&&decide (UM S e w at'<=0)
def d7(S:PS)(e:Int->Eg)(w:Int->Int)(g:Int->Bool)(nt:Nat):Qo Int:=(av nt).find? (kF S e w g)
def gA(S:PS)(e:Int->Eg)(w:Int->Int)(g:Int->Bool)(nt:Nat):Ql Int:=((av nt).filter λa=>decide (0<bw S e g a)).map λa=>(UM S e w a).fdiv (bw S e g a)
def Ur(S:PS):PS:={S with pa:=S.pa*2,wd:=λp=>2*S.wd p,pd:=λp=>2*S.pd p,ar:=λv=>2*S.ar v}
def VF(S:PS)(g:Int->Bool)(st:Int):PS:={S with wd:=λp=>S.wd p+(if g p then st else 0),pd:=λp=>S.pd p+(if g p then st else 0),ar:=λv=>S.ar v+(if g (S.po v) then st else 0)}
def bS(S:PS)(e:Int->Eg)(a:Int):Ql Int:=U6 (S.pt (S.po (e a).1)++S.pt (S.po (e a).2))
def Uo(S:PS)(e:Int->Eg)(a:Int):PS:={S with
 n:=S.n+1,tk:=S.tk++[a]
 pt:=λp=>if p=(S.n:Int) then bS S e a else S.pt p
 wd:=λp=>if p=(S.n:Int) then 0 else S.wd p
 pd:=λp=>if p=(S.n:Int) then S.pd (S.po (e a).1)+S.pd (S.po (e a).2) else S.pd p
 po:=λv=>if v∈bS S e a then(S.n:Int) else S.po v}
def g7(ks:Ql Int)(x:Int):Ql Int:=if x∈ks then ks else ks++[x]
def gf(S:PS)(ks:Ql Int)(w:Eg):Ql Int:=if S.po w.1=S.po w.2 then ks else g7 (g7 ks (S.po w.1)) (S.po w.2)
def aR(S:PS)(ws:Ql Eg):Ql Int:=ws.foldl (gf S) []
def aK(G:Ql Int):Int->Bool:=λp=>decide (p∈G)
def cQ(e:Int->Eg)(w:Int->Int)(nt:Nat)(ws:Ql Eg)(S:PS):PS:=match d7 S e w (aK (aR S ws)) nt with
 |none=>VF (Ur S) (aK (aR S ws)) (oG (gA (Ur S) e w (aK (aR S ws)) nt))
 |some a=>Uo S e a
def eL(e:Int->Eg)(w:Int->Int)(nt:Nat)(ws:Ql Eg):Nat->PS->PS
 |0,S=>S
 |k+1,S=>if aR S ws=[] then S else eL e w nt ws k (cQ e w nt ws S)
def Ci:y∈g7 ks x↔y∈ks\/y=x:=by
 unfold g7;split
 .rename_i h;exact⟨.inl,λz=>z.elim id λz=>z▸h⟩
 .simp
def Cf{S:PS}{p:Int}:∀{ws:Ql Eg}{ks:Ql Int},p∈ws.foldl (gf S) ks↔p∈ks\/∃w∈ws,S.po w.1≠S.po w.2/\(p=S.po w.1\/p=S.po w.2)
 |[],ks=>by simp
 |w::ws,ks=>by
  rw[RG,Cf (ws:=ws)];have:p∈gf S ks w↔p∈ks\/(S.po w.1≠S.po w.2/\(p=S.po w.1\/p=S.po w.2)):=by
   unfold gf;split
   .rename_i h;simp[h]
   .rename_i h;rw[Ci,Ci];simp only[ne_eq,h,not_false_eq_true,true_and,or_assoc]
  rw[this];simp only[OC,exists_eq_or_imp,or_assoc]
def YU{S:PS}:p∈aR S ws↔∃w∈ws,S.po w.1≠S.po w.2/\(p=S.po w.1\/p=S.po w.2):=by unfold aR;rw[Cf];simp
def zb1{S:PS}:aR S ws=[]↔∀w∈ws,S.po w.1=S.po w.2:=by
 constructor
 .intro h w hw;by_cases z:S.po w.1=S.po w.2
  .exact z
  .have:S.po w.1∈aR S ws:=YU.mpr ⟨w,hw,z,.inl rfl⟩;rw[h]at this;cases this
 .intro h;refine List.eq_nil_iff_forall_not_mem.mpr λp hp=>?_;obtain⟨w,hw,n,_⟩:=YU.mp hp;exact n (h w hw)
def B5 (h:ks.Nodup):(g7 ks x).Nodup:=by
 unfold g7;split
 .exact h
 .rename_i c;exact OG.mpr ⟨h,by simp,λa ha b hb z=>c (by rw[Oy.mp hb]at z;exact z▸ha)⟩
def B3{S:PS}:∀{ws:Ql Eg}{ks:Ql Int},ks.Nodup->(ws.foldl (gf S) ks).Nodup
 |[],ks,h=>h
 |w::ws,ks,h=>by
  rw[RG];refine B3 ?_;unfold gf;split
  .exact h
  .exact B5 (B5 h)
structure Ok(M:Nat)(e:Int->Eg)(w:Int->Int)(nt:Nat)(S:PS):Prop where
 Wx:0<S.pa
 nM:S.n=M+S.tk.length
 VT:∀v,0<=v->v<(M:Int)->0<=S.po v/\S.po v<(S.n:Int)
 cur:∀v,0<=v->v<(M:Int)->∀u,u∈S.pt (S.po v)↔(0<=u/\u<(M:Int)/\S.po u=S.po v)
 one:∀p,0<=p->p<(S.n:Int)->∀u∈S.pt p,∀v∈S.pt p,S.po u=S.po v
 inr:∀p,0<=p->p<(S.n:Int)->∀u∈S.pt p,0<=u/\u<(M:Int)
 Yo:∀p,0<=p->p<(S.n:Int)->(S.pt p).Pairwise (·< ·)
 ne:∀p,0<=p->p<(S.n:Int)->S.pt p≠[]
 ZZ:∀p q,0<=p->p<(S.n:Int)->0<=q->q<(S.n:Int)->S.pt p=S.pt q->p=q
 pos:∀a,0<=a->a<(nt:Int)->S.po (e a).1≠S.po (e a).2->0<=UM S e w a
 Xj:∀a∈S.tk,0<=a/\a<(nt:Int)
def dz(M:Nat)(e:Int->Eg)(nt:Nat):Prop:=∀a,0<=a->a<(nt:Int)->(0<=(e a).1/\(e a).1<(M:Int))/\0<=(e a).2/\(e a).2<(M:Int)
def Ok.new{M:Nat}{e:Int->Eg}{w:Int->Int}{nt:Nat}(hw:∀a,0<=a->a<(nt:Int)->0<=w a):Ok M e w nt (PS.new M) where
 Wx:=show(0:Int)<1 by decide
 nM:=rfl
 VT:=λv h0 h1=>⟨h0,h1⟩
 cur:=λv h0 h1 u=>by show u∈[v]↔0<=u/\u<(M:Int)/\u=v;rw[Oy];exact⟨λz=>⟨z▸h0,z▸h1,z⟩,λz=>z.2.2⟩
 one:=λp _ _ u hu v hv=>by rw[Oy.mp hu,Oy.mp hv]
 inr:=λp h0 h1 u hu=>by rw[Oy.mp hu];exact⟨h0,h1⟩
 Yo:=λp _ _=>R8 ..
 ne:=λp _ _=>by simp[PS.new]
 ZZ:=λp q _ _ _ _ h=>by simpa[PS.new] using h
 pos:=λa h0 h1 _=>by show 0<=w a*1-0-0;have:=hw a h0 h1;lia
 Xj:=λa h=>nomatch h
def Ok.nd{S:PS}(h:Ok M e w nt S) (h0:0<=p)(h1:p<(S.n:Int)):(S.pt p).Nodup:=(h.Yo p h0 h1).imp λz e=>by lia
def Yr{S:PS}:u∈bS S e a↔u∈S.pt (S.po (e a).1)\/u∈S.pt (S.po (e a).2):=by unfold bS;rw[(Xk _).mem_iff,Ow]
def Ok.Uo{M:Nat}{e:Int->Eg}{w:Int->Int}{nt:Nat}{S:PS}(h:Ok M e w nt S)(hE:dz M e nt){a:Int}(a0:0<=a)(a1:a<(nt:Int))(hn:S.po (e a).1≠S.po (e a).2):Ok M e w nt (Uo S e a):=by
 obtain⟨⟨x0,x1⟩,y0,y1⟩:=hE a a0 a1;have px:=h.VT _ x0 x1;have py:=h.VT _ y0 y1;have mj:∀u,u∈bS S e a↔(0<=u/\u<(M:Int)/\(S.po u=S.po (e a).1\/S.po u=S.po (e a).2)):=λu=>by
  rw[Yr,h.cur _ x0 x1,h.cur _ y0 y1];constructor
  .rintro(⟨a,b,c⟩|⟨a,b,c⟩)
   .exact⟨a,b,.inl c⟩
   .exact⟨a,b,.inr c⟩
  .rintro⟨a,b,c|c⟩
   .exact .inl ⟨a,b,c⟩
   .exact .inr ⟨a,b,c⟩
 have VJ:∀v,(KX.Uo S e a).po v=if v∈bS S e a then(S.n:Int) else S.po v:=λv=>rfl
 have Wc:∀p,(KX.Uo S e a).pt p=if p=(S.n:Int) then bS S e a else S.pt p:=λv=>rfl
 have same:∀u v,0<=u->u<(M:Int)->0<=v->v<(M:Int)->S.po u=S.po v->(KX.Uo S e a).po u=(KX.Uo S e a).po v:=λu v u0 u1 v0 v1 q=>by
  rw[VJ,VJ];have:u∈bS S e a↔v∈bS S e a:=by rw[mj,mj,q];exact⟨λz=>⟨v0,v1,z.2.2⟩,λz=>⟨u0,u1,z.2.2⟩⟩
  by_cases z:u∈bS S e a
  .rw[S9 z,S9 (this.mp z)]
  .rw[Tr z,Tr λk=>z (this.mpr k),q]
 have old:∀p,0<=p->p<(S.n:Int)->S.pt p≠bS S e a:=λp p0 p1 q=>by
  have q1:(e a).1∈S.pt p:=by rw[q,mj];exact⟨x0,x1,.inl rfl⟩
  have q2:(e a).2∈S.pt p:=by rw[q,mj];exact⟨y0,y1,.inr rfl⟩
  exact hn (h.one p p0 p1 _ q1 _ q2)
 refine⟨h.Wx,?_,?_,?_,?_,?_,?_,?_,?_,?_,?_⟩
 .show S.n+1=M+(S.tk++[a]).length;rw[O8,h.nM];rfl
 .intro v v0 v1;rw[VJ];show _/\_<((S.n+1:Nat):Int);have:=h.VT v v0 v1;split<;>lia
 .intro v v0 v1 u;rw[VJ v];have pv:=h.VT v v0 v1;by_cases z:v∈bS S e a
  .rw[S9 z,Wc,S9 rfl,VJ u];constructor
   .intro k;have:=(mj u).mp k;exact⟨this.1,this.2.1,by rw[S9 k]⟩
   .rintro⟨u0,u1,c⟩;by_cases k:u∈bS S e a
    .exact k
    .rw[Tr k]at c;have:=h.VT u u0 u1;lia
  .rw[Tr z,Wc,Tr (by lia),h.cur v v0 v1,VJ u];constructor
   .rintro⟨u0,u1,c⟩;refine⟨u0,u1,?_⟩;rw[Tr,c];intro k;exact z ((mj v).mpr ⟨v0,v1,c▸((mj u).mp k).2.2⟩)
   .rintro⟨u0,u1,c⟩;refine⟨u0,u1,?_⟩;by_cases k:u∈bS S e a
    .rw[S9 k]at c;lia
    .rw[Tr k]at c;exact c
 .intro p p0 p1 u hu v hv;rw[Wc]at hu hv;have p1:p<((S.n+1:Nat):Int):=p1;by_cases z:p=(S.n:Int)
  .rw[S9 z]at hu hv;rw[VJ,VJ,S9 hu,S9 hv]
  .rw[Tr z]at hu hv;have p2:p<(S.n:Int):=by lia
   obtain⟨u0,u1⟩:=h.inr p p0 p2 u hu;obtain⟨v0,v1⟩:=h.inr p p0 p2 v hv;exact same u v u0 u1 v0 v1 (h.one p p0 p2 u hu v hv)
 .intro p p0 p1 u hu;rw[Wc]at hu;have p1:p<((S.n+1:Nat):Int):=p1;by_cases z:p=(S.n:Int)
  .rw[S9 z,mj]at hu;exact⟨hu.1,hu.2.1⟩
  .rw[Tr z]at hu;exact h.inr p p0 (by lia) u hu
 .intro p p0 p1;rw[Wc];have p1:p<((S.n+1:Nat):Int):=p1;by_cases z:p=(S.n:Int)
  .rw[S9 z];have s1:=zaj (S.pt (S.po (e a).1)++S.pt (S.po (e a).2));have nd:(U6 (S.pt (S.po (e a).1)++S.pt (S.po (e a).2))).Nodup:=by refine(Xk _).nodup_iff.mpr (OG.mpr ⟨h.nd px.1 px.2,h.nd py.1 py.2,λu hu v hv q=>hn ?_⟩);subst q;rw[<-((h.cur _ x0 x1 u).mp hu).2.2,((h.cur _ y0 y1 u).mp hv).2.2]
   exact(s1.and nd).imp λ{a b} k=>by have:=k.1;have:=k.2;lia
  .rw[Tr z];exact h.Yo p p0 (by lia)
 .intro p p0 p1;rw[Wc];have p1:p<((S.n+1:Nat):Int):=p1;by_cases z:p=(S.n:Int)
  .rw[S9 z];exact S7 ((mj (e a).1).mpr ⟨x0,x1,.inl rfl⟩)
  .rw[Tr z];exact h.ne p p0 (by lia)
 .intro p q p0 p1 q0 q1 k;rw[Wc,Wc]at k;have p1:p<((S.n+1:Nat):Int):=p1;have q1:q<((S.n+1:Nat):Int):=q1;by_cases z:p=(S.n:Int)
  .by_cases y:q=(S.n:Int)
   .rw[z,y]
   .rw[S9 z,Tr y]at k;exact absurd k.symm (old q q0 (by lia))
  .by_cases y:q=(S.n:Int)
   .rw[Tr z,S9 y]at k;exact absurd k (old p p0 (by lia))
   .rw[Tr z,Tr y]at k;exact h.ZZ p q p0 (by lia) q0 (by lia) k
 .intro c c0 c1 k;obtain⟨⟨u0,u1⟩,v0,v1⟩:=hE c c0 c1;exact h.pos c c0 c1 λq=>k (same _ _ u0 u1 v0 v1 q)
 .intro c hc;rcases Ow.mp hc with z|z
  .exact h.Xj c z
  .rw[Oy.mp z];exact⟨a0,a1⟩
def ux(b:Bool):0<=jU b/\jU b<=1:=by cases b<;>decide
def nj(S:PS)(e:Int->Eg)(g:Int->Bool)(a:Int):0<=bw S e g a/\bw S e g a<=2:=by
 unfold bw;split
 .decide
 .have:=ux (g (S.po (e a).1));have:=ux (g (S.po (e a).2));lia
def uk{S:PS}(h:0<bw S e g a):S.po (e a).1≠S.po (e a).2:=λz=>by unfold bw at h;rw[S9 z]at h;exact absurd h (by decide)
def Ok.Ur{M:Nat}{e:Int->Eg}{w:Int->Int}{nt:Nat}{S:PS}(h:Ok M e w nt S):Ok M e w nt (Ur S):=by
 refine⟨?_,h.nM,h.VT,h.cur,h.one,h.inr,h.Yo,h.ne,h.ZZ,?_,h.Xj⟩
 .show 0<S.pa*2;have:=h.Wx;lia
 .intro a a0 a1 k;have:=h.pos a a0 a1 k;show 0<=w a*(S.pa*2)-2*S.ar (e a).1-2*S.ar (e a).2;unfold UM at this;have q:w a*(S.pa*2)=2*(w a*S.pa):=by rw[<-Rb,SQ]
  lia
def sY(S:PS)(e:Int->Eg)(w:Int->Int)(a:Int):UM (Ur S) e w a=2*UM S e w a:=by
 unfold UM;show w a*(S.pa*2)-2*S.ar (e a).1-2*S.ar (e a).2=_;have q:w a*(S.pa*2)=2*(w a*S.pa):=by rw[<-Rb,SQ]
 lia
def LK(S:PS)(e:Int->Eg)(w:Int->Int)(g:Int->Bool)(st a:Int):UM (VF S g st) e w a=UM S e w a-(if g (S.po (e a).1) then st else 0)-(if g (S.po (e a).2) then st else 0):=by unfold UM;show w a*S.pa-(S.ar (e a).1+(if g (S.po (e a).1) then st else 0))-(S.ar (e a).2+(if g (S.po (e a).2) then st else 0))=_;lia
def Cz(S:PS)(e:Int->Eg)(w:Int->Int)(g:Int->Bool)(st a:Int)(hn:S.po (e a).1≠S.po (e a).2):UM (VF S g st) e w a=UM S e w a-bw S e g a*st:=by rw[LK];unfold bw;rw[Tr hn];cases g (S.po (e a).1)<;>cases g (S.po (e a).2)<;>simp[jU]<;>lia
def Ok.VF{M:Nat}{e:Int->Eg}{w:Int->Int}{nt:Nat}{S:PS}(h:Ok M e w nt S){g:Int->Bool}{st:Int}(hs:∀a,0<=a->a<(nt:Int)->0<bw S e g a->bw S e g a*st<=UM S e w a):Ok M e w nt (VF S g st):=by
 refine⟨h.Wx,h.nM,h.VT,h.cur,h.one,h.inr,h.Yo,h.ne,h.ZZ,?_,h.Xj⟩;intro a a0 a1 k;have k:S.po (e a).1≠S.po (e a).2:=k;rw[Cz S e w g st a k];have p:=h.pos a a0 a1 k;have b:=nj S e g a;by_cases z:0<bw S e g a
 .have:=hs a a0 a1 z;lia
 .have z:bw S e g a=0:=by lia
  rw[z,Int.zero_mul];lia
def DO{S:PS}(h:d7 S e w g nt=Qn):∀a,0<=a->a<(nt:Int)->0<bw S e g a->0<UM S e w a:=λa a0 a1 b=>by have:=List.find?_eq_none.mp h a (gI a0 a1);unfold kF at this;rw[Uc b]at this;simp at this;lia
def o8{S:PS}(h:d7 S e w g nt=Qs a):(0<=a/\a<(nt:Int))/\0<bw S e g a/\UM S e w a<=0:=by have m:=List.mem_of_find?_eq_some h;have p:=List.find?_some h;unfold kF at p;rw[OH,UX,UX]at p;exact⟨dJ m,p⟩
def LG:∀{L:Ql Int}{x:Int},x∈L->oG L<=x:=λ{L x} h=>by
 cases L with
 |nil=>cases h
 |cons a L=>
  have key:∀(L:Ql Int) (b:Int),dQ b L<=b/\∀y∈L,dQ b L<=y:=by
   intro L
   induction L with
   |nil=>exact λb=>⟨Pz _,λy hy=>nomatch hy⟩
   |cons c L ih=>
    intro b;have:=ih (if c<b then c else b);refine⟨?_,λy hy=>?_⟩
    .show dQ (if c<b then c else b) L<=b;have:=this.1;split at this<;>lia
    .show dQ (if c<b then c else b) L<=y;rcases OC.mp hy with rfl|z
     .have:=this.1;split at this<;>lia
     .exact this.2 y z
  have:=key L a;rcases OC.mp h with rfl|z
  .exact this.1
  .exact this.2 x z
def LF:∀{L:Ql Int},L≠[]->oG L∈L:=λ{L} h=>by
 cases L with
 |nil=>exact absurd rfl h
 |cons a L=>
  have key:∀(L:Ql Int) (b:Int),dQ b L=b\/dQ b L∈L:=by
   intro L
   induction L with
   |nil=>exact λb=>.inl rfl
   |cons c L ih=>
    intro b;rcases ih (if c<b then c else b) with z|z
    .show dQ (if c<b then c else b) L=b\/dQ (if c<b then c else b) L∈c::L;rw[z];split
     .exact .inr (Ox ..)
     .exact .inl rfl
    .exact .inr (Ov _ z)
  rcases key L a with z|z
  .show dQ a L∈a::L;rw[z];exact Ox ..
  .exact Ov _ z
def Ac (h:b=1\/b=2):b*(2*l).fdiv b=2*l:=by
 rcases h with rfl|rfl
 .rw[QU _ (by decide)];lia
 .rw[QU _ (by decide)];lia
def zaJ{S:PS}:x∈gA S e w g nt↔∃a,(0<=a/\a<(nt:Int))/\0<bw S e g a/\x=(UM S e w a).fdiv (bw S e g a):=by
 unfold gA;rw[O2];constructor
 .rintro⟨a,ha,rfl⟩;obtain⟨h1,h2⟩:=Pf.mp ha;exact⟨a,dJ h1,of_decide_eq_true h2,rfl⟩
 .rintro⟨a,h1,h2,rfl⟩;exact⟨a,Pf.mpr ⟨gI h1.1 h1.2,Uc h2⟩,rfl⟩
def fA(S:PS)(e:Int->Eg)(w:Int->Int)(g:Int->Bool)(nt:Nat):Int:=oG (gA (Ur S) e w g nt)
def Wl(S:PS)(e:Int->Eg)(w:Int->Int)(g:Int->Bool)(nt:Nat):PS:=VF (Ur S) g (fA S e w g nt)
def Au{S:PS}(a0:0<=a)(a1:a<(nt:Int))(b:0<bw S e g a):bw S e g a*fA S e w g nt<=2*UM S e w a:=by have m:(UM (Ur S) e w a).fdiv (bw (Ur S) e g a)∈gA (Ur S) e w g nt:=zaJ.mpr ⟨a,⟨a0,a1⟩,b,rfl⟩;have l:=LG m;rw[sY]at l;have bb:=nj S e g a;have t:=Ac (l:=UM S e w a) (b:=bw S e g a) (by lia);have l:fA S e w g nt<=(2*UM S e w a).fdiv (bw S e g a):=l;have:=Ro l bb.1;lia
def uU{S:PS}(Ya:∃a,(0<=a/\a<(nt:Int))/\0<bw S e g a):gA (Ur S) e w g nt≠[]/\∃a,(0<=a/\a<(nt:Int))/\0<bw S e g a/\bw S e g a*fA S e w g nt=2*UM S e w a:=by obtain⟨c,c0,c1⟩:=Ya;have ne:gA (Ur S) e w g nt≠[]:=S7 (zaJ.mpr ⟨c,c0,c1,rfl⟩);obtain⟨a,a0,a1,a2⟩:=zaJ.mp (LF ne);refine⟨ne,a,a0,a1,?_⟩;have bb:=nj S e g a;have a1:0<bw S e g a:=a1;rw[sY]at a2;have t:=Ac (l:=UM S e w a) (b:=bw S e g a) (by lia);have a2:fA S e w g nt=(2*UM S e w a).fdiv (bw S e g a):=a2;rw[a2];exact t
def Ok.Wl{M:Nat}{e:Int->Eg}{w:Int->Int}{nt:Nat}{S:PS}(h:Ok M e w nt S){g:Int->Bool}:Ok M e w nt (Wl S e w g nt):=by refine Ok.VF h.Ur λa a0 a1 b=>?_;rw[sY];exact Au a0 a1 b
def As{S:PS}(Ya:∃a,(0<=a/\a<(nt:Int))/\0<bw S e g a)(hf:d7 S e w g nt=Qn):0<fA S e w g nt:=by
 obtain⟨_,a,a0,a1,a2⟩:=uU (w:=w) Ya;have l:=DO hf a a0.1 a0.2 a1;have bb:=nj S e g a;rcases(show bw S e g a=1\/bw S e g a=2 by lia) with z|z
 .rw[z]at a2;lia
 .rw[z]at a2;lia
def MQ{S:PS}(Ya:∃a,(0<=a/\a<(nt:Int))/\0<bw S e g a):d7 (Wl S e w g nt) e w g nt≠Qn:=by obtain⟨_,a,a0,a1,a2⟩:=uU (w:=w) Ya;intro hf;have b:0<bw (Wl S e w g nt) e g a:=a1;have:=DO hf a a0.1 a0.2 b;have q:UM (Wl S e w g nt) e w a=UM (KX.Ur S) e w a-bw (KX.Ur S) e g a*fA S e w g nt:=Cz (KX.Ur S) e w g _ a (uk a1);rw[q,sY]at this;have a2:bw (KX.Ur S) e g a*fA S e w g nt=2*UM S e w a:=a2;lia
def gz(e:Int->Eg)(nt:Nat):Ql Eg:=(av nt).map e
def tZ{S:PS}(h:Ok M e w nt S)(hE:dz M e nt) (hw:∀w∈ws,Eqv (gz e nt) w.1 w.2)(hn:aR S ws≠[]):∃a,(0<=a/\a<(nt:Int))/\0<bw S e (aK (aR S ws)) a:=by
 obtain⟨w',hw',n⟩:∃w∈ws,S.po w.1≠S.po w.2:=by refine OZ λk=>hn (zb1.mpr λw hw=>OZ λz=>k ⟨w,hw,z⟩)
 refine OZ λk=>n ?_;have key:∀a∈gz e nt,(S.po a.1=S.po w'.1↔S.po a.2=S.po w'.1):=λp hp=>by
  obtain⟨a,ha,rfl⟩:=O2.mp hp;have ra:=dJ ha;by_cases z:S.po (e a).1=S.po (e a).2
  .rw[z]
  .have b:¬0<bw S e (aK (aR S ws)) a:=λq=>k ⟨a,ra,q⟩;unfold bw at b;rw[Tr z]at b;have b1:=ux (aK (aR S ws) (S.po (e a).1));have b2:=ux (aK (aR S ws) (S.po (e a).2));have G:aK (aR S ws) (S.po w'.1)=Qt:=Uc (YU.mpr ⟨w',hw',n,.inl rfl⟩);constructor
   .intro q;rw[q,G]at b;have:jU Qt=1:=rfl;lia
   .intro q;rw[q,G]at b;have:jU Qt=1:=rfl;lia
 exact(((hw w' hw').pred (p:=λv=>S.po v=S.po w'.1) key).mp rfl).symm
def su(M:Nat):Ql Eg:=(av M).flatMap λu=>((av M).filter λv=>decide (u<v)).map λv=>(u,v)
def za1:(u,v)∈su M↔0<=u/\u<v/\v<(M:Int):=by
 unfold su;rw[List.mem_flatMap];constructor
 .rintro⟨x,hx,h⟩;obtain⟨y,hy,q⟩:=O2.mp h;cases q;obtain⟨y1,y2⟩:=Pf.mp hy;have:=dJ hx;have:=dJ y1;have:=of_decide_eq_true y2;lia
 .rintro⟨a,b,c⟩;exact⟨u,gI a (by lia),O2.mpr ⟨v,Pf.mpr ⟨gI (by lia) c,Uc b⟩,rfl⟩⟩
def IZ:∀M:Nat,M<=9->(su M).length<=36:=by decide+kernel
def mu(M:Nat)(S:PS):Nat:=((su M).filter λq=>decide (S.po q.1≠S.po q.2)).length
def yL{α:Type}{p q:α->Bool}:∀{V:Ql α},(∀x∈V,q x=Qt->p x=Qt)->(∃x∈V,p x=Qt/\q x=Qf)->(V.filter q).length+1<=(V.filter p).length
 |[],_,h=>by obtain⟨x,hx,_⟩:=h;cases hx
 |y::V,h1,h2=>by
  have mono:∀V:Ql α,(∀x∈V,q x=Qt->p x=Qt)->(V.filter q).length<=(V.filter p).length:=by
   intro V
   induction V with
   |nil=>intro _;exact OL _
   |cons z V ih=>
    intro h;have:=ih λx hx=>h x (Ov _ hx);rw[P8,P8];have hz:=h z (Ox ..);cases e1:q z with
    |true=>rw[hz e1];simp only[if_true,OX];lia
    |false=>cases p z<;>simp<;>lia
  rw[P8,P8];have hy:=h1 y (Ox ..);have m:=mono V λx hx=>h1 x (Ov _ hx);obtain⟨x,hx,px,qx⟩:=h2;rcases OC.mp hx with rfl|z
  .rw[px,qx];simp only[if_true,PJ,if_false,OX];lia
  .have ih:=yL (λx hx=>h1 x (Ov _ hx)) ⟨x,z,px,qx⟩;cases e1:q y with
   |true=>rw[hy e1];simp only[if_true,OX];lia
   |false=>cases p y<;>simp<;>lia
def Lg{S:PS}(h:Ok M e w nt S)(hE:dz M e nt) (a0:0<=a)(a1:a<(nt:Int))(hn:S.po (e a).1≠S.po (e a).2):mu M (KX.Uo S e a)+1<=mu M S:=by
 obtain⟨⟨x0,x1⟩,y0,y1⟩:=hE a a0 a1;have VJ:∀v,(KX.Uo S e a).po v=if v∈bS S e a then(S.n:Int) else S.po v:=λv=>rfl
 have mj:∀u,u∈bS S e a↔(0<=u/\u<(M:Int)/\(S.po u=S.po (e a).1\/S.po u=S.po (e a).2)):=λu=>by
  rw[Yr,h.cur _ x0 x1,h.cur _ y0 y1];constructor
  .rintro(⟨a,b,c⟩|⟨a,b,c⟩)
   .exact⟨a,b,.inl c⟩
   .exact⟨a,b,.inr c⟩
  .rintro⟨a,b,c|c⟩
   .exact .inl ⟨a,b,c⟩
   .exact .inr ⟨a,b,c⟩
 have k1:(e a).1∈bS S e a:=(mj _).mpr ⟨x0,x1,.inl rfl⟩;have k2:(e a).2∈bS S e a:=(mj _).mpr ⟨y0,y1,.inr rfl⟩;refine yL (λq hq k=>?_) ?_
 .rw[UX]at k ⊢;intro z;refine k ?_;obtain⟨u,v⟩:=q;obtain⟨u0,uv,v1⟩:=za1.mp hq;simp only at z ⊢;have:u∈bS S e a↔v∈bS S e a:=by rw[mj,mj,z];exact⟨λk=>⟨by lia,v1,k.2.2⟩,λk=>⟨u0,by lia,k.2.2⟩⟩
  rw[VJ,VJ];by_cases y:u∈bS S e a
  .rw[S9 y,S9 (this.mp y)]
  .rw[Tr y,Tr λk=>y (this.mpr k),z]
 .have ne:(e a).1≠(e a).2:=λz=>hn (by rw[z]);rcases Int.lt_or_gt_of_ne ne with z|z
  .exact⟨((e a).1,(e a).2),za1.mpr ⟨x0,z,y1⟩,Uc hn,UJ λk=>k (by rw[VJ,VJ,S9 k1,S9 k2])⟩
  .exact⟨((e a).2,(e a).1),za1.mpr ⟨y0,z,x1⟩,Uc λk=>hn k.symm,UJ λk=>k (by rw[VJ,VJ,S9 k1,S9 k2])⟩
def U2:Ql Str:=["ties","weights","parts","taken","points","widths","paid","around","piece_of"]
def fl(n:Nat)(f:Int->Int):D:=.lst (((av n).map f).map D.int)
def fp(n:Nat)(f:Int->Ql Int):D:=.lst ((av n).map λp=>dD (f p))
def iL(l:Ql Int):D:=.lst (l.map D.int)
def oD(C:Xl)(M:Nat)(ts:Ql (Int×Int))(wl:Ql Int)(S:PS):D:=.obj C U2 [.lst (ts.map pD),iL wl,.int S.pa,iL S.tk,fp S.n S.pt,fl S.n S.wd,fl S.n S.pd,fl M S.ar,fl M S.po]
def aJ(wl:Ql Int)(a:Int):Int:=wl.getD a.toNat 0
def fG(n:Nat):(av n).length=n:=by unfold av;simp
def M3{f:Int->Int}(v0:0<=v)(v1:v<(n:Int)):((av n).map f).getD v.toNat 0=f v:=by rw[ON,O1];unfold av;rw[O1,Qu (by lia)];show f (v.toNat:Int)=f v;rw[Pp v0]
def iq{x:Str}{d:D}(h:f t=Qs r)(hr:r.d=.obj C ns ds)(hx:aX x ns=Qs j)(hd:ds[j]?=Qs d):(d1 (aI C x) f) t=Qs (if r.ok||flat d then .cl d else .tm d):=by unfold d1;rw[h];show aI C x r=_;unfold aI;rw[hr];simp only[if_true,hx,Oz,hd,P7]
def gX(r:Ev)(d:D):((if r.ok||flat d then Ev.cl d else Ev.tm d):Ev).d=d:=by split<;>rfl
def je{f:Int->Int}(ha:fa t=Qs r1)(hb:fb t=Qs r2)(h1:r1.d=fl n f)(h2:r2.d=.int v)(v0:0<=v)(v1:v<(n:Int)):(d2 az fa fb) t=Qs (.cl (.int (f v))):=by have:=mX ((av n).map f) v ha hb v0 (by rw[OI,fG];exact v1) h1 h2;rw[M3 v0 v1]at this;exact this
def DW{f:Int->Ql Int}(v0:0<=v)(v1:v<(n:Int)):UO ((av n).map λp=>dD (f p)) v=Qs (dD (f v)):=by
 unfold L2.UO;have e:Vn ((av n).map λp=>dD (f p)).length v=Qs v.toNat:=by rw[OI,fG];have:=xB n v.toNat (by lia);rw[Pp v0]at this;exact this
 rw[e];show((av n).map λp=>dD (f p))[v.toNat]?=_;unfold av;rw[O1,O1,Qu (by lia)];show Qs (dD (f (v.toNat:Int)))=_;rw[Pp v0]
def zw{f:Int->Ql Int}(ha:fa t=Qs r1)(hb:fb t=Qs r2)(h1:r1.d=fp n f)(h2:r2.d=.int v)(v0:0<=v)(v1:v<(n:Int)):∃r,(d2 az fa fb) t=Qs r/\r.d=dD (f v):=by rw[cP ha hb];unfold az;rw[h1,h2];show ∃r,(UO ((av n).map λp=>dD (f p)) v).map _=Qs r/\_;rw[DW v0 v1];exact⟨_,rfl,gX _ _⟩
def N5{l:Ql Int}(ha:fa t=Qs r1)(hb:fb t=Qs r2)(h1:r1.d=iL l)(h2:r2.d=.int v)(v0:0<=v)(v1:v<(l.length:Int)):(d2 az fa fb) t=Qs (.cl (.int (aJ l v))):=mX l v ha hb v0 v1 h1 h2
section
variable {S:PS}
def sL(h:f t=Qs r)(hr:r.d=oD C M ts wl S):∃q,(d1 (aI C "ties") f) t=Qs q/\q.d=.lst (ts.map pD):=⟨_,iq (j:=0) h hr (by decide+kernel) rfl,gX _ _⟩
def K3(h:f t=Qs r)(hr:r.d=oD C M ts wl S):∃q,(d1 (aI C "weights") f) t=Qs q/\q.d=iL wl:=⟨_,iq (j:=1) h hr (by decide+kernel) rfl,gX _ _⟩
def BS(h:f t=Qs r)(hr:r.d=oD C M ts wl S):(d1 (aI C "parts") f) t=Qs (.cl (.int S.pa)):=by have:=iq (x:= "parts") (j:=2) h hr (by decide+kernel) rfl;rw[this];rw[show flat (D.int S.pa)=Qt from rfl,P1];rfl
def K4(h:f t=Qs r)(hr:r.d=oD C M ts wl S):∃q,(d1 (aI C "taken") f) t=Qs q/\q.d=iL S.tk:=⟨_,iq (j:=3) h hr (by decide+kernel) rfl,gX _ _⟩
def BQ(h:f t=Qs r)(hr:r.d=oD C M ts wl S):∃q,(d1 (aI C "points") f) t=Qs q/\q.d=fp S.n S.pt:=⟨_,iq (j:=4) h hr (by decide+kernel) rfl,gX _ _⟩
def wQ(h:f t=Qs r)(hr:r.d=oD C M ts wl S):∃q,(d1 (aI C "widths") f) t=Qs q/\q.d=fl S.n S.wd:=⟨_,iq (j:=5) h hr (by decide+kernel) rfl,gX _ _⟩
def K5(h:f t=Qs r)(hr:r.d=oD C M ts wl S):∃q,(d1 (aI C "paid") f) t=Qs q/\q.d=fl S.n S.pd:=⟨_,iq (j:=6) h hr (by decide+kernel) rfl,gX _ _⟩
def BU(h:f t=Qs r)(hr:r.d=oD C M ts wl S):∃q,(d1 (aI C "around") f) t=Qs q/\q.d=fl M S.ar:=⟨_,iq (j:=7) h hr (by decide+kernel) rfl,gX _ _⟩
def BR(h:f t=Qs r)(hr:r.d=oD C M ts wl S):∃q,(d1 (aI C "piece_of") f) t=Qs q/\q.d=fl M S.po:=⟨_,iq (j:=8) h hr (by decide+kernel) rfl,gX _ _⟩
def oz{m:Str}{G:Ql D->Qo Ev}{ga:DA}{d:D}(h:f t=Qs r)(hr:r.d=oD C M ts wl S)(hm:aX m U2=Qn)(hg:ga t=Qs rs)(hG:G (oD C M ts wl S::rs.map Ev.d)=Qs (.cl d))(hf:flat d=Qt):bY C m G f ga t=Qs (.cl d):=by unfold bY;rw[h];simp only[Oz];rw[hr];unfold oD;simp only[hm,and_self,if_true];rw[hg];simp only[Oz];refine kK ?_ hf;rw[OF,hr];exact hG
end
def Ab{S:PS}(hw:VX M ts){i j:Nat}{sl:Sl}(hi:t[0]?=Qs sl)(hsl:sl=.val (oD C M ts wl S)\/sl=.dp (oD C M ts wl S))(hj:t[1]?=Qs (.val (.int a)))(a0:0<=a)(a1:a<(ts.length:Int)): (bE 1 [0] (fX (d2 az (d1 (aI C "ties") (af 0)) (af 1))) (cC 0) bL (d2 az (d1 (aI C "piece_of") (af 1)) (af 0))) t=Qs (.nw [.int (S.po (ao ts a).1),.int (S.po (ao ts a).2)]):=by
 obtain⟨b0,bb,bM⟩:=hw.lt _ (mh a0 a1);obtain⟨r0,e0,d0⟩:∃r,af 0 t=Qs r/\r.d=oD C M ts wl S:=by
  unfold af;rw[hi];rcases hsl with z|z<;>subst z
  .exact⟨_,rfl,rfl⟩
  .exact⟨_,rfl,rfl⟩
 have e1:af 1 t=Qs (.cl (.int a)):=by unfold af;rw[hj]
 obtain⟨q,eq,dq⟩:=sL e0 d0;have et:=q9 eq e1 dq rfl a0 a1;obtain⟨b,ec⟩:∃b,fZ t [0]=Qs (b,[oD C M ts wl S]):=by
  rcases hsl with z|z
  .subst z;exact⟨Qt,by unfold fZ;rw[hi];rfl⟩
  .subst z;exact⟨Qf,by unfold fZ;rw[hi];rfl⟩
 have ix:∀(v:Int),0<=v->v<(M:Int)->(d2 az (d1 (aI C "piece_of") (af 1)) (af 0)) [.val (.int v),.val (oD C M ts wl S)]=Qs (.cl (.int (S.po v))):=λv v0 v1=>by obtain⟨q,e,dq⟩:=BR (f:=af 1) (t:=[.val (.int v),.val (oD C M ts wl S)]) (r:=.cl (oD C M ts wl S)) (M:=M) (ts:=ts) (wl:=wl) (S:=S) rfl rfl;exact je e (rfl:af 0 _=Qs (.cl (.int v))) dq rfl v0 v1
 unfold bE fX;rw[et,ec];show((if[D.int (ao ts a).1,D.int (ao ts a).2].length<=50000 then(bU (cC 0) bL (d2 az (d1 (aI C "piece_of") (af 1)) (af 0)) [D.int (ao ts a).1,D.int (ao ts a).2] [.no,.val (oD C M ts wl S)]).bind _ else Qn))=_;have k1:=ix (ao ts a).1 b0 (SO bb bM);have k2:=ix (ao ts a).2 (Pj (P6 b0 bb)) bM;have cc:bU (cC 0) bL (d2 az (d1 (aI C "piece_of") (af 1)) (af 0)) [D.int (ao ts a).1,D.int (ao ts a).2] [.no,.val (oD C M ts wl S)]=Qs [.int (S.po (ao ts a).1),.int (S.po (ao ts a).2)]:=by show((d2 az (d1 (aI C "piece_of") (af 1)) (af 0)) [.val (.int (ao ts a).1),.val (oD C M ts wl S)]).bind (λr=>(((d2 az (d1 (aI C "piece_of") (af 1)) (af 0)) [.val (.int (ao ts a).2),.val (oD C M ts wl S)]).bind λr2=>Qs [r2.d]).map λxs=>r.d::xs)=_;rw[k1,k2];rfl
 rw[cc];show(if(_||Ui [D.int (S.po (ao ts a).1),D.int (S.po (ao ts a).2)])=Qt then _ else Qn)=_;rw[show Ui [D.int (S.po (ao ts a).1),D.int (S.po (ao ts a).2)]=Qt from rfl,P1];rfl
def Mu (ha:fa t=Qs (.cl (.int v)))(hb:fb t=Qs (.cl (.T4 G))):aC (d2 (kq Qf) fa fb) t=Qs (aK G v):=by unfold aC;rw[cP ha hb];show Qs (G.contains v)=_;unfold aK;rw[List.contains_eq_mem]
def EU{S:PS}(hw:VX M ts) (a0:0<=a)(a1:a<(ts.length:Int)):jh C [oD C M ts wl S,.int a,.T4 G]=Qs (.cl (.int (bw S (ao ts) (aK G) a))):=by
 let O:Sl:=.val (oD C M ts wl S)
 let t0:Th:=[O,.val (.int a),.val (.T4 G),.no,.no]
 let x:=S.po (ao ts a).1
 let y:=S.po (ao ts a).2
 let t1:Th:=[O,.val (.int a),.val (.T4 G),.val (.int x),.val (.int y)]
 have E1:(dy (kE 2 l6) (bE 1 [0] (fX (d2 az (d1 (aI C "ties") aq) aA)) bc bL (d2 az (d1 (aI C "piece_of") aA) aq))) t0=Qs (.nx t1):=by unfold dy;rw[Ab (i:=0) (j:=0) hw (t:=t0) rfl (.inl rfl) rfl a0 a1];rfl
 have c:=pf (fa:=af 3) (fb:=af 4) (t:=t1) (a:=x) (b:=y) rfl rfl;show(yl C t0).bind dg=_;unfold bw;by_cases z:x=y
 .rw[S9 z];exact Uj ((aL E1).trans (uY ((iU c (Uc z)).trans rfl)))
 .rw[Tr z];have E2:(bI (aC (d2 fq aP bF)) (cO aQ) bX) t1=Qs (.nx t1):=fL c (UJ z);have e3:(bE 1 [2] (fX (ag cG (ae aP nL))) bc (aC (d2 (kq Qf) aq aA)) aq) t1=Qs (.nw (([x,y].filter (aK G)).map D.int)):=by have ft:∀v:Int,aC (d2 (kq Qf) aq aA) [.val (.int v),.val (.T4 G)]=Qs (aK G v):=λv=>Mu rfl rfl;have cc:=yZ (e:=D.int) (f:=D.int) (fe:=af 0) (p:=aK G) (ext:=[.val (.T4 G)]) [x,y] .no (λv _=>ft v) (λv _ _=>⟨.cl (.int v),rfl,rfl⟩);show(if[D.int x,D.int y].length<=50000 then(bU bc (aC (d2 (kq Qf) aq aA)) aq ([x,y].map D.int) [.no,.val (.T4 G)]).bind _ else Qn)=_;rw[cc,S9 (by show 2<=50000;decide)];simp only[Oz,UW,P1,if_true]
  have e4:=oI (f:=(bE 1 [2] (fX (ag cG (ae aP nL))) bc (aC (d2 (kq Qf) aq aA)) aq)) (xs:=[x,y].filter (aK G)) e3 rfl;have el:(([x,y].filter (aK G)).length:Int)=jU (aK G x)+jU (aK G y):=by rw[P8,P8];cases aK G x<;>cases aK G y<;>rfl
  rw[el]at e4;exact Uj ((aL E1).trans ((aL E2).trans (kc e4)))
structure Sm(M:Nat)(S:PS)(B:Nat):Prop where
 pa:S.pa<(B:Int)
 wd:∀p,0<=p->p<(S.n:Int)->0<=S.wd p/\S.wd p<(B:Int)
 pd:∀p,0<=p->p<(S.n:Int)->0<=S.pd p/\S.pd p<(B:Int)
 ar:∀v,0<=v->v<(M:Int)->0<=S.ar v/\S.ar v<(B:Int)
def mq{i:Int}(hB:B<=DL.Uj)(h0:0<=i)(h1:i<(B:Int)):sm i=Qt:=by unfold sm;exact Uc (by lia)
def CD{S:PS}(hw:VX M ts)(hl:wl.length=ts.length)(h0:∀x∈wl,0<=x/\x<10^30) (hB:B<=DL.Uj)(hp:0<S.pa)(hS:Sm M S B) (a0:0<=a)(a1:a<(ts.length:Int)):gK C [oD C M ts wl S,.int a]=Qs (.cl (.int (UM S (ao ts) (aJ wl) a))):=by
 obtain⟨b0,bb,bM⟩:=hw.lt _ (mh a0 a1);let O:Sl:=.val (oD C M ts wl S)
 let x:=(ao ts a).1
 let y:=(ao ts a).2
 let t0:Th:=[O,.val (.int a),.no,.no]
 let t1:Th:=[O,.val (.int a),.val (.int x),.val (.int y)]
 obtain⟨q,eq,dq⟩:=sL (f:=af 0) (t:=t0) (r:=.cl (oD C M ts wl S)) (M:=M) (ts:=ts) (wl:=wl) (S:=S) rfl rfl;have et:=q9 eq (rfl:af 1 t0=Qs (.cl (.int a))) dq rfl a0 a1;have E1:(dy (ck 2 jl) (d2 az (d1 (aI C "ties") aq) aA)) t0=Qs (.nx t1):=by unfold dy;rw[et];rfl
 have o1:af 0 t1=Qs (.cl (oD C M ts wl S)):=rfl;obtain⟨qw,ew,dw⟩:=K3 o1 rfl;have e1:=N5 ew (rfl:af 1 t1=Qs (.cl (.int a))) dw rfl a0 (by rw[hl];exact a1);have e2:=BS o1 rfl;obtain⟨qa,ea,da⟩:=BU o1 rfl;have e3:=je ea (rfl:af 2 t1=Qs (.cl (.int x))) da rfl b0 (SO bb bM);have e4:=je ea (rfl:af 3 t1=Qs (.cl (.int y))) da rfl (Pj (P6 b0 bb)) bM;have hm:aJ wl a∈wl:=by unfold aJ;rw[ON,OE (by lia)];exact Qm _
 have s1:sm (aJ wl a)=Qt:=j6 (by have:=h0 _ hm;lia) (by have:=h0 _ hm;lia);have s2:sm S.pa=Qt:=mq hB (Pj hp) hS.pa;have e5:=Ap (Ap (lh e1 e2 s1 s2) e3) e4;show(yk C t0).bind dg=_;exact Uj ((aL E1).trans (kc e5))
def M4{S:PS}(hw:VX M ts)(hT:ts.length<=1000)(hl:wl.length=ts.length)(h0:∀x∈wl,0<=x/\x<10^30) (hB:B<=DL.Uj)(hp:0<S.pa)(hS:Sm M S B):lZ C [oD C M ts wl S,.T4 G]=Qs (.cl (match d7 S (ao ts) (aJ wl) (aK G) ts.length with|some a=>.int a|none=>.TX)):=by
 let O:Sl:=.val (oD C M ts wl S)
 let t0:Th:=[O,.val (.T4 G),.no]
 let bd:DS:=(bI (iz (aC (d2 qG (bY C "growing_beside" (jh C) aq (ae aU l7)) aQ)) (aC (d2 qE (bY C "left_between" (gK C) aq e8) aQ))) (eR 2) bX)
 have turn:∀a:Int,0<=a->a<(ts.length:Int)->bd [O,.val (.T4 G),.val (.int a)]=if kF S (ao ts) (aJ wl) (aK G) a then Qs (.rt (.cl (.int a))) else Qs (.nx [O,.val (.T4 G),.val (.int a)]):=λa a0 a1=>by
  let t:Th:=[O,.val (.T4 G),.val (.int a)]
  have e1:=oz (d:=.int (bw S (ao ts) (aK G) a)) (rs:=[.cl (.int a),.cl (.T4 G)]) (ga:=ae aU l7) (m:= "growing_beside") (G:=jh C) (f:=af 0) (t:=t) (r:=.cl (oD C M ts wl S)) (M:=M) (ts:=ts) (wl:=wl) (S:=S) rfl rfl (by decide+kernel) rfl (EU hw a0 a1) rfl;have e2:=oz (d:=.int (UM S (ao ts) (aJ wl) a)) (rs:=[.cl (.int a)]) (ga:=ae aU ai) (m:= "left_between") (G:=gK C) (f:=af 0) (t:=t) (r:=.cl (oD C M ts wl S)) (M:=M) (ts:=ts) (wl:=wl) (S:=S) rfl rfl (by decide+kernel) rfl (CD hw hl h0 hB hp hS a0 a1) rfl;have c1:=o5 e1 (rfl:dC (.int 0) t=Qs (.cl (.int 0)));have c2:aC (d2 qE (bY C "left_between" (gK C) aq e8) aQ) t=Qs (decide (UM S (ao ts) (aJ wl) a<=0)):=by unfold aC;rw[cP e2 (rfl:dC (.int 0) t=Qs (.cl (.int 0)))];rfl
  have c:=Fc c1 c2;show bI _ _ _ t=_;rw[xK c];rfl
 have loop:∀(L:Ql Int) (s:Sl),(∀a∈L,0<=a/\a<(ts.length:Int))->(match L.find? (kF S (ao ts) (aJ wl) (aK G)) with
   |some a=>bj nT bd (L.map D.int) [O,.val (.T4 G),s]=Qs (.rt (.cl (.int a)))
   |none=>∃s',bj nT bd (L.map D.int) [O,.val (.T4 G),s]=Qs (.nx [O,.val (.T4 G),s'])):=by
  intro L
  induction L with
  |nil=>exact λs _=>⟨s,rfl⟩
  |cons a L ih=>
   intro s h;have ra:=h a (Ox ..);have tn:=turn a ra.1 ra.2;rw[QE];cases z:kF S (ao ts) (aJ wl) (aK G) a with
   |true=>rw[z]at tn;exact D0 (t:=[O,.val (.T4 G),s]) (t1:=[O,.val (.T4 G),.val (.int a)]) rfl tn
   |false=>
    rw[z]at tn;have:=ih (.val (.int a)) λb hb=>h b (Ov _ hb);have st:=iX (k:=cC 2) (ds:=L.map D.int) (t:=[O,.val (.T4 G),s]) (t1:=[O,.val (.T4 G),.val (.int a)]) rfl tn;simp only[];cases y:L.find? (kF S (ao ts) (aJ wl) (aK G)) with
    |some b=>rw[y]at this;exact st.trans this
    |none=>rw[y]at this;obtain⟨s',e⟩:=this;exact⟨s',st.trans e⟩
 have lp:=loop (av ts.length) .no λa ha=>dJ ha;obtain⟨q,eq,dq⟩:=sL (f:=af 0) (t:=t0) (r:=.cl (oD C M ts wl S)) (M:=M) (ts:=ts) (wl:=wl) (S:=S) rfl rfl;have el:(ag bK (ae (d1 (aI C "ties") aq) ai)) t0=Qs (.cl (.int (ts.length:Int))):=by rw[gh eq];unfold bK;dsimp only;rw[dq];simp
 have er:=HL (k0:=cC 2) (b:=bd) (t:=t0) el rfl (by lia);show(aF (g6 nT (ag bK (ae (d1 (aI C "ties") aq) ai)) bd) j0 t0).bind dg=_;unfold d7;cases z:(av ts.length).find? (kF S (ao ts) (aJ wl) (aK G)) with
 |some a=>rw[z]at lp;exact Uj (uY (er.trans lp))
 |none=>rw[z]at lp;obtain⟨s',e⟩:=lp;exact Uj ((aL (er.trans e)).trans rfl)
end KX
set_option maxHeartbeats 4000000
namespace KX
open PySem.Spec L2 DL
def AL (hf:f t=Qs (.cl (.int (n:Int))))(hn:n<=50000):ip f t=Qs (Qt,(av n).map D.int):=by unfold ip;rw[hf];simp only[Oz,Ev.d];rw[S9 (by unfold dk;exact Uc (by lia)),Qc];congr 2;unfold dm av;simp
def Nu{cap:Ql Nat}{g:Int->Int}{b:Bool}(hf:f t=Qs (.cl (.int (n:Int))))(hn:n<=50000)(hc:fZ t cap=Qs (b,c))(he:∀x∈av n,fe (.val (.int x)::c.map Sl.val)=Qs (.cl (.int (g x)))): (bE 1 cap (ip f) bc bL fe) t=Qs (.nw (((av n).map g).map D.int)):=by unfold bE;have e2:bU bc bL fe ((av n).map D.int) (Sl.no::c.map Sl.val)=Qs (((av n).map g).map D.int):=yX (λ_ _=>rfl) _ _ he;rw[AL hf hn,hc];simp only[Oz];rw[S9 (by rw[OI,Le];exact hn)];show(bU bc bL fe ((av n).map D.int) (Sl.no::c.map Sl.val)).bind _=_;rw[e2];simp only[Oz,UW,P1,if_true]
end KX
set_option maxHeartbeats 1000000
namespace KX
open PySem.Spec L2 DL
def sO(n:Nat):av n=(Qa 0 n).map λ(i:Nat)=>(i:Int):=by unfold av;rw[QX]
def yY{b:Int->Int}{p:Int->Bool}{f:Int->Int}{ft:DT}{fe:DE}{c:Ql D}:∀(k j:Nat) (s s':Sl),(∀i:Nat,i<j+k->ft (.val (.int (i:Int))::.val (.int (b i))::c.map Sl.val)=Qs (p i)/\(p i=Qt->fe (.val (.int (i:Int))::.val (.int (b i))::c.map Sl.val)=Qs (.cl (.int (f i)))))->bU (ck 2 jj) ft fe (cH j (((Qa j k).map λ(i:Nat)=>(b (i:Int))).map D.int)) (s::s'::c.map Sl.val)=Qs (((((Qa j k).map λ(i:Nat)=>(i:Int)).filter p).map f).map D.int)
 |0,j,s,s',_=>rfl
 |k+1,j,s,s',h=>by
  obtain⟨h1,h2⟩:=h j (by lia);have ih:=yY k (j+1) (.val (.int (j:Int))) (.val (.int (b j))) λi hi=>h i (by lia);rw[Rv,OF,OF,OF];unfold cH bU;have k1:ck 2 jj (.tup [.int (j:Int),.int (b j)]) (s::s'::c.map Sl.val)=Qs (.val (.int (j:Int))::.val (.int (b j))::c.map Sl.val):=rfl;rw[k1];simp only[Oz];rw[h1];simp only[Oz];rw[P8];cases z:p (j:Int) with
  |true=>simp only[if_true];rw[h2 z,ih];rfl
  |false=>simp only[PJ,if_false];exact ih
def GK{S:PS}(hw:VX M ts)(hT:ts.length<=1000)(hl:wl.length=ts.length)(h0:∀x∈wl,0<=x/\x<10^30) (hB:B<=DL.Uj)(hp:0<S.pa)(hS:Sm M S B):nF C [oD C M ts wl S,.T4 G]=Qs (.nw ((gA S (ao ts) (aJ wl) (aK G) ts.length).map D.int)):=by
 let O:Sl:=.val (oD C M ts wl S)
 let t0:Th:=[O,.val (.T4 G),.no]
 obtain⟨q,eq,dq⟩:=sL (f:=af 0) (t:=t0) (r:=.cl (oD C M ts wl S)) (M:=M) (ts:=ts) (wl:=wl) (S:=S) rfl rfl;have el:(ag bK (ae (d1 (aI C "ties") aq) ai)) t0=Qs (.cl (.int (ts.length:Int))):=by rw[gh eq];unfold bK;dsimp only;rw[dq];simp
 let bs:Int->Int:=bw S (ao ts) (aK G)
 have e1:=Nu (cap:=[1,0]) (t:=t0) (b:=Qt) (c:=[.T4 G,oD C M ts wl S]) (fe:=bY C "growing_beside" (jh C) aU jZ) (g:=bs) el (by lia) rfl λx hx=>by have rx:=dJ hx;exact oz (d:=.int (bs x)) (rs:=[.cl (.int x),.cl (.T4 G)]) (ga:=ae aq l7) (m:= "growing_beside") (G:=jh C) (f:=af 2) (t:=[.val (.int x),.val (.T4 G),O]) (r:=.cl (oD C M ts wl S)) (M:=M) (ts:=ts) (wl:=wl) (S:=S) rfl rfl (by decide+kernel) rfl (EU hw rx.1 rx.2) rfl
 have E1:=jf (i:=2) e1 (by simp[t0]);let t1:Th:=[O,.val (.T4 G),.own (((av ts.length).map bs).map D.int)]
 have e2:(bE 2 [0] (jJ aU) (ck 2 jj) (aC (d2 qG aA aQ)) (d2 qV (bY C "left_between" (gK C) aU fR) aA)) t1=Qs (.nw ((gA S (ao ts) (aJ wl) (aK G) ts.length).map D.int)):=by
  have cc:=yY (b:=bs) (p:=λa=>decide (0<bs a)) (f:=λa=>(UM S (ao ts) (aJ wl) a).fdiv (bs a)) (ft:=(aC (d2 qG aA aQ))) (fe:=(d2 qV (bY C "left_between" (gK C) aU fR) aA)) (c:=[oD C M ts wl S]) ts.length 0 .no .no λi hi=>by
   let t:Th:=[.val (.int (i:Int)),.val (.int (bs i)),O]
   refine⟨o5 (t:=t) (a:=bs i) (b:=0) rfl rfl,λz=>?_⟩;have el:=oz (d:=.int (UM S (ao ts) (aJ wl) (i:Int))) (rs:=[.cl (.int (i:Int))]) (ga:=ae aq ai) (m:= "left_between") (G:=gK C) (f:=af 2) (t:=t) (r:=.cl (oD C M ts wl S)) (M:=M) (ts:=ts) (wl:=wl) (S:=S) rfl rfl (by decide+kernel) rfl (CD hw hl h0 hB hp hS (a:=(i:Int)) (by lia) (by lia)) rfl;have bb:=nj S (ao ts) (aK G) i;have z:=of_decide_eq_true z;have z:0<bs i:=z;have bb:0<=bs i/\bs i<=2:=bb;exact ph el (rfl:af 1 t=Qs (.cl (.int (bs i)))) (by lia) (j6 (by lia) (by lia))
  have em:((av ts.length).map bs).map D.int=((Qa 0 ts.length).map λ(i:Nat)=>(bs (i:Int))).map D.int:=by rw[sO,O9,O9,O9];rfl
  have es:jJ aU t1=Qs (Qf,cH 0 (((av ts.length).map bs).map D.int)):=rfl;unfold bE;rw[es,em];show(if(cH 0 (((Qa 0 ts.length).map λ(i:Nat)=>(bs (i:Int))).map D.int)).length<=50000 then(bU (ck 2 jj) _ _ (cH 0 (((Qa 0 ts.length).map λ(i:Nat)=>(bs (i:Int))).map D.int)) [.no,.no,O]).bind _ else Qn)=_;rw[S9 (by rw[lJ];simp;lia)];have cc':bU (ck 2 jj) (aC (d2 qG aA aQ)) (d2 qV (bY C "left_between" (gK C) aU fR) aA) (cH 0 (((Qa 0 ts.length).map λ(i:Nat)=>(bs (i:Int))).map D.int)) [.no,.no,O]=Qs ((gA S (ao ts) (aJ wl) (aK G) ts.length).map D.int):=by unfold gA;rw[sO];exact cc
  rw[cc'];simp only[Oz,UW,P1,if_true]
 show(yi C t0).bind dg=_;exact Uj ((aL E1).trans (kc e2))
def yv{x:Str}{y:D}(h:t[0]?=Qs (.dp (.obj C ns ds)))(he:fe t=Qs r)(hy:jM r=Qs y)(hj:aX x ns=Qs j)(hn:ns.length<900):eV 0 C x fe t=Qs (.nx (t.set 0 (.dp (.obj C ns (ds.set j y))))):=by unfold eV;rw[he];show lE t 0 C x r=_;unfold lE;rw[h,hy];show(if C=C/\ns.length<900 then Qs (Out.nx (t.set 0 (.dp (DL.Ww C ns ds x y)))) else Qn)=_;rw[S9 ⟨rfl,hn⟩];unfold DL.Ww;rw[hj]
def jL{x:Str}{y:D}(h:t[0]?=Qs (.dp (.obj C ns ds)))(he:fe t=Qs r)(hy:jM r=Qs y)(hj:aX x ns=Qn)(hn:ns.length<900):eV 0 C x fe t=Qs (.nx (t.set 0 (.dp (.obj C (ns++[x]) (ds++[y]))))):=by unfold eV;rw[he];show lE t 0 C x r=_;unfold lE;rw[h,hy];show(if C=C/\ns.length<900 then Qs (Out.nx (t.set 0 (.dp (DL.Ww C ns ds x y)))) else Qn)=_;rw[S9 ⟨rfl,hn⟩];unfold DL.Ww;rw[hj]
def xq{x:Str}{es UG:Ql D}{k:Ql D->Qo (Ql D)}(h:t[0]?=Qs (.dp (.obj C ns ds)))(hj:aX x ns=Qs j)(hd:ds[j]?=Qs (.lst es))(f1:Ui es=Qt)(hk:k es=Qs UG)(f2:Ui UG=Qt):gT t 0 C x k=Qs (.nx (t.set 0 (.dp (.obj C ns (ds.set j (.lst UG)))))):=by unfold gT;rw[h];simp only[if_true,hj,Oz,hd,f1,hk,f2]
def MI{S:PS}(hM:M<=1000)(hn:S.n<=1000)(hB:B<=DL.Uj)(hS:Sm M S B):qK C [oD C M ts wl S]=Qs (oD C M ts wl (Ur S)):=by
 have dbl:∀{t:Th}{f:DE}{r:Ev}{n:Nat}{g:Int->Int},f t=Qs r->r.d=fl n g->n<=1000->(∀p,0<=p->p<(n:Int)->0<=g p/\g p<(B:Int))->(bE 1 [] (cV f) bc bL (d2 qM hZ aq)) t=Qs (.nw (((av n).map λp=>2*g p).map D.int)):=λ{t f r n g} hf hr hn hg=>by
  have:=y8 (cap:=[]) (b:=Qt) (c:=[]) (fe:=(d2 qM hZ aq)) (g:=λx=>2*x) hf hr (by rw[OI,fG];lia) rfl λx hx=>by obtain⟨p,hp,rfl⟩:=O2.mp hx;have rp:=dJ hp;have:=hg p rp.1 rp.2;exact lh (fa:=dC (.int 2)) (fb:=af 0) (t:=[.val (.int (g p))]) (a:=2) (b:=g p) rfl rfl (j6 (by decide) (by decide)) (mq hB this.1 this.2)
  rw[O9 (f:=g)]at this;exact this
 let t0:Th:=[.dp (oD C M ts wl S)]
 let S1:PS:={S with pa:=S.pa*2}
 let S2:PS:={S1 with wd:=λp=>2*S.wd p}
 let S3:PS:={S2 with pd:=λp=>2*S.pd p}
 have E1:pL 0 C "parts" hZ t0=Qs (.nx [.dp (oD C M ts wl S1)]):=by
  unfold pL;show oT t0 0 C "parts" (.cl (.int 2))=_;unfold oT;show(if C=C/\U2.length<900/\(2:Int).natAbs<=1000 then _ else Qn)=_;rw[S9 ⟨rfl,by decide,by decide⟩];have:aX "parts" U2=Qs 2:=by decide+kernel
  rw[this];show Qs (Out.nx (t0.set 0 (.dp (DL.Ww C U2 _ "parts" (.int (S.pa*2))))))=_;unfold DL.Ww;rw[this];rfl
 obtain⟨q2,a2,b2⟩:=wQ (f:=af 0) (t:=[.dp (oD C M ts wl S1)]) (r:=.tm (oD C M ts wl S1)) (C:=C) (M:=M) (ts:=ts) (wl:=wl) (S:=S1) rfl rfl;have E2:=yv (t:=[.dp (oD C M ts wl S1)]) (C:=C) (x:= "widths") (j:=5) (y:=fl S.n λp=>2*S.wd p) rfl (dbl a2 b2 hn hS.wd) (by show(if Ui _ then Qs _ else Qn)=_;rw[UW];rfl) (by decide+kernel) (by decide);obtain⟨q3,a3,b3⟩:=K5 (f:=af 0) (t:=[.dp (oD C M ts wl S2)]) (r:=.tm (oD C M ts wl S2)) (C:=C) (M:=M) (ts:=ts) (wl:=wl) (S:=S2) rfl rfl;have E3:=yv (t:=[.dp (oD C M ts wl S2)]) (C:=C) (x:= "paid") (j:=6) (y:=fl S.n λp=>2*S.pd p) rfl (dbl a3 b3 hn hS.pd) (by show(if Ui _ then Qs _ else Qn)=_;rw[UW];rfl) (by decide+kernel) (by decide);obtain⟨q4,a4,b4⟩:=BU (f:=af 0) (t:=[.dp (oD C M ts wl S3)]) (r:=.tm (oD C M ts wl S3)) (C:=C) (M:=M) (ts:=ts) (wl:=wl) (S:=S3) rfl rfl;have E4:=yv (t:=[.dp (oD C M ts wl S3)]) (C:=C) (x:= "around") (j:=7) (y:=fl M λp=>2*S.ar p) rfl (dbl a4 b4 hM hS.ar) (by show(if Ui _ then Qs _ else Qn)=_;rw[UW];rfl) (by decide+kernel) (by decide);show(tT C t0).bind k9=_;have:=(aL E1).trans ((aL E2).trans ((aL E3).trans E4));rw[show tT C t0=_ from this];rfl
def yH{f:Int->Int}(p0:0<=p)(p1:p<(n:Int)):((av n).map f).set p.toNat v=(av n).map λq=>if q=p then v else f q:=by
 apply Rg;intro i;rw[To];unfold av;simp only[O1,OI,RZ];by_cases h:i<n
 .rw[Qu h];by_cases z:p.toNat=i
  .rw[S9 z,S9 (by lia)];simp only[P7];rw[S9 (by lia)]
  .rw[Tr z];simp only[P7];rw[Tr (by lia)]
 .rw[Su (by simp;lia)];split
  .rw[Tr (by lia)];rfl
  .rfl
def yI{f:Int->Int}(p0:0<=p)(p1:p<(n:Int)):Vn ((av n).map f).length p=Qs p.toNat/\((av n).map f)[p.toNat]?=Qs (f p):=by
 constructor
 .rw[OI,fG];have:=xB n p.toNat (by lia);rw[Pp p0]at this;exact this
 .unfold av;rw[O1,O1,Qu (by lia)];show Qs (f (p.toNat:Int))=_;rw[Pp p0]
def xE(l:Ql Int):dW (l.map D.int)=Qs l:=by
 induction l with
 |nil=>rfl
 |cons x l ih=>simp only[OF,dW,ih];rfl
def EZ{x:Str}{f:Int->Int}{fk:DE}(h:t[0]?=Qs (.dp (.obj C ns ds)))(hj:aX x ns=Qs j)(hd:ds[j]?=Qs (fl n f))(hk:fk t=Qs (.cl (.int p)))(he:fe t=Qs (.cl (.int v)))(p0:0<=p)(p1:p<(n:Int)):i9 (λi j=>i+j) 0 C x fk fe t=Qs (.nx (t.set 0 (.dp (.obj C ns (ds.set j (fl n λq=>f q+if q=p then v else 0)))))):=by
 unfold i9;rw[hk,he];refine xq h hj hd (UW _) ?_ (UW ((av n).map λq=>f q+if q=p then v else 0));show(Vn (((av n).map f).map D.int).length p).bind _=_;obtain⟨a,b⟩:=yI (f:=f) p0 p1;rw[OI,a];simp only[Oz];rw[O1,b];show Qs ((((av n).map f).map D.int).set p.toNat (.int (f p+v)))=_;rw[<-Tx,yH p0 p1];congr 2;refine Pb λq _=>?_;by_cases z:q=p
 .rw[S9 z,S9 z,z]
 .rw[Tr z,Tr z,QY]
def EY{M:Nat}{m:Int}:∀(zs:Ql Int) (f:Int->Int),zs.Nodup->(∀z∈zs,0<=z/\z<(M:Int))->gy m zs ((av M).map f)=Qs ((av M).map λv=>f v+if v∈zs then m else 0)
 |[],f,_,_=>by show Qs _=_;congr 1;refine Pb λq _=>?_;simp
 |z::zs,f,nd,h=>by
  obtain⟨z0,z1⟩:=h z (Ox ..);have Zz:=OO.mp nd;obtain⟨a,b⟩:=yI (f:=f) z0 z1;unfold gy;rw[a];simp only[Oz];rw[b];simp only[Oz];rw[yH z0 z1,EY zs _ Zz.2 λy hy=>h y (Ov _ hy)];congr 1;refine Pb λq _=>?_;by_cases y:q=z
  .subst y;rw[S9 rfl,Tr Zz.1,S9 (Ox ..),QY]
  .rw[Tr y];by_cases k:q∈zs
   .rw[S9 k,S9 (Ov _ k)]
   .rw[Tr k,Tr λw=>(OC.mp w).elim y k]
def MK{rows es xs:Ql D}{s1 s4:Sl}{n:Int}{f1 f2:Str}{j1 j2:Nat}{zs ws us:Ql Int}(i1:aX f1 ns=Qs j1)(i2:aX f2 ns=Qs j2)(h1:ds[j1]?=Qs (.lst rows))(h2:ds[j2]?=Qs (.lst es))(ha:UO rows n=Qs (.lst xs))(hz:dW xs=Qs zs)(hw:dW es=Qs ws)(hj:j1≠j2)(hu:gy m zs ws=Qs us):∃Wb,(lO 0 3 4 2 C f1 f2) [.dp (.obj C ns ds),s1,.val (.int m),.val (.int n),s4]=Qs (.nx [.dp (.obj C ns (ds.set j2 (.lst (us.map D.int)))),s1,.val (.int m),.val (.int n),Wb]):=by
 unfold lO;simp only[tV,o7,mY,List.getElem?_cons_zero,Qp,i1,i2,Oz,h1,h2,ha,hz,hw,hu];rw[S9 ⟨trivial,by decide,by decide,by decide,by simp⟩,S9 hj];cases z:zs.getLast? with
 |none=>exact⟨s4,rfl⟩
 |some u=>exact⟨.val (.int u),rfl⟩
def MJ{S:PS}(hO:Ok M e w nt S) (nG:G.Nodup)(hG:∀p∈G,∃v,0<=v/\v<(M:Int)/\S.po v=p){st:Int}:qO C [oD C M ts wl S,.T4 G,.int st]=Qs (oD C M ts wl (VF S (aK G) st)):=by
 let T (P:Ql Int) (s3 s4:Sl):Th:=[.dp (oD C M ts wl (VF S (aK P) st)),.val (.T4 G),.val (.int st),s3,s4]
 let bd:DS:=(aF (i9 (λi j=>i+j) 0 C "widths" aP aU) (aF (i9 (λi j=>i+j) 0 C "paid" aP aU) (lO 0 3 4 2 C "points" "around")))
 have turn:∀(P:Ql Int) (p:Int) (s4:Sl),p∉P->(∃v,0<=v/\v<(M:Int)/\S.po v=p)->∃Wb,bd (T P (.val (.int p)) s4)=Qs (.nx (T (P++[p]) (.val (.int p)) Wb)):=by
  rintro P p s4 hp ⟨v,v0,v1,rfl⟩;have pr:=hO.VT v v0 v1;let p:=S.po v
  let Sa:=VF S (aK P) st
  let S1:PS:={Sa with wd:=λq=>Sa.wd q+if q=p then st else 0}
  let S2:PS:={S1 with pd:=λq=>Sa.pd q+if q=p then st else 0}
  have E1:=EZ (C:=C) (t:=T P (.val (.int p)) s4) (x:= "widths") (j:=5) (n:=S.n) (f:=Sa.wd) (p:=p) (v:=st) (fk:=af 3) (fe:=af 2) rfl (by decide+kernel) rfl rfl rfl pr.1 pr.2;have E2:=EZ (C:=C) (t:=[.dp (oD C M ts wl S1),.val (.T4 G),.val (.int st),.val (.int p),s4]) (x:= "paid") (j:=6) (n:=S.n) (f:=Sa.pd) (p:=p) (v:=st) (fk:=af 3) (fe:=af 2) rfl (by decide+kernel) rfl rfl rfl pr.1 pr.2;have au:=EY (M:=M) (m:=st) (S.pt p) Sa.ar (hO.nd pr.1 pr.2) (hO.inr p pr.1 pr.2);have i1:aX "points" U2=Qs 4:=by decide+kernel
  have i2:aX "around" U2=Qs 7:=by decide+kernel
  have fin:oD C M ts wl (VF S (aK (P++[p])) st)=.obj C U2 [.lst (ts.map pD),iL wl,.int S.pa,iL S.tk,fp S.n S.pt,fl S.n S2.wd,fl S.n S2.pd,.lst (((av M).map λv=>Sa.ar v+if v∈S.pt p then st else 0).map D.int),fl M S.po]:=by
   have k:∀q,(if aK (P++[p]) q then st else 0)=(if aK P q then st else 0)+if q=p then st else 0:=λq=>by
    unfold aK;by_cases z:q=p
    .subst z;rw[Uc (by simp:S.po v∈P++[S.po v]),UJ hp];simp
    .by_cases y:q∈P
     .rw[Uc (by simp[y]:q∈P++[p]),Uc y];simp[z]
     .rw[UJ (by simp[y,z]:¬q∈P++[p]),UJ y];simp[z]
   have e1:(VF S (aK (P++[p])) st).wd=S2.wd:=by
    funext q;show S.wd q+(if aK (P++[p]) q then st else 0)=S.wd q+(if aK P q then st else 0)+if q=p then st else 0
    rw[k,Tb]
   have e2:(VF S (aK (P++[p])) st).pd=S2.pd:=by
    funext q;show S.pd q+(if aK (P++[p]) q then st else 0)=S.pd q+(if aK P q then st else 0)+if q=p then st else 0
    rw[k,Tb]
   have e3:(av M).map (VF S (aK (P++[p])) st).ar=(av M).map λv=>Sa.ar v+if v∈S.pt p then st else 0:=by
    refine Pb λu hu=>?_;have ru:=dJ hu;show S.ar u+(if aK (P++[p]) (S.po u) then st else 0)=S.ar u+(if aK P (S.po u) then st else 0)+if u∈S.pt p then st else 0
    rw[k,Tb];have:(S.po u=p)↔u∈S.pt p:=by rw[hO.cur v v0 v1];exact⟨λz=>⟨ru.1,ru.2,z⟩,λz=>z.2.2⟩
    by_cases z:S.po u=p
    .rw[S9 z,S9 (this.mp z)]
    .rw[Tr z,Tr λk=>z (this.mpr k)]
   unfold oD fl;rw[e1,e2,e3];rfl
  have E3:∃Wb,(lO 0 3 4 2 C "points" "around") [.dp (oD C M ts wl S2),.val (.T4 G),.val (.int st),.val (.int p),s4]=Qs (.nx (T (P++[p]) (.val (.int p)) Wb)):=by obtain⟨Wb,q⟩:=MK (C:=C) (ns:=U2) (s1:=.val (.T4 G)) (s4:=s4) (m:=st) (n:=p) (f1:= "points") (f2:= "around") (ds:=[.lst (ts.map pD),iL wl,.int S.pa,iL S.tk,fp S.n S.pt,fl S.n S2.wd,fl S.n S2.pd,fl M Sa.ar,fl M S.po]) (j1:=4) (j2:=7) i1 i2 rfl rfl (DW pr.1 pr.2) (xE _) (xE _) (by decide) au;refine⟨Wb,q.trans ?_⟩;simp only[T,fin];rfl
  obtain⟨Wb,E3⟩:=E3;exact⟨Wb,(aL E1).trans ((aL E2).trans E3)⟩
 have loop:∀(L P:Ql Int) (s3 s4:Sl),(P++L).Nodup->(∀p∈L,∃v,0<=v/\v<(M:Int)/\S.po v=p)->∃s3' Wb,bj l8 bd (L.map D.int) (T P s3 s4)=Qs (.nx (T (P++L) s3' Wb)):=by
  intro L
  induction L with
  |nil=>exact λP s3 s4 _ _=>⟨s3,s4,by rw[Po];rfl⟩
  |cons p L ih=>
   intro P s3 s4 nd h;have hp:p∉P:=λz=>(OG.mp nd).2.2 p z p (Ox ..) rfl;obtain⟨Wb,e⟩:=turn P p s4 hp (h p (Ox ..));obtain⟨a,b,e2⟩:=ih (P++[p]) (.val (.int p)) Wb (by simpa using nd) λq hq=>h q (Ov _ hq);have ea:P++p::L=(P++[p])++L:=by simp
   exact⟨a,b,by rw[ea];exact(iX (t1:=T P (.val (.int p)) s4) rfl e).trans e2⟩
 obtain⟨s3',Wb,e⟩:=loop G [] .no .no (by simpa using nG) hG;have e0:oD C M ts wl (VF S (aK []) st)=oD C M ts wl S:=by
  have:VF S (aK []) st=S:=by unfold VF aK;simp
  rw[this]
 show(pJ l8 aA bd [.dp (oD C M ts wl S),.val (.T4 G),.val (.int st),.no,.no]).bind k9=_;have es:pJ l8 aA bd [.dp (oD C M ts wl S),.val (.T4 G),.val (.int st),.no,.no]=Qs (.nx (T G s3' Wb)):=by
  have q:T [] .no .no=[.dp (oD C M ts wl S),.val (.T4 G),.val (.int st),.no,.no]:=by simp only[T,e0]
  rw[RH,q]at e;exact e
 rw[es];rfl
end KX
set_option maxHeartbeats 4000000
namespace KX
open PySem.Spec L2 DL
def dV(P:Ql Int)(V:Int->Int):D:=.Uk (P.map Sum.inl) (P.map λp=>.int (V p))
def iC(P:Ql Int)(p:Int):Ql Int:=if p∈P then P else P++[p]
def fT(V:Int->Int)(p v:Int):Int->Int:=λq=>if q=p then v else V q
def Ob(P:Ql Int)(p:Int):(iC P p).length<=P.length+1:=by unfold iC;split<;>simp
def xQ(p:Int):∀P:Ql Int,gV (P.map Sum.inl) (Sum.inl p)=decide (p∈P)
 |[]=>rfl
 |q::P=>by
  have i:=xQ p P;unfold gV at i ⊢;rw[OF,Qh,i];by_cases h:q=p
  .subst h;simp
  .have h':¬(Sum.inl q:aD)=Sum.inl p:=λz=>h (by injection z);have:¬p=q:=λz=>h z.symm;rw[UJ h'];simp[this]
def rL(V:Int->Int):∀P:Ql Int,(P.map λp=>D.int (V p)).all aM=Qt
 |[]=>rfl
 |_::P=>by simp only[OF,PN,rL V P];rfl
def xS(V:Int->Int)(p:Int):∀P:Ql Int,eO (P.map Sum.inl) (P.map λp=>D.int (V p)) (Sum.inl p)=if p∈P then Qs (.int (V p)) else Qn
 |[]=>rfl
 |q::P=>by
  simp only[OF,eO,xS V p P];by_cases h:q=p
  .subst h;simp
  .have h':¬(Sum.inl q:aD)=Sum.inl p:=λz=>h (by injection z);have:¬p=q:=λz=>h z.symm;rw[Tr h'];simp[this]
def zU(V:Int->Int)(p v:Int):∀P:Ql Int,RT (λ(k':aD) d'=>if k'=Sum.inl p then D.int v else d') (P.map Sum.inl) (P.map λp=>D.int (V p))=P.map λq=>D.int (fT V p v q)
 |[]=>rfl
 |q::P=>by
  simp only[OF,QP,zU V p v P];by_cases h:q=p
  .subst h;simp[fT]
  .have h':¬(Sum.inl q:aD)=Sum.inl p:=λz=>h (by injection z);rw[Tr h'];simp[fT,h]
def Iq(P:Ql Int)(V:Int->Int)(p v:Int):D.Uk (fD (P.map Sum.inl) (P.map λp=>.int (V p)) (Sum.inl p) (.int v)).1 (fD (P.map Sum.inl) (P.map λp=>.int (V p)) (Sum.inl p) (.int v)).2=dV (iC P p) (fT V p v):=by
 unfold fD iC;rw[xQ];by_cases h:p∈P
 .rw[Uc h,S9 rfl,S9 h];show D.Uk (P.map Sum.inl) (RT _ _ _)=_;rw[zU];rfl
 .rw[UJ h,Tr (by decide),Tr h];unfold dV;have e:(P.map λq=>D.int (fT V p v q))=P.map λq=>D.int (V q):=Pb λq hq=>by have:q≠p:=λz=>h (z▸hq);simp[fT,this]
  simp only[PH,OF,Rq,e];simp[fT]
def Ng{fk fv:DE}{V:Int->Int}{rk rv:Ev}(hv:fv t=Qs rv)(ev:rv.d=.int v)(hk:fk t=Qs rk)(ek:rk.d=.int p)(hi:t[i]?=Qs (.dp (dV P V)))(hl:P.length<10000):ja i fk fv t=Qs (.nx (t.set i (.dp (dV (iC P p) (fT V p v))))):=by unfold ja;rw[hv,hk];show jE t i rv rk=_;unfold jE;rw[hi,ek,ev];show(if(P.map λp=>D.int (V p)).all aM&&aM (.int v)&&decide ((P.map Sum.inl).length<100000) then Qs (Out.nx (t.set i (.dp (.Uk (fD (P.map Sum.inl) (P.map λp=>.int (V p)) (Sum.inl p) (.int v)).1 (fD (P.map Sum.inl) (P.map λp=>.int (V p)) (Sum.inl p) (.int v)).2)))) else Qn)=_;rw[S9 (by rw[rL];simp[aM];lia),Iq]
def El{V:Int->Int}(ha:fa t=Qs ra)(ea:ra.d=dV P V)(hb:fb t=Qs rb)(eb:rb.d=.int p)(hp:p∈P):(d2 kr fa fb) t=Qs (.cl (.int (V p))):=by rw[cP ha hb];unfold kr;rw[ea,eb];show(if(P.map λp=>D.int (V p)).all aM then(eO (P.map Sum.inl) (P.map λp=>D.int (V p)) (Sum.inl p)).map Ev.cl else Qn)=_;rw[S9 (rL V P),xS,S9 hp];rfl
def Ni{fc:DE}{V:Int->Int}{n:Int}{rc:Ev}(ha:fa t=Qs ra)(ea:ra.d=dV P V)(hb:fb t=Qs rb)(eb:rb.d=.int p)(hc:fc t=Qs rc)(ec:rc.d=.int n):(pM fa fb fc) t=Qs (.cl (.int (if p∈P then V p else n))):=by
 unfold pM;rw[ha,hb,hc];simp only[Oz];rw[ea,eb,ec];show(if(P.map λp=>D.int (V p)).all aM&&aM (.int n) then Qs (Ev.cl ((eO (P.map Sum.inl) (P.map λp=>D.int (V p)) (Sum.inl p)).getD (.int n))) else Qn)=_;rw[S9 (by rw[rL];rfl),xS];by_cases h:p∈P
 .rw[S9 h,S9 h];rfl
 .rw[Tr h,Tr h];rfl
def Fo(v:Int->Int)(p q:Int):Prop:=v q<v p\/(v q=v p/\p<=q)
def DY{k:D->Th->Qo Th}{b:DS}{f:Nat->D}{P:Nat->Th->Prop}{n:Nat}(hb:∀x,x<n->∀t,P x t->∃t1 t2,k (f x) t=Qs t1/\b t1=Qs (.nx t2)/\P (x+1) t2):∀(m i:Nat) (t:Th),i+m=n->P i t->∃t',bj k b ((Qa i m).map f) t=Qs (.nx t')/\P n t'
 |0,i,t,e,h=>⟨t,rfl,by rw[<-e];exact h⟩
 |m+1,i,t,e,h=>by obtain⟨t1,t2,e1,e2,h2⟩:=hb i (by lia) t h;obtain⟨t',e3,h'⟩:=DY hb m (i+1) t2 (by lia) h2;refine⟨t',?_,h'⟩;rw[Rv,OF];simp only[bj,e1,e2,Oz,e3]
def MY{k:D->Th->Qo Th}{b:DS}{f:Nat->D}{P:Nat->Th->Prop}(hb:∀x,x<n->∀t,P x t->∃t1 t2,k (f x) t=Qs t1/\b t1=Qs (.nx t2)/\P (x+1) t2)(t:Th)(h:P 0 t):∃t',bj k b ((Pk n).map f) t=Qs (.nx t')/\P n t':=by
 have:=DY hb n 0 t (by lia) h
 rwa [QX]
end KX
set_option maxHeartbeats 1000000
namespace KX
open PySem.Spec L2 DL
def D3(a b:Nat)(h:0<b):(a:Int).fmod (b:Int)=((a % b:Nat):Int):=by rw[Int.fmod_eq_emod_of_nonneg _ (by lia)];rfl
def pN:DT:=(aC (d2 di aA aQ))
def EC:∀(n a b:Nat),b<n->eI pN m9 n [.val (.int (a:Int)),.val (.int (b:Int))]=Qs (.nx [.val (.int (Px a b:Int)),.val (.int 0)])
 |0,a,b,h=>by lia
 |n+1,a,b,h=>by
  have ec:pN [.val (.int (a:Int)),.val (.int (b:Int))]=Qs (!decide ((b:Int)=0)):=by simp[pN,aC,d2,af,dC,di,bT,cq,Ev.d,aM,BO]
  unfold eI;rw[ec];by_cases hb:b=0
  .subst hb;simp
  .have XN:¬((b:Int)=0):=by lia
   rw[UJ XN];have eb:m9 [.val (.int (a:Int)),.val (.int (b:Int))]=Qs (.nx [.val (.int (b:Int)),.val (.int ((a % b:Nat):Int))]):=by
    unfold m9 i7;have:(ae (af 1) (ae (d2 qR (af 0) (af 1)) ai)) [.val (.int (a:Int)),.val (.int (b:Int))]=Qs [.cl (.int (b:Int)),.cl (.int ((a:Int).fmod (b:Int)))]:=by simp[ae,ai,d2,af,kI,jS,Ev.d,hb]
    rw[this,D3 a b (by lia)];rfl
   simp only[Oz,Bool.not_false,if_true,eb];rw[EC n b (a % b) (by have:=Nat.mod_lt a (show 0<b by lia);lia),SS b,<-VB,SS b]
def Nw(a b:Nat):qI [.int (a:Int),.int (b:Int)]=Qs (.cl (.int (Px a b:Int))):=by
 have e:=EC (((b:Int).natAbs)+1) a b (by lia);show((aF (iY (lH 1) pN m9) (cO (ag ku (ae (af 0) ai)))) [.val (.int (a:Int)),.val (.int (b:Int))]).bind dg=_;have e':(iY (lH 1) pN m9) [.val (.int (a:Int)),.val (.int (b:Int))]=Qs (.nx [.val (.int (Px a b:Int)),.val (.int 0)]):=e;rw[aL e'];have h:¬((Px a b:Int)<0):=by lia
 simp[cO,ag,ae,ai,af,ku,Ev.d,dg,h]
def D6(a b:Nat):(a:Int).fdiv (b:Int)=((a/b:Nat):Int):=by rw[QU _ (by lia)];rfl
def Ax{a:Nat}(h:a<DL.Uj):sm (a:Int)=Qt:=by unfold sm;rw[UX];exact h
def MS(s m:Nat)(h0:0<m)(h:m<DL.Uj):iE [.int (s:Int),.int (m:Int)]=Qs (.cl (.tup [.int ((s/Px s m:Nat):Int),.int ((m/Px s m:Nat):Int)])):=by
 have g0:0<Px s m:=Qe _ h0;have g1:Px s m<=m:=Rw _ h0;have gs:sm (Px s m:Int)=Qt:=Ax (Pa g1 h);let t0:Th:=[.val (.int (s:Int)),.val (.int (m:Int)),.no]
 let t1:Th:=[.val (.int (s:Int)),.val (.int (m:Int)),.val (.int (Px s m:Int))]
 have a1:(ag (aO qI) jZ) t0=Qs (.cl (.int (Px s m:Int))):=(eJ (rfl:af 0 t0=Qs (.cl (.int (s:Int)))) (rfl:af 1 t0=Qs (.cl (.int (m:Int))))).trans (kK (Nw s m) rfl);have E1:=iB (i:=2) a1 (by simp[t0]);have E2:(bI (aC (d2 qL aA aQ)) (aN 2 (d1 oO aU)) bX) t1=Qs (.nx t1):=fL (oF (fa:=af 1) (fb:=dC (.int 0)) (t:=t1) (a:=(m:Int)) (b:=0) rfl rfl) (UJ (by lia));have d1:=ph (fa:=af 0) (fb:=af 2) (t:=t1) (a:=(s:Int)) (b:=(Px s m:Int)) rfl rfl (by lia) gs;have Xu:=ph (fa:=af 1) (fb:=af 2) (t:=t1) (a:=(m:Int)) (b:=(Px s m:Int)) rfl rfl (by lia) gs;rw[D6]at d1 Xu;have a3:=(eJ (k:=cG) d1 Xu).trans rfl;show(yh t0).bind dg=_;exact Uj ((aL E1).trans ((aL E2).trans (kc a3)))
def w5(n:Nat):av (n+1)=av n++[(n:Int)]:=B6 n
def D4(n:Nat)(f:Int->Int)(v:Int):((av n).map f++[v])=(av (n+1)).map λp=>if p=(n:Int) then v else f p:=by
 rw[w5,PH];congr 1
 .refine Pb λp hp=>?_;have:=dJ hp;rw[Tr (by lia)]
 .simp
def MW(n:Nat)(f:Int->Ql Int)(v:Ql Int):((av n).map λp=>dD (f p))++[dD v]=(av (n+1)).map λp=>dD (if p=(n:Int) then v else f p):=by
 rw[w5,PH];congr 1
 .refine Pb λp hp=>?_;have:=dJ hp;rw[Tr (by lia)]
 .simp
def zy{x:Str}{l:Ql Int}(h:t[0]?=Qs (.dp (.obj C ns ds)))(hj:aX x ns=Qs j)(hd:ds[j]?=Qs (iL l))(he:fe t=Qs (.cl (.int v)))(hl:l.length<100000):lR 0 C x fe t=Qs (.nx (t.set 0 (.dp (.obj C ns (ds.set j (iL (l++[v]))))))):=by unfold lR;rw[he];refine xq h hj hd (UW _) ?_ (UW (l++[v]));unfold tG;show(if(flat (D.int v)&&decide ((l.map D.int).length<100000))=Qt then Qs (l.map D.int++[D.int v]) else Qn)=_;rw[OI,Uc hl,S9 (by rfl),PH];rfl
def LP{g:Int->Ql Int}(h:f t=Qs r)(hr:r.d=fp n g):(ag bK (ae f ai)) t=Qs (.cl (.int (n:Int))):=by rw[gh h];unfold bK;dsimp only;rw[hr];show Qs (Ev.cl (.int (((av n).map λp=>dD (g p)).length:Int)))=_;rw[OI,fG]
def Bg{S:PS}(h:Ok M e w nt S) (p0:0<=p)(p1:p<(S.n:Int)):(S.pt p).length<=M:=by
 have:=j5 (h.nd p0 p1) (C:=av M) λu hu=>by have:=h.inr p p0 p1 u hu;exact gI this.1 this.2
 rwa [fG]at this
def M8(l:Ql Int):Xd (l.map D.int) (l.map D.int)=Qt:=by have:=Eb (.lst (l.map D.int));exact this
def Iz{S:PS}(hw:VX M ts)(hM:M<=30)(hn:S.n<=1000)(hO:Ok M (ao ts) w ts.length S)(hk:S.tk.length<=1000) (a0:0<=a)(a1:a<(ts.length:Int)):qJ C [oD C M ts wl S,.int a]=Qs (oD C M ts wl (Uo S (ao ts) a)):=by
 obtain⟨b0,bb,bM⟩:=hw.lt _ (mh a0 a1);let x:=S.po (ao ts a).1
 let y:=S.po (ao ts a).2
 have px:=hO.VT (ao ts a).1 b0 (SO bb bM);have py:=hO.VT (ao ts a).2 (Pj (P6 b0 bb)) bM;let J:=bS S (ao ts) a
 let A:Sl:=.val (.int a)
 let X:Sl:=.val (.int x)
 let Y:Sl:=.val (.int y)
 let t0:Th:=[.dp (oD C M ts wl S),A,.no,.no,.no,.no]
 let t1:Th:=[.dp (oD C M ts wl S),A,X,Y,.no,.no]
 have E1:(dy (kE 2 jl) (bE 1 [0] (fX (d2 az (d1 (aI C "ties") aq) aA)) bc bL (d2 az (d1 (aI C "piece_of") aA) aq))) t0=Qs (.nx t1):=by unfold dy;rw[Ab (i:=0) (j:=0) hw (t:=t0) rfl (.inr rfl) rfl a0 a1];rfl
 obtain⟨q,eq,dq⟩:=BQ (f:=af 0) (t:=t1) (r:=.tm (oD C M ts wl S)) (M:=M) (ts:=ts) (wl:=wl) (S:=S) rfl rfl;obtain⟨r1,k1,d1'⟩:=zw eq (rfl:af 2 t1=Qs (.cl (.int x))) dq rfl px.1 px.2;obtain⟨r2,k2,Xu⟩:=zw eq (rfl:af 3 t1=Qs (.cl (.int y))) dq rfl py.1 py.2;have lx:(S.pt x).length<=M:=Bg hO px.1 px.2;have ly:(S.pt y).length<=M:=Bg hO py.1 py.2;have ec:(d2 dY (d2 az (d1 (aI C "points") aq) aU) (d2 az (d1 (aI C "points") aq) aP)) t1=Qs (.nw ((S.pt x++S.pt y).map D.int)):=by
  rw[cP k1 k2];have:(kI ic λi j=>D.int (i+j)) r1 r2=Qn:=by(try unfold dY);(try unfold qS);(try unfold qM);(try unfold qV);(try unfold qR);(try unfold qL);(try unfold qE);(try unfold qG);(try unfold qP);unfold kI;rw[d1',Xu];rfl
  (try unfold dY);(try unfold qM);unfold lC
  rw[this];show oU r1 r2=_;unfold oU;rw[d1',Xu];show(if(r1.ok||Ui ((S.pt x).map D.int))&&(r2.ok||Ui ((S.pt y).map D.int))&&decide (((S.pt x).map D.int).length+((S.pt y).map D.int).length<=100000) then Qs (Ev.nw ((S.pt x).map D.int++(S.pt y).map D.int)) else Qn)=_;rw[UW,UW,P1,P1,Uc (by rw[OI,OI];lia),S9 (by rfl),PH]
 have e2:=rD (xs:=S.pt x++S.pt y) ec rfl (by rw[O8];lia);have E2:=jf (i:=4) e2 (by simp[t1]);let oP (P:Ql Int):D:=.obj C U2 [.lst (ts.map pD),iL wl,.int S.pa,iL S.tk,fp S.n S.pt,fl S.n S.wd,fl S.n S.pd,fl M S.ar,fl M λv=>if v∈P then(S.n:Int) else S.po v]
 let T (P:Ql Int) (s5:Sl):Th:=[.dp (oP P),A,X,Y,.own (J.map D.int),s5]
 have rJ:∀z∈J,0<=z/\z<(M:Int):=λz hz=>by
  rcases Yr.mp hz with k | k
  .exact hO.inr x px.1 px.2 z k
  .exact hO.inr y py.1 py.2 z k
 let bd:DS:=(m5 0 C "piece_of" cb (ag bK (ae (d1 (aI C "points") aq) ai)))
 have turn:∀(P:Ql Int) (z:Int),0<=z->z<(M:Int)->bd (T P (.val (.int z)))=Qs (.nx (T (P++[z]) (.val (.int z)))):=λP z z0 z1=>by
  have i8:aX "piece_of" U2=Qs 8:=by decide +kernel
  have i4:aX "points" U2=Qs 4:=by decide +kernel
  have ep:=iq (f:=af 0) (t:=T P (.val (.int z))) (r:=.tm (oP P)) (C:=C) (ns:=U2) (x := "points") (j:=4) (d:=fp S.n S.pt) rfl rfl i4 rfl;have el:=LP ep (gX _ _);show m5 0 C "piece_of" cb (ag bK (ae (d1 (aI C "points") aq) ai)) (T P (.val (.int z)))=_;unfold m5;rw[el];show gT (T P (.val (.int z))) 0 C "piece_of" (oS (.cl (.int (S.n:Int))) (.cl (.int z)))=_;have hs:oS (.cl (.int (S.n:Int))) (.cl (.int z)) (((av M).map λv=>if v∈P then(S.n:Int) else S.po v).map D.int)=Qs (((av M).map λv=>if v∈P++[z] then(S.n:Int) else S.po v).map D.int):=by
   show(if flat (D.int (S.n:Int)) then(Vn (((av M).map λv=>if v∈P then(S.n:Int) else S.po v).map D.int).length z).map (λl=>(((av M).map λv=>if v∈P then(S.n:Int) else S.po v).map D.int).set l (.int (S.n:Int))) else Qn)=_;rw[S9 (by rfl),OI,(yI z0 z1).1];show Qs ((((av M).map λv=>if v∈P then(S.n:Int) else S.po v).map D.int).set z.toNat (.int (S.n:Int)))=_;rw[<-Tx,yH z0 z1];congr 2;refine Pb λq _=>?_;by_cases k:q=z
   .rw[S9 k,S9 (by simp[k])]
   .rw[Tr k];by_cases k2:q∈P
    .rw[S9 k2,S9 (by simp[k2])]
    .rw[Tr k2,Tr (by simp[k,k2])]
  exact xq (t:=T P (.val (.int z))) (ns:=U2) (j:=8) rfl i8 rfl (UW _) hs (UW _)
 have loop:∀(L P:Ql Int) (s5:Sl),(∀z∈L,0<=z/\z<(M:Int))->∃s5',jK 4 (J.map D.int) 5 bd (L.map D.int) (T P s5)=Qs (T (P++L) s5'):=by
  intro L
  induction L with
  |nil=>exact λP s5 _=>⟨s5,by rw[Po];rfl⟩
  |cons z L ih =>
   intro P s5 h;have rz:=h z (Ox ..);obtain⟨s5',e⟩:=ih (P++[z]) (.val (.int z)) λu hu=>h u (Ov _ hu);refine⟨s5',?_⟩;have ea:P++z::L=(P++[z])++L:=by simp
   rw[ea,OF];unfold jK;rw[show cC 5 (.int z) (T P s5)=Qs (T P (.val (.int z))) from rfl];simp only[Oz];rw[turn P z rz.1 rz.2];show(if Xd (J.map D.int) (J.map D.int) then jK 4 (J.map D.int) 5 bd (L.map D.int) (T (P++[z]) (.val (.int z))) else Qn)=_;rw[M8,S9 rfl];exact e
 obtain⟨s5,lp⟩:=loop J [] .no rJ;rw[RH]at lp;have o0:oP []=oD C M ts wl S:=by show D.obj C U2 _=D.obj C U2 _;simp only[Rr,if_false]
 have E3:pI 4 5 bd [.dp (oD C M ts wl S),A,X,Y,.own (J.map D.int),.no]=Qs (.nx (T J s5)):=by
  unfold pI;show(if(J.map D.int).all aM then(jK 4 (J.map D.int) 5 bd (J.map D.int) [.dp (oD C M ts wl S),A,X,Y,.own (J.map D.int),.no]).map Out.nx else Qn)=_;rw[AG,S9 rfl];have q:T [] .no=[.dp (oD C M ts wl S),A,X,Y,.own (J.map D.int),.no]:=by simp only[T,o0]
  rw[<-q,lp];rfl
 have i4:aX "points" U2=Qs 4:=by decide +kernel
 have i5:aX "widths" U2=Qs 5:=by decide +kernel
 have i6:aX "paid" U2=Qs 6:=by decide +kernel
 have i3:aX "taken" U2=Qs 3:=by decide +kernel
 let Zv:Int->Int:=λv=>if v∈J then(S.n:Int) else S.po v
 let WK:Int->Ql Int:=λp=>if p=(S.n:Int) then J else S.pt p
 let wd2:Int->Int:=λp=>if p=(S.n:Int) then 0 else S.wd p
 let pd2:Int->Int:=λp=>if p=(S.n:Int) then S.pd x+S.pd y else S.pd p
 let t4:Th:=[.dp (.obj C U2 [.lst (ts.map pD),iL wl,.int S.pa,iL S.tk,fp (S.n+1) WK,fl S.n S.wd,fl S.n S.pd,fl M S.ar,fl M Zv]),A,X,Y,.no,s5]
 have E4:pK 0 4 C "points" (T J s5)=Qs (.nx t4):=by unfold pK;show(if C=C/\4≠0/\Ui (J.map D.int)=Qt then(aX "points" U2).bind _ else Qn)=_;rw[S9 ⟨rfl,by decide,UW _⟩,i4];show(if((av S.n).map λp=>dD (S.pt p)).length<100000 then Qs (Out.nx _) else Qn)=_;rw[S9 (by rw[OI,fG];lia)];have:=MW S.n S.pt J;show Qs (Out.nx [.dp (.obj C U2 [.lst (ts.map pD),iL wl,.int S.pa,iL S.tk,.lst (((av S.n).map λp=>dD (S.pt p))++[dD J]),fl S.n S.wd,fl S.n S.pd,fl M S.ar,fl M Zv]),A,X,Y,.no,s5])=_;rw[this];rfl
 have E5:=zy (t:=t4) (C:=C) (x := "widths") (j:=5) (l:=(av S.n).map S.wd) (v:=0) (fe:=dC (.int 0)) rfl i5 rfl rfl (by rw[OI,fG];lia);rw[D4]at E5;let t5:Th:=[.dp (.obj C U2 [.lst (ts.map pD),iL wl,.int S.pa,iL S.tk,fp (S.n+1) WK,fl (S.n+1) wd2,fl S.n S.pd,fl M S.ar,fl M Zv]),A,X,Y,.no,s5]
 have ep:=iq (f:=af 0) (t:=t5) (C:=C) (ns:=U2) (x := "paid") (j:=6) (d:=fl S.n S.pd) (r:=.tm (.obj C U2 [.lst (ts.map pD),iL wl,.int S.pa,iL S.tk,fp (S.n+1) WK,fl (S.n+1) wd2,fl S.n S.pd,fl M S.ar,fl M Zv])) rfl rfl i6 rfl;have p1:=je ep (rfl:af 2 t5=Qs (.cl (.int x))) (gX _ _) rfl px.1 px.2;have p2:=je ep (rfl:af 3 t5=Qs (.cl (.int y))) (gX _ _) rfl py.1 py.2;have E6:=zy (t:=t5) (C:=C) (x := "paid") (j:=6) (l:=(av S.n).map S.pd) (v:=S.pd x+S.pd y) rfl i6 rfl (jW p1 p2) (by rw[OI,fG];lia);rw[D4]at E6;let t6:Th:=[.dp (.obj C U2 [.lst (ts.map pD),iL wl,.int S.pa,iL S.tk,fp (S.n+1) WK,fl (S.n+1) wd2,fl (S.n+1) pd2,fl M S.ar,fl M Zv]),A,X,Y,.no,s5]
 have E7:=zy (t:=t6) (C:=C) (x := "taken") (j:=3) (l:=S.tk) (v:=a) (fe:=af 1) rfl i3 rfl rfl (by lia);show(tS C t0).bind k9=_;have:=(aL E1).trans ((aL E2).trans ((aL E3).trans ((aL E4).trans ((aL E5).trans ((aL E6).trans E7)))));rw[show tS C t0=_ from this];rfl
def HR(M:Nat)(v:Int):OR M v=(av M).map λ_=>v:=by rw[List.map_const',fG]
def Mr (hM:M<=900):nH C [.obj C [] [],wD M ts,iL wl]=Qs (oD C M ts wl (PS.new M)):=by
 let W:Sl:=.val (wD M ts)
 let V:Sl:=.val (iL wl)
 let A:Sl:=.val (.int (M:Int))
 let T:Sl:=.val (.lst (ts.map pD))
 let O (ns:Ql Str) (ds:Ql D):Th:=[.dp (.obj C ns ds),W,V,A,T]
 have E0:(dy (ck 2 l6) aA) [.dp (.obj C [] []),W,V,.no,.no]=Qs (.nx (O [] [])):=rfl;have e1:∀ns ds,(ag dU nL) (O ns ds)=Qs (.nw (ts.map pD)):=λns ds=>xj (r:=.cl (.lst (ts.map pD))) rfl rfl;have e2:∀ns ds,(ag dU e8) (O ns ds)=Qs (.nw (wl.map D.int)):=λns ds=>sX (r:=.cl (iL wl)) rfl rfl;have z0:∀ns ds,(d2 qM (ag bO (ae aQ ai)) aP) (O ns ds)=Qs (.nw (((av M).map λ_=>(0:Int)).map D.int)):=λns ds=>by rw[<-HR];exact HQ (x:=0) (m:=M) rfl rfl hM
 have ep:∀ns ds,(jb 1 [] (ip aP) bc bL (ag bO fR)) (O ns ds)=Qs (.dn (fp M λp=>[p])):=λns ds=>by unfold jb;rw[AL (f:=af 3) (t:=O ns ds) (n:=M) rfl (by lia)];show(if((av M).map D.int).length<=50000 then(fN bc bL (ag bO fR) ((av M).map D.int) [.no]).map _ else Qn)=_;rw[S9 (by rw[OI,fG];lia),y7 (e:=D.int) (f:=λp=>dD [p]) (ext:=[]) (av M) .no λx _=>⟨.nw [.int x],rfl,rfl⟩];rfl
 have eo:∀ns ds,(jP fQ) (O ns ds)=Qs (.nw (((av M).map id).map D.int)):=λns ds=>by rw[T5];exact xf (f:=af 3) (t:=O ns ds) (n:=M) rfl (by lia)
 have fi:∀l:Ql Int,jM (.nw (l.map D.int))=Qs (iL l):=λl=>by show(if Ui _ then Qs _ else Qn)=_;rw[UW];rfl
 have fi2:jM (.nw (ts.map pD))=Qs (.lst (ts.map pD)):=by show(if Ui _ then Qs _ else Qn)=_;rw[yG];rfl
 have E1:=jL (t:=O [] []) (C:=C) (x:= "ties") rfl (e1 _ _) fi2 (by decide+kernel) (by decide);have E2:=jL (t:=O ["ties"] [.lst (ts.map pD)]) (C:=C) (x:= "weights") rfl (e2 _ _) (fi _) (by decide+kernel) (by decide);have E3:=jL (t:=O ["ties","weights"] [.lst (ts.map pD),iL wl]) (C:=C) (x:= "parts") (fe:=dC (.int 1)) (y:=.int 1) rfl rfl rfl (by decide+kernel) (by decide);have E4:=jL (t:=O ["ties","weights","parts"] [.lst (ts.map pD),iL wl,.int 1]) (C:=C) (x:= "taken") (fe:=ag bO ai) (y:=iL []) rfl rfl rfl (by decide+kernel) (by decide);have E5:=jL (t:=O ["ties","weights","parts","taken"] [.lst (ts.map pD),iL wl,.int 1,iL []]) (C:=C) (x:= "points") rfl (ep _ _) rfl (by decide+kernel) (by decide);have E6:=jL (t:=O ["ties","weights","parts","taken","points"] [.lst (ts.map pD),iL wl,.int 1,iL [],fp M λp=>[p]]) (C:=C) (x:= "widths") rfl (z0 _ _) (fi _) (by decide+kernel) (by decide);have E7:=jL (t:=O ["ties","weights","parts","taken","points","widths"] [.lst (ts.map pD),iL wl,.int 1,iL [],fp M λp=>[p],fl M λ_=>0]) (C:=C) (x:= "paid") rfl (z0 _ _) (fi _) (by decide+kernel) (by decide);have E8:=jL (t:=O ["ties","weights","parts","taken","points","widths","paid"] [.lst (ts.map pD),iL wl,.int 1,iL [],fp M λp=>[p],fl M λ_=>0,fl M λ_=>0]) (C:=C) (x:= "around") rfl (z0 _ _) (fi _) (by decide+kernel) (by decide);have E9:=jL (t:=O ["ties","weights","parts","taken","points","widths","paid","around"] [.lst (ts.map pD),iL wl,.int 1,iL [],fp M λp=>[p],fl M λ_=>0,fl M λ_=>0,fl M λ_=>0]) (C:=C) (x:= "piece_of") rfl (eo _ _) (fi _) (by decide+kernel) (by decide);show(tU C [.dp (.obj C [] []),W,V,.no,.no]).bind k9=_;have:=(aL E0).trans ((aL E1).trans ((aL E2).trans ((aL E3).trans ((aL E4).trans ((aL E5).trans ((aL E6).trans ((aL E7).trans ((aL E8).trans E9))))))));rw[show tU C [.dp (.obj C [] []),W,V,.no,.no]=_ from this];rfl
def aV(a b:Int):Int×Int:=(((a.toNat/Px a.toNat b.toNat:Nat):Int),((b.toNat/Px a.toNat b.toNat:Nat):Int))
def cJ(m:Ql Int×(Int×Int)):D:=.tup [dD m.1,pD m.2]
def eG(S:PS):Ql Int:=(av S.n).filter λp=>decide (0<S.wd p)
def mQ(S:PS):Ql (Ql Int×(Int×Int)):=VA ((eG S).map λp=>(S.pt p,aV (S.wd p) S.pa))
def MV (a0:0<=a)(b0:0<b)(h:b<(DL.Uj:Int)):iE [.int a,.int b]=Qs (.cl (pD (aV a b))):=by have:=MS a.toNat b.toNat (by lia) (by lia);rw[Pp a0,Pp (Pj b0)]at this;exact this
def Ca:∀(l:Ql Int) (f:Int->Ql Int) (g:Int->Int×Int),jB (l.map λp=>cJ (f p,g p))=Qs (l.map λp=>(f p,cJ (f p,g p)))
 |[],_,_=>rfl
 |p::l,f,g=>by have ih:=Ca l f g;rw[OF];unfold jB;rw[ih];show(dW ((f p).map D.int)).bind _=_;rw[xE];rfl
def z8:∀(l:Ql Int) (f:Int->Ql Int) (g:Int->D),l.Nodup->(∀p∈l,∀q∈l,f p=f q->p=q)->mf (l.map λp=>(f p,g p))=Qt
 |[],_,_,_,_=>rfl
 |p::l,f,g,nd,h=>by have Zz:=OO.mp nd;rw[OF];unfold mf;rw[OH];refine⟨PF.mpr λy hy=>?_,z8 l f g Zz.2 λa ha b hb=>h a (Ov _ ha) b (Ov _ hb)⟩;obtain⟨q,hq,rfl⟩:=O2.mp hy;refine Uc λz=>Zz.1 ?_;have:=h q (Ov _ hq) p (Ox ..) z;exact this▸hq
def GR(l:Ql Int)(f:Int->Ql Int)(g:Int->Int×Int):(VA (l.map λp=>(f p,cJ (f p,g p)))).map (·.2)=(VA (l.map λp=>(f p,g p))).map cJ:=by
 let L:Ql (Ql Int×(Ql Int×(Int×Int))):=l.map λp=>(f p,(f p,g p))
 have h1:=n8 (λm:Ql Int×(Int×Int)=>cJ m) L;have h2:=n8 (λm:Ql Int×(Int×Int)=>m.2) L;have e1:(L.map λw=>(w.1,cJ w.2))=l.map λp=>(f p,cJ (f p,g p)):=by show(l.map _).map _=_;rw[O9];rfl
 have e2:(L.map λw=>(w.1,w.2.2))=l.map λp=>(f p,g p):=by show(l.map _).map _=_;rw[O9];rfl
 rw[e1]at h1;rw[e2]at h2;rw[h1,h2,O9,O9];refine Pb λw hw=>?_;have:=(Yp L).mem_iff.mp hw;obtain⟨p,_,rfl⟩:=O2.mp this;rfl
def Ll{S:PS}(hO:Ok M e w nt S)(hn:S.n<64) (hB:B<=DL.Uj)(hS:Sm M S B):g8 C [oD C M ts wl S]=Qs (.dn (.lst ((mQ S).map cJ))):=by
 let O:Sl:=.val (oD C M ts wl S)
 let t0:Th:=[O,.no]
 obtain⟨q,eq,dq⟩:=wQ (f:=af 0) (t:=t0) (r:=.cl (oD C M ts wl S)) (M:=M) (ts:=ts) (wl:=wl) (S:=S) rfl rfl;have e1:(bE 2 [] (jJ (d1 (aI C "widths") aq)) (ck 2 jj) (aC (d2 qG aA aQ)) aq) t0=Qs (.nw ((eG S).map D.int)):=by
  have cc:=yY (b:=S.wd) (p:=λa=>decide (0<S.wd a)) (f:=id) (ft:=(aC (d2 qG aA aQ))) (fe:=af 0) (c:=[]) S.n 0 .no .no λi hi=>⟨o5 (t:=[.val (.int (i:Int)),.val (.int (S.wd i))]) (a:=S.wd i) (b:=0) rfl rfl,λ_=>rfl⟩;have em:jJ (d1 (aI C "widths") aq) t0=Qs (q.ok,cH 0 (((Qa 0 S.n).map λ(i:Nat)=>(S.wd (i:Int))).map D.int)):=by unfold jJ;rw[eq];simp only[Oz];rw[dq];show Qs (q.ok,cH 0 (((av S.n).map S.wd).map D.int))=_;rw[sO,O9,O9,O9];rfl
  unfold bE;rw[em];show(if(cH 0 (((Qa 0 S.n).map λ(i:Nat)=>(S.wd (i:Int))).map D.int)).length<=50000 then(bU _ _ _ (cH 0 (((Qa 0 S.n).map λ(i:Nat)=>(S.wd (i:Int))).map D.int)) [.no,.no]).bind _ else Qn)=_;rw[S9 (by rw[lJ];simp;lia)];have cc':bU (ck 2 jj) (aC (d2 qG aA aQ)) aq (cH 0 (((Qa 0 S.n).map λ(i:Nat)=>(S.wd (i:Int))).map D.int)) [.no,.no]=Qs ((eG S).map D.int):=by unfold eG;rw[sO];have:=cc;rw[T5]at this;exact this
  rw[cc'];simp only[Oz,UW,P1,if_true]
 have E1:=jf (i:=1) e1 (by simp[t0]);let t1:Th:=[O,.own ((eG S).map D.int)]
 have wr:∀p∈eG S,0<=p/\p<(S.n:Int):=λp hp=>dJ (Pf.mp hp).1;have e2:(jb 1 [0] (cV aA) bc bL (lM (gn (fH (ag dU (ae (d2 az (d1 (aI C "points") aA) aq) ai))) (gn (fH (ag (aO iE) (ae (d2 az (d1 (aI C "widths") aA) aq) (ae (d1 (aI C "parts") aA) ai)))) mO)))) t1=Qs (.dn (.lst ((eG S).map λp=>cJ (S.pt p,aV (S.wd p) S.pa)))):=by
  have key:∀p∈eG S,∃r,(lM (gn (fH (ag dU (ae (d2 az (d1 (aI C "points") aA) aq) ai))) (gn (fH (ag (aO iE) (ae (d2 az (d1 (aI C "widths") aA) aq) (ae (d1 (aI C "parts") aA) ai)))) mO))) (.val (.int p)::[O])=Qs r/\toDn r=Qs (cJ (S.pt p,aV (S.wd p) S.pa)):=λp hp=>by
   obtain⟨p0,p1⟩:=wr p hp;let t:Th:=[.val (.int p),O]
   have o1:af 1 t=Qs (.cl (oD C M ts wl S)):=rfl;obtain⟨q1,a1,b1⟩:=BQ o1 rfl;obtain⟨r1,a2,b2⟩:=zw a1 (rfl:af 0 t=Qs (.cl (.int p))) b1 rfl p0 p1;have l1:=sX (xs:=S.pt p) a2 b2;obtain⟨q3,a3,b3⟩:=wQ o1 rfl;have a4:=je a3 (rfl:af 0 t=Qs (.cl (.int p))) b3 rfl p0 p1;have a5:=BS o1 rfl;have fr:=(eJ (k:=aO iE) a4 a5).trans (kK (MV (hS.wd p p0 p1).1 hO.Wx (by have:=hS.pa;lia)) rfl);refine⟨.dn (cJ (S.pt p,aV (S.wd p) S.pa)),?_,rfl⟩;unfold lM;have n1:(fH (ag dU (ae (d2 az (d1 (aI C "points") aA) aq) ai))) t=Qs (dD (S.pt p),[]):=by unfold fH;rw[l1];show(if Ui ((S.pt p).map D.int) then Qs (D.lst ((S.pt p).map D.int)) else Qn).map _=_;rw[UW];rfl
   have n2:(fH (ag (aO iE) (ae (d2 az (d1 (aI C "widths") aA) aq) (ae (d1 (aI C "parts") aA) ai)))) t=Qs (pD (aV (S.wd p) S.pa),[]):=by unfold fH;rw[fr];rfl
   have n3:(gn (fH (ag dU (ae (d2 az (d1 (aI C "points") aA) aq) ai))) (gn (fH (ag (aO iE) (ae (d2 az (d1 (aI C "widths") aA) aq) (ae (d1 (aI C "parts") aA) ai)))) mO)) t=Qs ([dD (S.pt p),pD (aV (S.wd p) S.pa)],[]):=by unfold gn;rw[n1];simp only[Oz];rw[n2];rfl
   show((gn _ _) t).bind _=_;rw[n3];rfl
  have cc:=y7 (e:=D.int) (f:=λp=>cJ (S.pt p,aV (S.wd p) S.pa)) (ext:=[O]) (eG S) .no key;unfold jb;show(if((eG S).map D.int).length<=50000 then(fN bc bL _ ((eG S).map D.int) [.no,O]).map _ else Qn)=_;have wl':(eG S).length<=S.n:=by
   have:=Qw (λp=>decide (0<S.wd p)) (av S.n)
   rwa [fG]at this
  rw[S9 (by rw[OI];lia),cc];rfl
 have e3:(ag tw (ae (jb 1 [0] (cV aA) bc bL (lM (gn (fH (ag dU (ae (d2 az (d1 (aI C "points") aA) aq) ai))) (gn (fH (ag (aO iE) (ae (d2 az (d1 (aI C "widths") aA) aq) (ae (d1 (aI C "parts") aA) ai)))) mO)))) ai)) t1=Qs (.dn (.lst ((mQ S).map cJ))):=by
  rw[gh e2];show(jB ((eG S).map λp=>cJ (S.pt p,aV (S.wd p) S.pa))).bind _=_;rw[Ca];simp only[Oz];have un:=z8 (eG S) S.pt (λp=>cJ (S.pt p,aV (S.wd p) S.pa)) ((Ld S.n).sublist List.filter_sublist) λp hp q hq z=>hO.ZZ p q (wr p hp).1 (wr p hp).2 (wr q hq).1 (wr q hq).2 z;rw[un];have wl':(eG S).length<=S.n:=by
   have:=Qw (λp=>decide (0<S.wd p)) (av S.n)
   rwa [fG]at this
  rw[Uc (by rw[OI];lia),S9 (by rfl)];unfold mQ;show Qs (Ev.dn (.lst ((VA ((eG S).map λp=>(S.pt p,cJ (S.pt p,aV (S.wd p) S.pa)))).map (·.2))))=_;rw[GR]
 show(yj C t0).bind dg=_;exact Uj ((aL E1).trans (kc e3))
def fY(f:Int->Int):Nat->Ql Eg->Qo Nat
 |_,[]=>Qn
 |i,w::ws=>if f w.1=f w.2 then fY f (i+1) ws else Qs i
def yC{f:Int->Int}:∀{ws:Ql Eg}{i:Nat},fY f i ws=Qn↔∀w∈ws,f w.1=f w.2
 |[],i=>by simp[fY]
 |w::ws,i=>by
  unfold fY;split
  .rename_i h;rw[yC];simp[h]
  .rename_i h;simp[h]
def lW(M:Nat)(ws:Ql Eg):Prop:=∀w∈ws,(0<=w.1/\w.1<(M:Int))/\0<=w.2/\w.2<(M:Int)
def sI:Qo Nat->D
 |some i=>.int (i:Int)
 |none=>.TX
def M0(o:Qo Nat):flat (sI o)=Qt:=by cases o<;>rfl
def BK (hM:M<=1000) (hw:VX M ts) (hW:lW M ws) (hL:∀l∈L,0<=l/\l<(ts.length:Int)):iF [wD M ts,.lst (ws.map pD),iL L]=Qs (.cl (sI (fY (ll (cz ts L)) 0 ws))):=by
 let f:=ll (cz ts L)
 let W:Sl:=.val (wD M ts)
 let V:Sl:=.val (.lst (ws.map pD))
 let N:Sl:=.val (iL L)
 let t0:Th:=[W,V,N,.no,.no,.no,.no]
 have e1:(ag (aO lX) (ae aq e8)) t0=Qs (.nw (((av M).map f).map D.int)):=by rw[eJ (rfl:af 0 t0=Qs (.cl (wD M ts))) (rfl:af 2 t0=Qs (.cl (iL L)))];exact pP (G:=lX) (rs:=[.cl (wD M ts),.cl (iL L)]) (LQ hM hw hL)
 have E1:=jf (i:=3) e1 (by simp[t0]);let F:Sl:=.own (((av M).map f).map D.int)
 let bd:DS:=(bI (aC (d2 di (d2 az aP cb) (d2 az aP cK))) (eR 4) bX)
 let kk:D->Th->Qo Th:=(ck 2 (d5 hU (d5 (ck 2 nJ) iW)))
 have loop:∀(vs:Ql Eg) (i:Nat) (s4 s5 s6:Sl),lW M vs->(match fY f i vs with
   |some j=>bj kk bd (cH i (vs.map pD)) [W,V,N,F,s4,s5,s6]=Qs (.rt (.cl (.int (j:Int))))
   |none=>∃u4 u5 u6,bj kk bd (cH i (vs.map pD)) [W,V,N,F,s4,s5,s6]=Qs (.nx [W,V,N,F,u4,u5,u6])):=by
  intro vs
  induction vs with
  |nil=>exact λi s4 s5 s6 _=>⟨s4,s5,s6,rfl⟩
  |cons w vs ih=>
   intro i s4 s5 s6 h;obtain⟨⟨a0,a1⟩,b0,b1⟩:=h w (Ox ..);let t:Th:=[W,V,N,F,.val (.int (i:Int)),.val (.int w.1),.val (.int w.2)]
   have q1:=je (fa:=af 3) (fb:=af 5) (t:=t) (r1:=.tm (fl M f)) (r2:=.cl (.int w.1)) (n:=M) (f:=f) rfl rfl rfl rfl a0 a1;have q2:=je (fa:=af 3) (fb:=af 6) (t:=t) (r1:=.tm (fl M f)) (r2:=.cl (.int w.2)) (n:=M) (f:=f) rfl rfl rfl rfl b0 b1;have c:=wZ q1 q2;unfold fY;by_cases z:f w.1=f w.2
   .rw[S9 z];have tn:bd t=Qs (.nx t):=fL (g:=eR 4) c (by rw[Uc z];rfl);have:=ih (i+1) (.val (.int (i:Int))) (.val (.int w.1)) (.val (.int w.2)) λx hx=>h x (Ov _ hx);have st:=iX (k:=kk) (ds:=cH (i+1) (vs.map pD)) (d:=.tup [.int (i:Int),pD w]) (t:=[W,V,N,F,s4,s5,s6]) (t1:=t) rfl tn;cases y:fY f (i+1) vs with
    |some j=>rw[y]at this;exact st.trans this
    |none=>rw[y]at this;obtain⟨u4,u5,u6,e⟩:=this;exact⟨u4,u5,u6,st.trans e⟩
   .rw[Tr z];have tn:bd t=Qs (.rt (.cl (.int (i:Int)))):=(iU c (by rw[UJ z];rfl)).trans rfl;exact D0 (k:=kk) (ds:=cH (i+1) (vs.map pD)) (d:=.tup [.int (i:Int),pD w]) (t:=[W,V,N,F,s4,s5,s6]) (t1:=t) rfl tn
 have lp:=loop ws 0 .no .no .no hW;have eg:iF [wD M ts,.lst (ws.map pD),iL L]=(aF (aN 3 (ag (aO lX) (ae aq e8))) (aF (m6 kk aA bd) j0) t0).bind dg:=rfl;rw[eg];have ee:m6 kk aA bd [W,V,N,F,.no,.no,.no]=bj kk bd (cH 0 (ws.map pD)) [W,V,N,F,.no,.no,.no]:=rfl;have ef:ll (cz ts L)=f:=rfl;rw[ef];cases z:fY f 0 ws with
 |some j=>rw[z]at lp;exact Uj ((aL E1).trans (uY (ee.trans lp)))
 |none=>rw[z]at lp;obtain⟨u4,u5,u6,e⟩:=lp;exact Uj ((aL E1).trans ((aL (ee.trans e)).trans rfl))
def dT(G:Ql Int):D:=.Uk (G.map kN) (G.map iI)
def Ad:∀G:Ql Int,jm (G.map kN) (G.map iI)=Qs G
 |[]=>rfl
 |k::G=>by show(jm (G.map kN) (G.map iI)).map (k::·)=_;rw[Ad G];rfl
def G0:∀G:Ql Int,(G.map iI).all aM=Qt:=λG=>PF.mpr λd hd=>by obtain⟨_,_,rfl⟩:=O2.mp hd;rfl
def Ei{fk:DE}(h:t[i]?=Qs (.dp (dT G)))(hk:fk t=Qs (.cl (.int x)))(hl:G.length<100000):ja i fk l9 t=Qs (.nx (t.set i (.dp (dT (gk G x))))):=by
 have e0:ja i fk l9 t=jE t i (.cl (.bl Qt)) (.cl (.int x)):=by unfold ja;rw[hk];rfl
 rw[e0];unfold jE;rw[h];have ek:kh (Ev.cl (D.int x)).d=Qs (kN x):=rfl;rw[ek];unfold dT;dsimp only;rw[S9 (by
  have a:aM (Ev.cl (D.bl Qt)).d=Qt:=rfl;rw[G0,a,OI,Uc hl];rfl)]
 have b:(Ev.cl (D.bl Qt)).d=.bl Qt:=rfl;rw[b,Ip]
def vW(G:Ql Int)(x:Int):(gk G x).length<=G.length+1:=by unfold gk;split<;>simp
def zZ{S:PS}(hW:lW M ws)(hl:ws.length<=1000){r:Ev}:jX C [oD C M ts wl S,.lst (ws.map pD)]=Qs (.dn (dT (aR S ws))):=by
 let O:Sl:=.val (oD C M ts wl S)
 let V:Sl:=.val (.lst (ws.map pD))
 let T (G:Ql Int) (s3 s4 s5 s6:Sl):Th:=[O,V,.dp (dT G),s3,s4,s5,s6]
 let kk:D->Th->Qo Th:=(ck 2 l6)
 let bd:DS:=(aF (i7 5 6 (ae (d2 az (d1 (aI C "piece_of") aq) aP) (ae (d2 az (d1 (aI C "piece_of") aq) bF) ai))) (bI (aC (d2 di cb cK)) (m7 (gu 2 cb) (gu 2 cK) l9) bX))
 have turn:∀(G:Ql Int) (w:Eg) (s5 s6:Sl),G.length<90000->(0<=w.1/\w.1<(M:Int))->(0<=w.2/\w.2<(M:Int))->∃u5 u6,bd (T G (.val (.int w.1)) (.val (.int w.2)) s5 s6)=Qs (.nx (T (gf S G w) (.val (.int w.1)) (.val (.int w.2)) u5 u6)):=λG w s5 s6 hG ha hb=>by
  let t:=T G (.val (.int w.1)) (.val (.int w.2)) s5 s6
  obtain⟨q,eq,dq⟩:=BR (f:=af 0) (t:=t) (r:=.cl (oD C M ts wl S)) (M:=M) (ts:=ts) (wl:=wl) (S:=S) rfl rfl;have k1:=je eq (rfl:af 3 t=Qs (.cl (.int w.1))) dq rfl ha.1 ha.2;have k2:=je eq (rfl:af 4 t=Qs (.cl (.int w.2))) dq rfl hb.1 hb.2;let t2:=T G (.val (.int w.1)) (.val (.int w.2)) (.val (.int (S.po w.1))) (.val (.int (S.po w.2)))
  have E1:(i7 5 6 (ae (d2 az (d1 (aI C "piece_of") aq) aP) (ae (d2 az (d1 (aI C "piece_of") aq) bF) ai))) t=Qs (.nx t2):=by unfold i7;rw[ud k1 (ud k2 rfl)];rfl
  have c:=wZ (fa:=af 5) (fb:=af 6) (t:=t2) (a:=S.po w.1) (b:=S.po w.2) rfl rfl;refine⟨.val (.int (S.po w.1)),.val (.int (S.po w.2)),?_⟩;unfold gf;by_cases z:S.po w.1=S.po w.2
  .rw[S9 z];exact(aL E1).trans (fL c (by rw[Uc z];rfl))
  .rw[Tr z];have p1:=Ei (t:=t2) (i:=2) (fk:=af 5) (G:=G) (x:=S.po w.1) rfl rfl (by lia);let t3:=T (gk G (S.po w.1)) (.val (.int w.1)) (.val (.int w.2)) (.val (.int (S.po w.1))) (.val (.int (S.po w.2)))
   have ln:=vW G (S.po w.1);have p2:=Ei (t:=t3) (i:=2) (fk:=af 6) (G:=gk G (S.po w.1)) (x:=S.po w.2) rfl rfl (by lia);have E2:m7 (gu 2 cb) (gu 2 cK) l9 t2=Qs (.nx (T (g7 (g7 G (S.po w.1)) (S.po w.2)) (.val (.int w.1)) (.val (.int w.2)) (.val (.int (S.po w.1))) (.val (.int (S.po w.2))))):=by
    unfold m7;show(if aM (D.bl Qt) then(gu 2 cb (.bl Qt) t2).bind _ else Qn)=_;rw[S9 (by rfl)];have h1:gu 2 cb (.bl Qt) t2=Qs t3:=by unfold gu;rw[p1];rfl
    have h2:gu 2 cK (.bl Qt) t3=Qs (T (gk (gk G (S.po w.1)) (S.po w.2)) (.val (.int w.1)) (.val (.int w.2)) (.val (.int (S.po w.1))) (.val (.int (S.po w.2)))):=by unfold gu;rw[p2];rfl
    rw[h1];show Option.map Out.nx (gu 2 cK (D.bl Qt) t3)=_;rw[h2];rfl
   exact(aL E1).trans ((iU c (by rw[UJ z];rfl)).trans E2)
 have loop:∀(vs:Ql Eg) (G:Ql Int) (s3 s4 s5 s6:Sl),G.length+2*vs.length<80000->lW M vs->∃u3 u4 u5 u6,bj kk bd (vs.map pD) (T G s3 s4 s5 s6)=Qs (.nx (T (vs.foldl (gf S) G) u3 u4 u5 u6)):=by
  intro vs
  induction vs with
  |nil=>exact λG s3 s4 s5 s6 _ _=>⟨s3,s4,s5,s6,rfl⟩
  |cons w vs ih=>
   intro G s3 s4 s5 s6 hG h;have VI:=h w (Ox ..);simp only[OX]at hG;obtain⟨u5,u6,e⟩:=turn G w s5 s6 (by lia) VI.1 VI.2;have gl:(gf S G w).length<=G.length+2:=by
    unfold gf;split
    .lia
    .have a:(g7 G (S.po w.1)).length<=G.length+1:=vW G _;have b:(g7 (g7 G (S.po w.1)) (S.po w.2)).length<=(g7 G (S.po w.1)).length+1:=vW _ _;lia
   obtain⟨a,b,c,d,e2⟩:=ih (gf S G w) (.val (.int w.1)) (.val (.int w.2)) u5 u6 (by lia) λx hx=>h x (Ov _ hx);exact⟨a,b,c,d,(iX (k:=kk) (d:=pD w) (t1:=T G (.val (.int w.1)) (.val (.int w.2)) s5 s6) rfl e).trans e2⟩
 obtain⟨a,b,c,d,e⟩:=loop ws [] .no .no .no .no (by simp;lia) hW;have E0:aN 2 ua [O,V,.no,.no,.no,.no,.no]=Qs (.nx (T [] .no .no .no .no)):=rfl;have E1:d8 kk aA bd (T [] .no .no .no .no)=Qs (.nx (T (aR S ws) a b c d)):=(DX (r:=.cl (.lst (ws.map pD))) rfl rfl rfl).trans e;show(aF (aN 2 ua) (aF (d8 kk aA bd) (eR 2)) [O,V,.no,.no,.no,.no,.no]).bind dg=_;exact Uj ((aL E0).trans ((aL E1).trans rfl))
def fE(e:Int->Eg)(ws:Ql Eg)(L:Ql Int):Bool:=(ws.all λw=>decide (ll (L.map e) w.1=ll (L.map e) w.2))
def fF(e:Int->Eg)(ws:Ql Eg)(K:Ql Int)(a:Int):Ql Int:=if fE e ws (K.filter λx=>!decide (x=a)) then K.filter λx=>!decide (x=a) else K
def wX(e:Int->Eg)(ws:Ql Eg)(tk:Ql Int):Ql Int:=U6 (tk.reverse.foldl (fF e ws) tk)
def BZ{e:Int->Eg}{ws:Ql Eg}:∀{as K:Ql Int}{x:Int},x∈as.foldl (fF e ws) K->x∈K
 |[],K,x,h=>h
 |a::as,K,x,h=>by
  have:=BZ (as:=as) h;unfold fF at this;split at this
  .exact(Pf.mp this).1
  .exact this
def wW{e:Int->Eg}{ws:Ql Eg}:∀{as K:Ql Int},(as.foldl (fF e ws) K).length<=K.length
 |[],K=>OL _
 |a::as,K=>by
  refine Pr (wW (as:=as)) ?_;unfold fF;split
  .exact Qw ..
  .exact OL _
def zcB:fE e ws L=Qt↔fY (ll (L.map e)) 0 ws=Qn:=by rw[yC];unfold fE;rw[PF];exact⟨λh w hw=>of_decide_eq_true (h w hw),λh w hw=>Uc (h w hw)⟩
def La (hM:M<=1000) (hw:VX M ts) (hW:lW M ws){tk:Ql Int}(ht:∀l∈tk,0<=l/\l<(ts.length:Int))(hk:tk.length<64){r:Ev}:iD [wD M ts,.lst (ws.map pD),iL tk]=Qs (.nw ((wX (ao ts) ws tk).map D.int)):=by
 let W:Sl:=.val (wD M ts)
 let V:Sl:=.val (.lst (ws.map pD))
 let N:Sl:=.val (iL tk)
 let bd:DS:=(aF (aN 5 (bE 1 [4] (cV aP) bc (aC (d2 di aq aA)) aq)) (bI (aC (d2 iT (ag (aO iF) (ae aq (ae aA fP))) hX)) (pH 5 (aN 3 cb)) bX))
 have turn:∀(K:Ql Int) (a:Int) (k3 s5:Sl),(k3=.own (K.map D.int)\/k3=.val (iL K))->K.length<=1000->(∀l∈K,0<=l/\l<(ts.length:Int))->∃WO u5,(WO=.own ((fF (ao ts) ws K a).map D.int)\/WO=.val (iL (fF (ao ts) ws K a)))/\bd [W,V,N,k3,.val (.int a),s5]=Qs (.nx [W,V,N,WO,.val (.int a),u5]):=λK a k3 s5 h3 hK hr=>by
  let t:Th:=[W,V,N,k3,.val (.int a),s5]
  let K2:=K.filter λx=>!decide (x=a)
  obtain⟨r3,e3,d3⟩:∃r,af 3 t=Qs r/\r.d=iL K:=by
   rcases h3 with z|z<;>subst z
   .exact⟨_,rfl,rfl⟩
   .exact⟨_,rfl,rfl⟩
  have c1:=Nk (e:=D.int) (g:=D.int) (p:=λx=>!decide (x=a)) (ft:=aC (d2 di aq aA)) (fe:=af 0) (cap:=[4]) (t:=t) (b:=Qt) (c:=[.int a]) (xs:=K) e3 d3 rfl (by lia) (λx _=>wZ (fa:=af 0) (fb:=af 1) (t:=[.val (.int x),.val (.int a)]) rfl rfl) (λx _ _=>⟨.cl (.int x),rfl,rfl⟩) (.inl (UW _));have E1:=jf (i:=5) c1 (by simp[t]);let t1:Th:=[W,V,N,k3,.val (.int a),.own (K2.map D.int)]
  have rK2:∀l∈K2,0<=l/\l<(ts.length:Int):=λl hl=>hr l (Pf.mp hl).1;have pc:(ag (aO iF) (ae aq (ae aA fP))) t1=Qs (.cl (sI (fY (ll (cz ts K2)) 0 ws))):=by rw[jo (rfl:af 0 t1=Qs (.cl (wD M ts))) (rfl:af 1 t1=Qs (.cl (.lst (ws.map pD)))) (rfl:af 5 t1=Qs (.tm (iL K2)))];exact kK (BK hM hw hW rK2) (M0 _)
  have cc:aC (d2 iT (ag (aO iF) (ae aq (ae aA fP))) hX) t1=Qs (fE (ao ts) ws K2):=by
   unfold aC;rw[cP pc (rfl:dC .TX t1=Qs (.cl .TX))];show Qs (oX (sI (fY (ll (cz ts K2)) 0 ws)))=_;cases z:fY (ll (cz ts K2)) 0 ws with
   |none=>rw[zcB.mpr z];rfl
   |some j=>
    have:fE (ao ts) ws K2=Qf:=Rh.mpr λk=>by have k2:fY (ll (cz ts K2)) 0 ws=Qn:=zcB.mp k;rw[z]at k2;cases k2
    rw[this];rfl
  unfold fF;cases z:fE (ao ts) ws K2 with
  |true=>rw[z]at cc;have z':fE (ao ts) ws (K.filter λx=>!decide (x=a))=Qt:=z;rw[S9 rfl];refine⟨.val (iL K2),.val (iL K2),.inr rfl,(aL E1).trans ((iU cc rfl).trans ?_)⟩;rcases h3 with y|y<;>subst y<;>rfl
  |false=>
   rw[z]at cc;have z':¬fE (ao ts) ws (K.filter λx=>!decide (x=a))=Qt:=by show ¬fE (ao ts) ws K2=Qt;rw[z];decide
   rw[Tr (by decide)];exact⟨k3,.own (K2.map D.int),h3,(aL E1).trans (fL cc rfl)⟩
 have loop:∀(as K:Ql Int) (k3 s4 s5:Sl),(k3=.own (K.map D.int)\/k3=.val (iL K))->K.length<=1000->(∀l∈K,0<=l/\l<(ts.length:Int))->∃WO u4 u5,(WO=.own ((as.foldl (fF (ao ts) ws) K).map D.int)\/WO=.val (iL (as.foldl (fF (ao ts) ws) K)))/\bj hU bd (as.map D.int) [W,V,N,k3,s4,s5]=Qs (.nx [W,V,N,WO,u4,u5]):=by
  intro as
  induction as with
  |nil=>exact λK k3 s4 s5 h3 _ _=>⟨k3,s4,s5,h3,rfl⟩
  |cons a as ih=>intro K k3 s4 s5 h3 hK hr;obtain⟨WO,u5,h3',e⟩:=turn K a k3 s5 h3 hK hr;have sub:∀x∈fF (ao ts) ws K a,x∈K:=λx hx=>BZ (as:=[a]) hx;have ln:(fF (ao ts) ws K a).length<=K.length:=wW (as:=[a]) (K:=K);obtain⟨zfe,u4,u5',zgA,e2⟩:=ih (fF (ao ts) ws K a) WO (.val (.int a)) u5 h3' (by lia) λl hl=>hr l (sub l hl);exact⟨zfe,u4,u5',zgA,(iX (k:=cC 4) (d:=.int a) (t1:=[W,V,N,k3,.val (.int a),s5]) rfl e).trans e2⟩
 have E0:=jf (i:=3) (sX (f:=af 2) (t:=[W,V,N,.no,.no,.no]) (r:=.cl (iL tk)) (xs:=tk) rfl rfl) (by simp);obtain⟨WO,u4,u5,h3,e⟩:=loop tk.reverse tk (.own (tk.map D.int)) .no .no (.inl rfl) (by lia) ht;have er:(d1 lB aU) [W,V,N,.own (tk.map D.int),.no,.no]=Qs (.nw (tk.reverse.map D.int)):=by show(if(Ev.cl (iL tk)).ok||Ui (tk.map D.int) then Qs (Ev.nw (tk.map D.int).reverse) else Qn)=_;rw[UW,P1,S9 (by rfl),List.map_reverse]
 have E1:d8 hU (d1 lB aU) bd [W,V,N,.own (tk.map D.int),.no,.no]=Qs (.nx [W,V,N,WO,u4,u5]):=(DX er rfl rfl).trans e;have ln:=wW (e:=ao ts) (ws:=ws) (as:=tk.reverse) (K:=tk);have e2:(ag iS fQ) [W,V,N,WO,u4,u5]=Qs (.nw ((wX (ao ts) ws tk).map D.int)):=by
  rcases h3 with z|z<;>subst z
  .exact rD (r:=.tm (iL (tk.reverse.foldl (fF (ao ts) ws) tk))) rfl rfl (by lia)
  .exact rD (r:=.cl (iL (tk.reverse.foldl (fF (ao ts) ws) tk))) rfl rfl (by lia)
 show(aF _ (aF (d8 hU (d1 lB aU) bd) (cO (ag iS fQ))) [W,V,N,.no,.no,.no]).bind dg=_;exact Uj ((aL E0).trans ((aL E1).trans (kc e2)))
def pe(o:Qo Int):Nat:=match o with
 |none=>1
 |some _=>0
def ms(M:Nat)(e:Int->Eg)(w:Int->Int)(nt:Nat)(ws:Ql Eg)(S:PS):Nat:=2*mu M S+pe (d7 S e w (aK (aR S ws)) nt)
structure Run(M:Nat)(e:Int->Eg)(w:Int->Int)(nt:Nat)(ws:List Eg)(S:PS):Prop where
 ok:Ok M e w nt S
 Vs:S.tk.length+mu M S<=mu M (PS.new M)
def Fw(S:PS)(e:Int->Eg)(w:Int->Int)(g:Int->Bool)(nt:Nat)(ws:Ql Eg):aR (Wl S e w g nt) ws=aR S ws:=rfl
def Run.step{S:PS}(h:Run M e w nt ws S)(hE:dz M e nt)(hw:∀w∈ws,Eqv (gz e nt) w.1 w.2)(hn:aR S ws≠[]):Run M e w nt ws (cQ e w nt ws S)/\ms M e w nt ws (cQ e w nt ws S)<ms M e w nt ws S:=by
 have hb:=tZ h.ok hE hw hn;cases hf:d7 S e w (aK (aR S ws)) nt with
 |none=>
  have es:cQ e w nt ws S=Wl S e w (aK (aR S ws)) nt:=by unfold cQ;rw[hf];rfl
  rw[es];refine⟨⟨h.ok.Wl,h.Vs⟩,?_⟩;unfold ms;rw[Fw,hf];have e1:mu M (Wl S e w (aK (aR S ws)) nt)=mu M S:=rfl;rw[e1];cases z:d7 (Wl S e w (aK (aR S ws)) nt) e w (aK (aR S ws)) nt with
  |none=>exact absurd z (MQ hb)
  |some a=>show 2*mu M S+0<2*mu M S+1;lia
 |some a=>
  have es:cQ e w nt ws S=Uo S e a:=by unfold cQ;rw[hf]
  rw[es];obtain⟨⟨a0,a1⟩,b,_⟩:=o8 hf;have ne:=uk b;have m:=Lg h.ok hE a0 a1 ne;refine⟨⟨h.ok.Uo hE a0 a1 ne,?_⟩,?_⟩
  .show(S.tk++[a]).length+mu M (Uo S e a)<=_;rw[O8,Qd];have:=h.Vs;lia
  .unfold ms;rw[hf];have:pe (d7 (Uo S e a) e w (aK (aR (Uo S e a) ws)) nt)<=1:=by unfold pe;split<;>lia
   show _<2*mu M S+0;lia
def oe{M:Nat}{e:Int->Eg}{w:Int->Int}{nt:Nat}{ws:Ql Eg}(hE:dz M e nt)(hw:∀w∈ws,Eqv (gz e nt) w.1 w.2):∀(n:Nat) (S:PS),Run M e w nt ws S->ms M e w nt ws S<n->aR (eL e w nt ws n S) ws=[]/\Run M e w nt ws (eL e w nt ws n S)
 |0,S,_,h=>by lia
 |n+1,S,r,h=>by
  unfold eL;by_cases z:aR S ws=[]
  .rw[S9 z];exact⟨z,r⟩
  .rw[Tr z];obtain⟨r2,m2⟩:=r.step hE hw z;exact oe hE hw n _ r2 (by lia)
def sR (hM:M<=9):ms M e w nt ws (PS.new M)<=73/\mu M (PS.new M)<=36:=by
 have h1:mu M (PS.new M)<=36:=Pr (Qw _ _) (IZ M hM);have:pe (d7 (PS.new M) e w (aK (aR (PS.new M) ws)) nt)<=1:=by unfold pe;split<;>lia
 unfold ms;lia
def Run.new{M:Nat}{e:Int->Eg}{w:Int->Int}{nt:Nat}{ws:Ql Eg}(hw:∀a,0<=a->a<(nt:Int)->0<=w a):Run M e w nt ws (PS.new M):=⟨Ok.new hw,by show 0+_<=_;lia⟩
structure Bd(M:Nat)(W k:Nat)(S:PS):Prop where
 pa:0<S.pa/\S.pa<=(2^k:Nat)
 wd:∀p,0<=p->p<(S.n:Int)->0<=S.wd p/\S.wd p<=(8^k*W:Nat)
 pd:∀p,0<=p->p<(S.n:Int)->0<=S.pd p/\S.pd p<=(8^k*W:Nat)
 ar:∀v,0<=v->v<(M:Int)->0<=S.ar v/\S.ar v<=(8^k*W:Nat)
def Bd.new{M W:Nat}:Bd M W 0 (PS.new M) where
 pa:=⟨by show(0:Int)<1;decide,by show(1:Int)<=(1:Nat);decide⟩
 wd:=λp _ _=>⟨Pz _,by show(0:Int)<=_;lia⟩
 pd:=λp _ _=>⟨Pz _,by show(0:Int)<=_;lia⟩
 ar:=λp _ _=>⟨Pz _,by show(0:Int)<=_;lia⟩
def sv(k W:Nat):8^(k+1)*W=8*(8^k*W):=by rw[U3,SF (8^k) 8,UE]
def Bd.Ur{M W k:Nat}{S:PS}(h:Bd M W k S):(0<(Ur S).pa/\(Ur S).pa<=(2^(k+1):Nat))/\(∀p,0<=p->p<(S.n:Int)->0<=(Ur S).wd p/\(Ur S).wd p<=2*(8^k*W:Nat))/\(∀p,0<=p->p<(S.n:Int)->0<=(Ur S).pd p/\(Ur S).pd p<=2*(8^k*W:Nat))/\(∀v,0<=v->v<(M:Int)->0<=(Ur S).ar v/\(Ur S).ar v<=2*(8^k*W:Nat)):=by
 refine⟨⟨?_,?_⟩,λp p0 p1=>?_,λp p0 p1=>?_,λp p0 p1=>?_⟩
 .show 0<S.pa*2;have:=h.pa;lia
 .show S.pa*2<=((2^(k+1):Nat):Int);have:=h.pa;have e:2^(k+1)=2*2^k:=by rw[U3,SF]
  rw[e];lia
 .show 0<=2*S.wd p/\2*S.wd p<=_;have:=h.wd p p0 p1;lia
 .show 0<=2*S.pd p/\2*S.pd p<=_;have:=h.pd p p0 p1;lia
 .show 0<=2*S.ar p/\2*S.ar p<=_;have:=h.ar p p0 p1;lia
def GN{k:Nat}{S:PS}(hb:Bd M W k S)(hE:dz M e nt)(hw:∀a,0<=a->a<(nt:Int)->0<=w a/\w a<=(W:Int)) (Ya:∃a,(0<=a/\a<(nt:Int))/\0<bw S e g a)(hf:d7 S e w g nt=Qn):0<fA S e w g nt/\fA S e w g nt<=2*(8^k*W:Nat):=by
 have p:=As Ya hf;obtain⟨a,ra,b⟩:=Ya;have le:=Au (S:=S) (e:=e) (w:=w) (g:=g) ra.1 ra.2 b;have bb:=nj S e g a;obtain⟨⟨x0,x1⟩,y0,y1⟩:=hE a ra.1 ra.2;have ax:=hb.ar _ x0 x1;have ay:=hb.ar _ y0 y1;have hwa:=hw a ra.1 ra.2;have m1:w a*S.pa<=(W:Int)*(2^k:Nat):=QO (Ri hwa.2 (Pj hb.pa.1)) (Ro hb.pa.2 (by lia));have m2:(W:Int)*(2^k:Nat)<=(8^k*W:Nat):=by
  have:2^k<=8^k:=S0 (by decide) k;have:=Rx W this;rw[SQ];have e:((2^k:Nat):Int)*(W:Int)=((2^k*W:Nat):Int):=by push_cast;rfl
  rw[e];lia
 have l:UM S e w a<=(8^k*W:Nat):=by unfold UM;lia
 refine⟨p,?_⟩;have:fA S e w g nt<=bw S e g a*fA S e w g nt:=by have:=Ri (show 1<=bw S e g a by lia) (Pj p);lia
 lia
def Bd.step{k:Nat}{S:PS}(hb:Bd M W k S)(hr:Run M e w nt ws S)(hE:dz M e nt)(hw:∀a,0<=a->a<(nt:Int)->0<=w a/\w a<=(W:Int))(hq:∀w∈ws,Eqv (gz e nt) w.1 w.2)(hn:aR S ws≠[]):Bd M W (k+1) (cQ e w nt ws S):=by
 have hx:=tZ hr.ok hE hq hn;have mono:(8^k*W:Nat)<=8^(k+1)*W:=by rw[sv];lia
 cases hf:d7 S e w (aK (aR S ws)) nt with
 |none=>
  have es:cQ e w nt ws S=Wl S e w (aK (aR S ws)) nt:=by unfold cQ;rw[hf];rfl
  rw[es];have st:=GN hb hE hw hx hf;obtain⟨hp,ZG,ZL,ZR⟩:=hb.Ur;have one:∀(x:Int) (b:Bool),0<=x/\x<=2*(8^k*W:Nat)->0<=x+(if b then fA S e w (aK (aR S ws)) nt else 0)/\x+(if b then fA S e w (aK (aR S ws)) nt else 0)<=(8^(k+1)*W:Nat):=λx b h=>by
   rw[sv];generalize 8^k*W=N at h st ⊢;obtain⟨h1,h2⟩:=h;obtain⟨s1,s2⟩:=st;generalize fA S e w (aK (aR S ws)) nt=y at s1 s2 ⊢;cases b
   .rw[Tr (by decide)];lia
   .rw[S9 rfl];lia
  exact⟨hp,λp p0 p1=>one _ _ (ZG p p0 p1),λp p0 p1=>one _ _ (ZL p p0 p1),λv v0 v1=>one _ _ (ZR v v0 v1)⟩
 |some a=>
  have es:cQ e w nt ws S=Uo S e a:=by unfold cQ;rw[hf]
  rw[es];obtain⟨⟨a0,a1⟩,b,_⟩:=o8 hf;obtain⟨⟨x0,x1⟩,y0,y1⟩:=hE a a0 a1;have px:=hr.ok.VT _ x0 x1;have py:=hr.ok.VT _ y0 y1;refine⟨⟨hb.pa.1,?_⟩,λp p0 p1=>?_,λp p0 p1=>?_,λv v0 v1=>?_⟩
  .have:2^k<=2^(k+1):=P5 (by decide) (by lia);have:=hb.pa.2;show S.pa<=_;lia
  .have p1:p<((S.n+1:Nat):Int):=p1;show 0<=(if p=(S.n:Int) then 0 else S.wd p)/\(if p=(S.n:Int) then 0 else S.wd p)<=_;by_cases z:p=(S.n:Int)
   .rw[S9 z];lia
   .rw[Tr z];have:=hb.wd p p0 (by lia);lia
  .have p1:p<((S.n+1:Nat):Int):=p1;show 0<=(if p=(S.n:Int) then S.pd (S.po (e a).1)+S.pd (S.po (e a).2) else S.pd p)/\(if p=(S.n:Int) then S.pd (S.po (e a).1)+S.pd (S.po (e a).2) else S.pd p)<=_;by_cases z:p=(S.n:Int)
   .rw[S9 z];have h1:=hb.pd _ px.1 px.2;have h2:=hb.pd _ py.1 py.2;rw[sv];lia
   .rw[Tr z];have:=hb.pd p p0 (by lia);lia
  .have:=hb.ar v v0 v1;show 0<=S.ar v/\S.ar v<=_;lia
def NW:8^210*10^30<DL.Uj:=by decide+kernel
def ER{k:Nat}(hk:k<=210)(hW:W<=10^30):8^k*W<DL.Uj/\2^k<DL.Uj:=by have h1:8^k<=8^210:=P5 (by decide) hk;have h2:2^k<=8^k:=S0 (by decide) k;have h3:8^k*W<=8^210*10^30:=SY h1 hW;have h4:8^210<=8^210*10^30:=Nat.le_mul_of_pos_right _ (by decide);have:=NW;exact⟨Pa h3 this,Pa (Pr h2 (Pr h1 h4)) this⟩
def Bd.up{S:PS}(h:Bd M W i S)(Y9:i<=j):Bd M W j S:=by
 have p1:2^i<=2^j:=P5 (by decide) Y9;have p2:8^i*W<=8^j*W:=Rx _ (P5 (by decide) Y9);obtain⟨a,b,c,d⟩:=h;generalize 8^i*W=x at p2 b c d;generalize he:8^j*W=y at p2;refine⟨⟨a.1,by have:=a.2;lia⟩,λp p0 p1=>?_,λp p0 p1=>?_,λp p0 p1=>?_⟩
 .have:=b p p0 p1;rw[he];lia
 .have:=c p p0 p1;rw[he];lia
 .have:=d p p0 p1;rw[he];lia
def Bd.sm{k:Nat}{S:PS}(h:Bd M W k S)(hk:k<=200)(hW:W<=10^30):Sm M S DL.Uj/\Sm M (KX.Ur S) DL.Uj:=by
 have b1:=ER (k:=k) (W:=W) (by lia) hW;have b2:=ER (k:=k+1) (W:=W) (by lia) hW;rw[sv]at b2;obtain⟨hp,ZG,ZL,ZR⟩:=h.Ur;have q:=h.pa;generalize 8^k*W=N at b1 b2 ZG ZL ZR;refine⟨⟨by lia,λp p0 p1=>?_,λp p0 p1=>?_,λp p0 p1=>?_⟩,⟨by lia,λp p0 p1=>?_,λp p0 p1=>?_,λp p0 p1=>?_⟩⟩
 .have:=ZG p p0 p1;have e:(KX.Ur S).wd p=2*S.wd p:=rfl;rw[e]at this;lia
 .have:=ZL p p0 p1;have e:(KX.Ur S).pd p=2*S.pd p:=rfl;rw[e]at this;lia
 .have:=ZR p p0 p1;have e:(KX.Ur S).ar p=2*S.ar p:=rfl;rw[e]at this;lia
 .have:=ZG p p0 p1;lia
 .have:=ZL p p0 p1;lia
 .have:=ZR p p0 p1;lia
def Lh{S:PS}{m:Str}{G:Ql D->Qo Ev}{ga:DA}(h:f t=Qs r)(hr:r.d=oD C M ts wl S)(hm:aX m U2=Qn)(hg:ga t=Qs rs)(hG:G (oD C M ts wl S::rs.map Ev.d)=Qs (.nw (xs.map D.int))):bY C m G f ga t=Qs (.nw (xs.map D.int)):=by unfold bY;rw[h];simp only[Oz];rw[hr];unfold oD;simp only[hm,and_self,if_true];rw[hg];simp only[Oz];refine pP ?_;rw[OF,hr];exact hG
def Li{S:PS}{m:Str}{G:Ql D->Qo Ev}{ga:DA}{d:D}(h:f t=Qs r)(hr:r.d=oD C M ts wl S)(hm:aX m U2=Qn)(hg:ga t=Qs rs)(hG:G (oD C M ts wl S::rs.map Ev.d)=Qs (.dn d)):bY C m G f ga t=Qs (.dn d):=by unfold bY;rw[h];simp only[Oz];rw[hr];unfold oD;simp only[hm,and_self,if_true];rw[hg];simp only[Oz];unfold aO;rw[OF,hr];rw[show G (oD C M ts wl S::rs.map Ev.d)=_ from hG];show Qs (gL ((r::rs).all Ev.ok) (.dn d))=_;unfold gL;split<;>rfl
def w6{S S':PS}{m:Str}{G:Ql D->Qo D}{ga:DA}(h:t[i]?=Qs (.dp (oD C M ts wl S)))(hm:aX m U2=Qn)(hg:ga t=Qs rs)(hf:Ui (rs.map Ev.d)=Qt)(hG:G (oD C M ts wl S::rs.map Ev.d)=Qs (oD C M ts wl S')):iy i C m G ga t=Qs (.nx (t.set i (.dp (oD C M ts wl S')))):=by unfold iy;rw[hg];show lD t i C m G rs=_;unfold lD;rw[h];unfold oD;simp only[hm,hf,and_self,if_true];have:G (.obj C U2 [.lst (ts.map pD),iL wl,.int S.pa,iL S.tk,fp S.n S.pt,fl S.n S.wd,fl S.n S.pd,fl M S.ar,fl M S.po]::rs.map Ev.d)=_:=hG;rw[this];rfl
def o6(G:Ql Int)(s:Sl):Prop:=s=.dp (dT G)\/s=.val (.T4 G)
def FV{s:Sl}(h:t[5]?=Qs s)(hs:o6 G s):lL (af 5) t=Qs (!G.isEmpty):=by
 unfold lL af;rw[h];rcases hs with z|z<;>subst z
 .show Qs (!(G.map kN).isEmpty)=_;cases G<;>rfl
 .rfl
def DU{g:DS}{s:Sl}(h:t[5]?=Qs s)(hs:o6 G s):lQ 5 g t=g (t.set 5 (.val (.T4 G))):=by
 unfold lQ;rw[h];rcases hs with z|z<;>subst z
 .show pG 5 g t=_;unfold pG;rw[h];show(jm (G.map kN) (G.map iI)).bind _=_;rw[Ad];rfl
 .show g t=_;congr 1;apply Rg;intro i;rw[To];by_cases e:5=i
  .subst e;have:5<t.length:=(O6.mp h).1;rw[S9 rfl,S9 this,h]
  .rw[Tr e]
def jg (hw:VX M ts):dz M (ao ts) ts.length:=λa a0 a1=>by have:=hw.lt _ (mh a0 a1);lia
def zW (hl:wl.length=n) (a0:0<=a)(a1:a<(n:Int)):aJ wl a∈wl:=by unfold aJ;rw[ON,OE (by lia)];exact Qm _
structure V5(M:Nat)(ts:List (Int×Int))(wl:List Int)(ws:List Eg):Prop where
 WJ:VX M ts
 Vs:M<=9/\ts.length<=1000/\ws.length<=1000
 YV:wl.length=ts.length
 zb2:∀x∈wl,0<=x/\x<=(10^20:Nat)
 X7:lW M ws
 all:∀w∈ws,Eqv (gz (ao ts) ts.length) w.1 w.2
def V5.wt (J:V5 M ts wl ws):∀a,0<=a->a<(ts.length:Int)->0<=aJ wl a/\aJ wl a<=((10^20:Nat):Int):=λa a0 a1=>J.zb2 _ (zW J.YV a0 a1)
def FR (J:V5 M ts wl ws){k:Nat}(hk:k<=200){S:PS}(hr:Run M (ao ts) (aJ wl) ts.length ws S)(hb:Bd M (10^20) k S)(hn:aR S ws≠[])(s0 s1 s3 s6:Sl){gs:Sl}(hg:o6 (aR S ws) gs):∃XQ u6,o6 (aR (cQ (ao ts) (aJ wl) ts.length ws S) ws) XQ/\uu C [s0,s1,.val (.lst (ws.map pD)),s3,.dp (oD C M ts wl S),gs,s6]=Qs (.nx [s0,s1,.val (.lst (ws.map pD)),s3,.dp (oD C M ts wl (cQ (ao ts) (aJ wl) ts.length ws S)),XQ,u6]):=by
 have hE:=jg J.WJ;have mu0:=(sR (M:=M) (e:=ao ts) (w:=aJ wl) (nt:=ts.length) (ws:=ws) J.Vs.1).2;have tkl:S.tk.length<=36:=by have:=hr.Vs;lia
 have Sn:S.n<=45:=by have:=hr.ok.nM;have:=J.Vs.1;lia
 obtain⟨sm1,sm2⟩:=hb.sm hk (by decide);have w30:∀x∈wl,0<=x/\x<10^30:=λx hx=>by
  have:=J.zb2 x hx;have e:((10^20:Nat):Int)=100000000000000000000:=by decide
  rw[e]at this;lia
 let V:Sl:=.val (.lst (ws.map pD))
 let G:=aR S ws
 let t0:Th:=[s0,s1,V,s3,.dp (oD C M ts wl S),gs,s6]
 let t1:Th:=[s0,s1,V,s3,.dp (oD C M ts wl S),.val (.T4 G),s6]
 have ff:=oz (d:=(match d7 S (ao ts) (aJ wl) (aK G) ts.length with|some a=>D.int a|none=>D.TX)) (rs:=[.cl (.T4 G)]) (ga:=ae cb ai) (m:= "first_full") (G:=lZ C) (f:=af 4) (t:=t1) (r:=.tm (oD C M ts wl S)) (M:=M) (ts:=ts) (wl:=wl) (S:=S) rfl rfl (by decide+kernel) rfl (M4 J.WJ J.Vs.2.1 J.YV w30 (OL _) hr.ok.Wx sm1) (by split<;>rfl);have hx:=tZ hr.ok hE J.all hn;cases hf:d7 S (ao ts) (aJ wl) (aK G) ts.length with
 |none=>
  rw[hf]at ff;let t2:Th:=[s0,s1,V,s3,.dp (oD C M ts wl S),.val (.T4 G),.val .TX]
  have E1:lQ 5 (aN 6 (bY C "first_full" (lZ C) bF fP)) t0=Qs (.nx t2):=by rw[DU (t:=t0) (G:=G) rfl hg];exact iB (i:=6) ff (by show 6<7;decide)
  have es:cQ (ao ts) (aJ wl) ts.length ws S=Wl S (ao ts) (aJ wl) (aK G) ts.length:=by unfold cQ;have:d7 S (ao ts) (aJ wl) (aK (aR S ws)) ts.length=Qn:=hf;rw[this];rfl
  rw[es];have E2:=w6 (t:=t2) (i:=4) (m:= "halve_parts") (G:=qK C) (ga:=ai) (rs:=[]) (S:=S) (S':=Ur S) rfl (by decide+kernel) rfl rfl (MI (by have:=J.Vs.1;lia) (by lia) (OL _) sm1);let t3:Th:=[s0,s1,V,s3,.dp (oD C M ts wl (Ur S)),.val (.T4 G),.val .TX]
  have okh:=hr.ok.Ur;have sl:=Lh (xs:=gA (Ur S) (ao ts) (aJ wl) (aK G) ts.length) (rs:=[.cl (.T4 G)]) (ga:=ae cb ai) (m:= "steps_to_full") (G:=nF C) (f:=af 4) (t:=t3) (r:=.tm (oD C M ts wl (Ur S))) (M:=M) (ts:=ts) (wl:=wl) (S:=Ur S) rfl rfl (by decide+kernel) rfl (GK J.WJ J.Vs.2.1 J.YV w30 (OL _) okh.Wx sm2);have sne:=(uU (w:=aJ wl) hx).1;have mn:=M7 (L:=gA (Ur S) (ao ts) (aJ wl) (aK G) ts.length) sl rfl (List.length_pos_iff.mpr sne);have zhs:∀p∈G,∃v,0<=v/\v<(M:Int)/\(Ur S).po v=p:=λp hp=>by
   obtain⟨w',hw',_,q⟩:=YU.mp hp;obtain⟨⟨a0,a1⟩,b0,b1⟩:=J.X7 w' hw';rcases q with z|z
   .exact⟨w'.1,a0,a1,z.symm⟩
   .exact⟨w'.2,b0,b1,z.symm⟩
  have E3:=w6 (t:=t3) (i:=4) (m:= "grow") (G:=qO C) (ga:=(ae cb (ae (ag (lF dQ) (ae (bY C "steps_to_full" (nF C) bF fP) ai)) ai))) (rs:=[.cl (.T4 G),.cl (.int (fA S (ao ts) (aJ wl) (aK G) ts.length))]) (S:=Ur S) (S':=Wl S (ao ts) (aJ wl) (aK G) ts.length) rfl (by decide+kernel) (ud rfl (ud mn rfl)) rfl (MJ okh (B3 Pl) zhs);have c:aC (d2 iT cK hX) t2=Qs Qt:=rfl;exact⟨.val (.T4 G),.val .TX,.inr rfl,(aL E1).trans ((iU c rfl).trans ((aL E2).trans E3))⟩
 |some a=>
  rw[hf]at ff;obtain⟨⟨a0,a1⟩,b,_⟩:=o8 hf;let t2:Th:=[s0,s1,V,s3,.dp (oD C M ts wl S),.val (.T4 G),.val (.int a)]
  have E1:lQ 5 (aN 6 (bY C "first_full" (lZ C) bF fP)) t0=Qs (.nx t2):=by rw[DU (t:=t0) (G:=G) rfl hg];exact iB (i:=6) ff (by show 6<7;decide)
  have es:cQ (ao ts) (aJ wl) ts.length ws S=Uo S (ao ts) a:=by unfold cQ;have:d7 S (ao ts) (aJ wl) (aK (aR S ws)) ts.length=Qs a:=hf;rw[this]
  rw[es];have E2:=w6 (t:=t2) (i:=4) (m:= "take") (G:=qJ C) (ga:=ae cK ai) (rs:=[.cl (.int a)]) (S:=S) (S':=Uo S (ao ts) a) rfl (by decide+kernel) rfl rfl (Iz J.WJ (by have:=J.Vs.1;lia) (by lia) hr.ok (by lia) a0 a1);let t3:Th:=[s0,s1,V,s3,.dp (oD C M ts wl (Uo S (ao ts) a)),.val (.T4 G),.val (.int a)]
  have wt:(ag (aO (jX C)) (ae bF e8)) t3=Qs (.dn (dT (aR (Uo S (ao ts) a) ws))):=by rw[eJ (rfl:af 4 t3=Qs (.tm (oD C M ts wl (Uo S (ao ts) a)))) (rfl:af 2 t3=Qs (.cl (.lst (ws.map pD))))];unfold aO;rw[show jX C ([Ev.tm (oD C M ts wl (Uo S (ao ts) a)),.cl (.lst (ws.map pD))].map Ev.d)=_ from zZ (S:=Uo S (ao ts) a) J.X7 J.Vs.2.2 (r:=.nw [])];rfl
  have E3:=nv (i:=5) wt (by simp[t3]);have c:aC (d2 iT cK hX) t2=Qs Qf:=rfl;exact⟨.dp (dT (aR (Uo S (ao ts) a) ws)),.val (.int a),.inl rfl,(aL E1).trans ((xM c rfl).trans ((aL E2).trans E3))⟩
def Ct{C:Xl}{M:Nat}{ts:Ql (Int×Int)}{wl:Ql Int}{ws:Ql Eg}(J:V5 M ts wl ws)(s0 s1 s3:Sl):∀(n k:Nat) (S:PS) (gs s6:Sl),k+n<=200->Run M (ao ts) (aJ wl) ts.length ws S->Bd M (10^20) k S->ms M (ao ts) (aJ wl) ts.length ws S<n->o6 (aR S ws) gs->∃XQ u6,eI (lL cb) (uu C) n [s0,s1,.val (.lst (ws.map pD)),s3,.dp (oD C M ts wl S),gs,s6]=Qs (.nx [s0,s1,.val (.lst (ws.map pD)),s3,.dp (oD C M ts wl (eL (ao ts) (aJ wl) ts.length ws n S)),XQ,u6])/\Bd M (10^20) 200 (eL (ao ts) (aJ wl) ts.length ws n S)
 |0,k,S,gs,s6,_,_,_,h,_=>by lia
 |n+1,k,S,gs,s6,hk,hr,hb,hm,hg=>by
  have tr:=FV (t:=[s0,s1,.val (.lst (ws.map pD)),s3,.dp (oD C M ts wl S),gs,s6]) (s:=gs) rfl hg;unfold eI eL;rw[tr];by_cases z:aR S ws=[]
  .rw[S9 z,z];refine⟨gs,s6,rfl,?_⟩;exact hb.up (by lia)
  .rw[Tr z];have ne:(!(aR S ws).isEmpty)=Qt:=by
    cases q:aR S ws with
    |nil=>exact absurd q z
    |cons _ _=>rfl
   rw[ne];obtain⟨XQ,u6,hg',e⟩:=FR (C:=C) J (by lia:k<=200) hr hb z s0 s1 s3 s6 hg;obtain⟨r2,m2⟩:=hr.step (jg J.WJ) J.all z;have b2:=hb.step hr (jg J.WJ) J.wt J.all z;obtain⟨Uq,v6,e2,b3⟩:=Ct J s0 s1 s3 n (k+1) _ XQ u6 (by lia) r2 b2 (by lia) hg';refine⟨Uq,v6,?_,b3⟩;simp only[Oz,if_true];rw[e];exact e2
def cy(M:Nat)(ts:Ql (Int×Int))(wl:Ql Int)(ws:Ql Eg):PS:=eL (ao ts) (aJ wl) ts.length ws 200 (PS.new M)
def fK(M:Nat)(ts:Ql (Int×Int))(wl:Ql Int)(ws:Ql Eg):Ql Int:=wX (ao ts) ws (cy M ts wl ws).tk
def gU(M:Nat)(ts:Ql (Int×Int))(wl:Ql Int)(ws:Ql Eg):Ql (Ql Int×(Int×Int)):=mQ (cy M ts wl ws)
def jF(M:Nat)(ts:Ql (Int×Int))(wl:Ql Int)(ws:Ql Eg):D:=.tup [iL (fK M ts wl ws),.lst ((gU M ts wl ws).map cJ)]
def Nc(ts:Ql (Int×Int)):cz ts (av ts.length)=gz (ao ts) ts.length:=rfl
def V5.ze8 (J:V5 M ts wl ws):fY (ll (cz ts (av ts.length))) 0 ws=Qn:=by
 rw[yC];intro w hw;have k:∀e∈cz ts (av ts.length),0<=e.1/\0<=e.2:=λe he=>by obtain⟨a,ha,rfl⟩:=O2.mp he;have ra:=dJ ha;have:=jg J.WJ a ra.1 ra.2;lia
 exact((xh k).iff _ _).mpr (by rw[Nc];exact J.all w hw)
def Mg (J:V5 M ts wl ws):qH C [wD M ts,iL wl,.lst (ws.map pD)]=Qs (.dn (jF M ts wl ws)):=by
 let W:Sl:=.val (wD M ts)
 let U:Sl:=.val (iL wl)
 let V:Sl:=.val (.lst (ws.map pD))
 let S:=cy M ts wl ws
 have hM:=J.Vs.1;have rN:∀l∈av ts.length,0<=l/\l<(ts.length:Int):=λl hl=>dJ hl;let t0:Th:=[W,U,V,.no,.no,.no,.no]
 have el:(ag bK (ae (d2 az aq bG) ai)) t0=Qs (.cl (.int (ts.length:Int))):=by rw[gh (nX (i:=0) (t:=t0) rfl)];unfold bK;simp[Ev.d]
 have e1:(ag (aO iF) (ae aq (ae aU (ae (jP (ae (ag bK (ae (d2 az aq bG) ai)) ai)) ai)))) t0=Qs (.cl .TX):=by rw[jo (rfl:af 0 t0=Qs (.cl (wD M ts))) (rfl:af 2 t0=Qs (.cl (.lst (ws.map pD)))) (xf el J.Vs.2.1)];refine kK (d:=.TX) ?_ rfl;have:=BK (by lia) J.WJ J.X7 rN;rw[J.ze8]at this;exact this
 have E1:=iB (i:=3) e1 (by simp[t0]);let t1:Th:=[W,U,V,.val .TX,.no,.no,.no]
 have E2:(bI (aC (d2 tD aP hX)) yW bX) t1=Qs (.nx t1):=fL (rfl:_=Qs Qf) rfl;have e3:(ag (oQ C (nH C)) jZ) t1=Qs (.dn (oD C M ts wl (PS.new M))):=by rw[eJ (rfl:af 0 t1=Qs (.cl (wD M ts))) (rfl:af 1 t1=Qs (.cl (iL wl)))];show(if Qt=Qt then(nH C [.obj C [] [],wD M ts,iL wl]).map Ev.dn else Qn)=_;rw[S9 rfl,Mr (by lia)];rfl
 have E3:=nv (i:=4) e3 (by simp[t1]);let t2:Th:=[W,U,V,.val .TX,.dp (oD C M ts wl (PS.new M)),.no,.no]
 have e4:(ag (aO (jX C)) (ae bF e8)) t2=Qs (.dn (dT (aR (PS.new M) ws))):=by rw[eJ (rfl:af 4 t2=Qs (.tm (oD C M ts wl (PS.new M)))) (rfl:af 2 t2=Qs (.cl (.lst (ws.map pD))))];unfold aO;rw[show jX C ([Ev.tm (oD C M ts wl (PS.new M)),.cl (.lst (ws.map pD))].map Ev.d)=_ from zZ (S:=PS.new M) J.X7 J.Vs.2.2 (r:=.nw [])];rfl
 have E4:=nv (i:=5) e4 (by simp[t2]);have zd1:∀a,0<=a->a<(ts.length:Int)->0<=aJ wl a:=λa a0 a1=>(J.wt a a0 a1).1;have r0:Run M (ao ts) (aJ wl) ts.length ws (PS.new M):=Run.new zd1;have m0:=(sR (M:=M) (e:=ao ts) (w:=aJ wl) (nt:=ts.length) (ws:=ws) hM);obtain⟨XQ,u6,e5,bd⟩:=Ct (C:=C) J W U (.val .TX) 200 0 (PS.new M) (.dp (dT (aR (PS.new M) ws))) .no (by lia) r0 Bd.new (by lia) (.inl rfl);have E5:(iY (λ_=>200) (lL cb) (uu C)) [W,U,V,.val .TX,.dp (oD C M ts wl (PS.new M)),.dp (dT (aR (PS.new M) ws)),.no]=Qs (.nx [W,U,V,.val .TX,.dp (oD C M ts wl S),XQ,u6]):=e5;obtain⟨_,re⟩:=oe (jg J.WJ) J.all 200 (PS.new M) r0 (by lia);have tkl:S.tk.length<=36:=by have:S.tk.length+mu M S<=mu M (PS.new M):=re.Vs;lia
 have Sn:S.n<=45:=by have:S.n=M+S.tk.length:=re.ok.nM;lia
 let t5:Th:=[W,U,V,.val .TX,.dp (oD C M ts wl S),XQ,u6]
 obtain⟨q,a1,b1⟩:=K4 (f:=af 4) (t:=t5) (r:=.tm (oD C M ts wl S)) (M:=M) (ts:=ts) (wl:=wl) (S:=S) rfl rfl;have e6:(ag (aO iD) (ae aq (ae aU (ae (d1 (aI C "taken") bF) ai)))) t5=Qs (.nw ((fK M ts wl ws).map D.int)):=by rw[jo (rfl:af 0 t5=Qs (.cl (wD M ts))) (rfl:af 2 t5=Qs (.cl (.lst (ws.map pD)))) a1];refine pP ?_;show iD [wD M ts,.lst (ws.map pD),q.d]=_;rw[b1];exact La (by lia) J.WJ J.X7 re.ok.Xj (by lia) (r:=.nw [])
 have e7:=Li (d:=.lst ((mQ S).map cJ)) (rs:=[]) (ga:=ai) (m:= "moats") (G:=g8 C) (f:=af 4) (t:=t5) (r:=.tm (oD C M ts wl S)) (M:=M) (ts:=ts) (wl:=wl) (S:=S) rfl rfl (by decide+kernel) rfl (Ll re.ok (by lia) (OL _) (bd.sm (OL _) (by decide)).1);have E6:(pk (oC (gq (eN (ag (aO iD) (ae aq (ae aU (ae (d1 (aI C "taken") bF) ai))))) (gq (eN (bY C "moats" (g8 C) bF ai)) kg)))) t5=Qs (.rt (.dn (jF M ts wl ws))):=by
  have n1:(eN (ag (aO iD) (ae aq (ae aU (ae (d1 (aI C "taken") bF) ai))))) t5=Qs (iL (fK M ts wl ws),t5):=by unfold eN;rw[e6];show(if Ui ((fK M ts wl ws).map D.int) then Qs (D.lst ((fK M ts wl ws).map D.int)) else Qn).map _=_;rw[UW];rfl
  have n2:(eN (bY C "moats" (g8 C) bF ai)) t5=Qs (.lst ((gU M ts wl ws).map cJ),t5):=by unfold eN;rw[e7];rfl
  have n3:(gq (eN (bY C "moats" (g8 C) bF ai)) kg) t5=Qs ([.lst ((gU M ts wl ws).map cJ)],t5):=by unfold gq;rw[n2];rfl
  have n4:(gq (eN (ag (aO iD) (ae aq (ae aU (ae (d1 (aI C "taken") bF) ai))))) (gq (eN (bY C "moats" (g8 C) bF ai)) kg)) t5=Qs ([iL (fK M ts wl ws),.lst ((gU M ts wl ws).map cJ)],t5):=by rw[show(gq (eN (ag (aO iD) (ae aq (ae aU (ae (d1 (aI C "taken") bF) ai))))) (gq (eN (bY C "moats" (g8 C) bF ai)) kg)) t5=((eN (ag (aO iD) (ae aq (ae aU (ae (d1 (aI C "taken") bF) ai))))) t5).bind λq=>((gq (eN (bY C "moats" (g8 C) bF ai)) kg) q.2).bind λw=>Qs (q.1::w.1,w.2) from rfl,n1];show((gq (eN (bY C "moats" (g8 C) bF ai)) kg) t5).bind _=_;rw[n3];rfl
  unfold pk oC;rw[n4];rfl
 show(yg C t0).bind dg=_;exact Uj ((aL E1).trans ((aL E2).trans ((aL E3).trans ((aL E4).trans ((aL E5).trans E6)))))
def bz(f:Int->Int):Nat->Int
 |0=>0
 |n+1=>bz f n+f n
def iK{f g:Int->Int}:∀{n:Nat},(∀p,0<=p->p<(n:Int)->f p=g p)->bz f n=bz g n
 |0,_=>rfl
 |n+1,h=>by show bz f n+f n=bz g n+g n;rw[iK λp p0 p1=>h p p0 (by lia),h n (by lia) (by lia)]
def rE(f g:Int->Int):∀n:Nat,bz (λp=>f p+g p) n=bz f n+bz g n
 |0=>rfl
 |n+1=>by show bz (λp=>f p+g p) n+(f n+g n)=bz f n+f n+(bz g n+g n);rw[rE f g n];lia
def uX(c:Int)(f:Int->Int):∀n:Nat,bz (λp=>c*f p) n=c*bz f n
 |0=>(Int.mul_zero c).symm
 |n+1=>by show bz (λp=>c*f p) n+c*f n=c*(bz f n+f n);rw[uX c f n,Int.mul_add]
def oa{f:Int->Int}:∀{n:Nat},(∀p,0<=p->p<(n:Int)->f p=0)->bz f n=0
 |0,_=>rfl
 |n+1,h=>by show bz f n+f n=0;rw[oa λp p0 p1=>h p p0 (by lia),h n (by lia) (by lia)];rfl
def Ay{f:Int->Int}{q:Int}:∀{n:Nat},0<=q->q<(n:Int)->(∀p,0<=p->p<(n:Int)->p≠q->f p=0)->bz f n=f q
 |0,_,h1,_=>by lia
 |n+1,h0,h1,h=>by
  show bz f n+f n=f q;by_cases z:q=(n:Int)
  .rw[oa λp p0 p1=>h p p0 (by lia) (by lia),z];lia
  .rw[Ay h0 (by lia) λp p0 p1 k=>h p p0 (by lia) k,h n (by lia) (by lia) (by lia)];lia
def AA{f g:Int->Int}:∀{n:Nat},(∀p,0<=p->p<(n:Int)->f p<=g p)->bz f n<=bz g n
 |0,_=>Pz _
 |n+1,h=>by show bz f n+f n<=bz g n+g n;have:=AA (n:=n) λp p0 p1=>h p p0 (by lia);have:=h n (by lia) (by lia);lia
def cj(P:Ql Int)(d:Eg):Bool:=decide (d.1∈P) !=decide (d.2∈P)
def Ys{d:Eg}:cj P d=Qt↔¬(d.1∈P↔d.2∈P):=by unfold cj;by_cases a:d.1∈P<;>by_cases b:d.2∈P<;>simp[a,b]
def za5{d:Eg}:cj P d=Qf↔(d.1∈P↔d.2∈P):=by unfold cj;by_cases a:d.1∈P<;>by_cases b:d.2∈P<;>simp[a,b]
def fJ(S:PS)(d:Eg):Int:=bz (λp=>if cj (S.pt p) d then S.wd p else 0) S.n
def jV(S:PS)(v:Int):Int:=bz (λp=>if v∈S.pt p then S.wd p else 0) S.n
def ib(P:Ql Int)(d:Eg):Bool:=decide (d.1∈P)&&decide (d.2∈P)
structure US(M:Nat)(e:Int->Eg)(w:Int->Int)(nt:Nat)(ws:List Eg)(S:PS):Prop where
 ar:∀v,0<=v->v<(M:Int)->S.ar v=jV S v
 VM:∀a,0<=a->a<(nt:Int)->S.po (e a).1=S.po (e a).2->fJ S (e a)<=w a*S.pa
 Zn:∀a∈S.tk,fJ S (e a)=w a*S.pa
 YZ:∀a∈S.tk,S.po (e a).1=S.po (e a).2
 Y2:∀p,0<=p->p<(S.n:Int)->S.wd p≠0->∃x∈ws,cj (S.pt p) x=Qt
 YW:∀p,0<=p->p<(S.n:Int)->0<=S.wd p
 lam:∀p q,0<=p->p<q->q<(S.n:Int)->(∀u∈S.pt p,u∈S.pt q)\/(∀u∈S.pt p,u∉S.pt q)
 con:∀p,0<=p->p<(S.n:Int)->∀u∈S.pt p,∀v∈S.pt p,Eqv ((S.tk.map e).filter (ib (S.pt p))) u v
def US.new{M:Nat}{e:Int->Eg}{w:Int->Int}{nt:Nat}{ws:Ql Eg}(hw:∀a,0<=a->a<(nt:Int)->0<=w a):US M e w nt ws (PS.new M) where
 ar:=λv v0 v1=>by show(0:Int)=_;unfold jV;rw[oa];intro p p0 p1;show(if _ then(0:Int) else 0)=0;split<;>rfl
 VM:=λa a0 a1 k=>by
  have:fJ (PS.new M) (e a)=0:=by unfold fJ;rw[oa];intro p p0 p1;show(if _ then(0:Int) else 0)=0;split<;>rfl
  rw[this];show 0<=w a*1;have:=hw a a0 a1;lia
 Zn:=λa h=>nomatch h
 YZ:=λa h=>nomatch h
 Y2:=λp _ _ h=>absurd rfl h
 YW:=λp _ _=>Pz _
 lam:=λp q _ h _=>.inr λu hu z=>by have hu:u∈[p]:=hu;have z:u∈[q]:=z;have:=Oy.mp hu;have:=Oy.mp z;lia
 con:=λp _ _ u hu v hv=>by have hu:u∈[p]:=hu;have hv:v∈[p]:=hv;rw[Oy.mp hu,Oy.mp hv];exact .refl _
def LR{S:PS}(h:Ok M e w nt S) (hn:S.po x≠S.po y):fJ S (x,y)=jV S x+jV S y:=by
 unfold fJ jV;rw[<-rE];refine iK λp p0 p1=>?_;by_cases a:x∈S.pt p
 .have b:y∉S.pt p:=λb=>hn (h.one p p0 p1 _ a _ b);have:cj (S.pt p) (x,y)=Qt:=Ys.mpr λz=>b (z.mp a);rw[this,S9 rfl,S9 a,Tr b];lia
 .by_cases b:y∈S.pt p
  .have:cj (S.pt p) (x,y)=Qt:=Ys.mpr λz=>a (z.mpr b);rw[this,S9 rfl,Tr a,S9 b];lia
  .have:cj (S.pt p) (x,y)=Qf:=za5.mpr ⟨λz=>absurd z a,λz=>absurd z b⟩;rw[this,Tr (by decide),Tr a,Tr b];rfl
def US.UM{M:Nat}{e:Int->Eg}{w:Int->Int}{nt:Nat}{ws:Ql Eg}{S:PS}(h:US M e w nt ws S)(hO:Ok M e w nt S)(hE:dz M e nt){a:Int}(a0:0<=a)(a1:a<(nt:Int))(hn:S.po (e a).1≠S.po (e a).2):KX.UM S e w a=w a*S.pa-fJ S (e a):=by obtain⟨⟨x0,x1⟩,y0,y1⟩:=hE a a0 a1;have:=LR hO hn;unfold KX.UM;rw[h.ar _ x0 x1,h.ar _ y0 y1];have e1:((e a).1,(e a).2)=e a:=rfl;rw[e1]at this;lia
def US.fea{S:PS}(h:US M e w nt ws S)(hO:Ok M e w nt S)(hE:dz M e nt) (a0:0<=a)(a1:a<(nt:Int)):fJ S (e a)<=w a*S.pa:=by
 by_cases z:S.po (e a).1=S.po (e a).2
 .exact h.VM a a0 a1 z
 .have:=h.UM hO hE a0 a1 z;have:=hO.pos a a0 a1 z;lia
def US.Ur{M:Nat}{e:Int->Eg}{w:Int->Int}{nt:Nat}{ws:Ql Eg}{S:PS}(h:US M e w nt ws S):US M e w nt ws (Ur S):=by
 have l2:∀d,fJ (KX.Ur S) d=2*fJ S d:=λd=>by unfold fJ;rw[<-uX];refine iK λp p0 p1=>?_;show(if cj (S.pt p) d then 2*S.wd p else 0)=_;split<;>lia
 have wq:∀a,w a*(S.pa*2)=2*(w a*S.pa):=λa=>by rw[<-Rb,SQ]
 refine⟨λv v0 v1=>?_,λa a0 a1 k=>?_,λa ha=>?_,h.YZ,λp p0 p1 k=>?_,λp p0 p1=>?_,h.lam,h.con⟩
 .show 2*S.ar v=jV (KX.Ur S) v;rw[h.ar v v0 v1];unfold jV;rw[<-uX];refine iK λp p0 p1=>?_;show _=(if v∈S.pt p then 2*S.wd p else 0);split<;>lia
 .rw[l2];show _<=w a*(S.pa*2);rw[wq];have:=h.VM a a0 a1 k;lia
 .rw[l2];show _=w a*(S.pa*2);rw[wq,h.Zn a ha]
 .have k:2*S.wd p≠0:=k;exact h.Y2 p p0 p1 (by lia)
 .have:=h.YW p p0 p1;show 0<=2*S.wd p;lia
structure Gr(M:Nat)(ws:List Eg)(S:PS)(g:Int->Bool):Prop where
 now:∀p,g p=Qt->∃u,(0<=u/\u<(M:Int))/\p=S.po u
 prt:∀p,g p=Qt->∃x∈ws,cj (S.pt p) x=Qt
def Ds{S:PS}(hO:Ok M e w nt S)(hP:∀x∈ws,(0<=x.1/\x.1<(M:Int))/\0<=x.2/\x.2<(M:Int)):Gr M ws S (aK (aR S ws)):=by
 refine⟨λp hp=>?_,λp hp=>?_⟩
 .obtain⟨x,hx,ne,r⟩:=YU.mp (of_decide_eq_true hp);obtain⟨a,b⟩:=hP x hx;rcases r with z|z
  .exact⟨x.1,a,z⟩
  .exact⟨x.2,b,z⟩
 .obtain⟨x,hx,ne,r⟩:=YU.mp (of_decide_eq_true hp);obtain⟨⟨a0,a1⟩,b0,b1⟩:=hP x hx;refine⟨x,hx,Ys.mpr λk=>ne ?_⟩;rcases r with z|z
  .rw[z,hO.cur _ a0 a1,hO.cur _ a0 a1]at k;exact(k.mp ⟨a0,a1,rfl⟩).2.2.symm
  .rw[z,hO.cur _ b0 b1,hO.cur _ b0 b1]at k;exact(k.mpr ⟨b0,b1,rfl⟩).2.2
def US.VF{M:Nat}{e:Int->Eg}{w:Int->Int}{nt:Nat}{ws:Ql Eg}{S:PS}(h:US M e w nt ws S)(hO:Ok M e w nt S)(hE:dz M e nt){g:Int->Bool}(hg:Gr M ws S g){st:Int}(s0:0<=st):US M e w nt ws (VF S g st):=by
 have mem:∀p v,g p=Qt->0<=v->v<(M:Int)->(v∈S.pt p↔S.po v=p):=λp v gp v0 v1=>by obtain⟨u,⟨u0,u1⟩,rfl⟩:=hg.now p gp;rw[hO.cur u u0 u1];exact⟨λz=>z.2.2,λz=>⟨v0,v1,z⟩⟩
 have ld:∀a,0<=a->a<(nt:Int)->S.po (e a).1=S.po (e a).2->fJ (KX.VF S g st) (e a)=fJ S (e a):=λa a0 a1 k=>by
  obtain⟨⟨x0,x1⟩,y0,y1⟩:=hE a a0 a1;unfold fJ;refine iK λp p0 p1=>?_;show(if cj (S.pt p) (e a) then S.wd p+(if g p then st else 0) else 0)=_;by_cases gp:g p=Qt
  .have:cj (S.pt p) (e a)=Qf:=za5.mpr (by rw[mem p _ gp x0 x1,mem p _ gp y0 y1,k]);rw[this,Tr (by decide),Tr (by decide)]
  .rw[Tr gp,QY]
 refine⟨λv v0 v1=>?_,λa a0 a1 k=>?_,λa ha=>?_,h.YZ,λp p0 p1 k=>?_,λp p0 p1=>?_,h.lam,h.con⟩
 .show S.ar v+(if g (S.po v) then st else 0)=bz (λp=>if v∈S.pt p then S.wd p+(if g p then st else 0) else 0) S.n;have e1:bz (λp=>if v∈S.pt p then S.wd p+(if g p then st else 0) else 0) S.n=jV S v+bz (λp=>if v∈S.pt p then(if g p then st else 0) else 0) S.n:=by
   unfold jV;rw[<-rE];refine iK λp p0 p1=>?_;show _=(if v∈S.pt p then S.wd p else 0)+(if v∈S.pt p then(if g p then st else 0) else 0);by_cases z:v∈S.pt p
   .rw[S9 z,S9 z,S9 z]
   .rw[Tr z,Tr z,Tr z];rfl
  have pv:=hO.VT v v0 v1;rw[e1,h.ar v v0 v1,Ay pv.1 pv.2 λp p0 p1 k=>?_]
  .rw[S9 ((hO.cur v v0 v1 v).mpr ⟨v0,v1,rfl⟩)]
  .by_cases gp:g p=Qt
   .rw[Tr λz=>k ((mem p v gp v0 v1).mp z).symm]
   .rw[Tr gp];split<;>rfl
 .rw[ld a a0 a1 k];exact h.VM a a0 a1 k
 .obtain⟨a0,a1⟩:=hO.Xj a ha;rw[ld a a0 a1 (h.YZ a ha)];exact h.Zn a ha
 .have k:S.wd p+(if g p then st else 0)≠0:=k;by_cases gp:g p=Qt
  .exact hg.prt p gp
  .rw[Tr gp,QY]at k;exact h.Y2 p p0 p1 k
 .have:=h.YW p p0 p1;show 0<=S.wd p+(if g p then st else 0);split<;>lia
def D5{UG:Ql Eg}{p q:Eg->Bool}(h1:∀x∈es,x∈UG)(h2:∀x,p x=Qt->q x=Qt):∀x∈es.filter p,x∈UG.filter q:=λx hx=>by obtain⟨a,b⟩:=Pf.mp hx;exact Pf.mpr ⟨h1 x a,h2 x b⟩
def US.Uo{M:Nat}{e:Int->Eg}{w:Int->Int}{nt:Nat}{ws:Ql Eg}{S:PS}(h:US M e w nt ws S)(hO:Ok M e w nt S)(hE:dz M e nt){a:Int}(a0:0<=a)(a1:a<(nt:Int))(hn:S.po (e a).1≠S.po (e a).2)(hf:KX.UM S e w a<=0):US M e w nt ws (Uo S e a):=by
 obtain⟨⟨x0,x1⟩,y0,y1⟩:=hE a a0 a1;have px:=hO.VT _ x0 x1;have py:=hO.VT _ y0 y1;have Wc:∀p,p≠(S.n:Int)->(KX.Uo S e a).pt p=S.pt p:=λp k=>Tr k;have ptN:(KX.Uo S e a).pt (S.n:Int)=bS S e a:=S9 rfl;have Z8:∀p,p≠(S.n:Int)->(KX.Uo S e a).wd p=S.wd p:=λp k=>Tr k;have Z9:(KX.Uo S e a).wd (S.n:Int)=0:=S9 rfl;have ld:∀d,fJ (KX.Uo S e a) d=fJ S d:=λd=>by
  show bz (λp=>if cj ((KX.Uo S e a).pt p) d then(KX.Uo S e a).wd p else 0) S.n+(if cj ((KX.Uo S e a).pt S.n) d then(KX.Uo S e a).wd S.n else 0)=_;rw[Z9];have:(if cj ((KX.Uo S e a).pt S.n) d then(0:Int) else 0)=0:=by split<;>rfl
  rw[this,QY];refine iK λp p0 p1=>?_;show(if cj ((KX.Uo S e a).pt p) d then(KX.Uo S e a).wd p else 0)=_;rw[Wc p (by lia),Z8 p (by lia)]
 have mj:∀u,u∈bS S e a↔(0<=u/\u<(M:Int)/\(S.po u=S.po (e a).1\/S.po u=S.po (e a).2)):=λu=>by
  rw[Yr,hO.cur _ x0 x1,hO.cur _ y0 y1];constructor
  .rintro(⟨a,b,c⟩|⟨a,b,c⟩)
   .exact⟨a,b,.inl c⟩
   .exact⟨a,b,.inr c⟩
  .rintro⟨a,b,c|c⟩
   .exact .inl ⟨a,b,c⟩
   .exact .inr ⟨a,b,c⟩
 have VJ:∀v,(KX.Uo S e a).po v=if v∈bS S e a then(S.n:Int) else S.po v:=λv=>rfl
 have same:∀u v,0<=u->u<(M:Int)->0<=v->v<(M:Int)->S.po u=S.po v->(KX.Uo S e a).po u=(KX.Uo S e a).po v:=λu v u0 u1 v0 v1 q=>by
  rw[VJ,VJ];have:u∈bS S e a↔v∈bS S e a:=by rw[mj,mj,q];exact⟨λz=>⟨v0,v1,z.2.2⟩,λz=>⟨u0,u1,z.2.2⟩⟩
  by_cases z:u∈bS S e a
  .rw[S9 z,S9 (this.mp z)]
  .rw[Tr z,Tr λk=>z (this.mpr k),q]
 have k1:(e a).1∈bS S e a:=(mj _).mpr ⟨x0,x1,.inl rfl⟩;have k2:(e a).2∈bS S e a:=(mj _).mpr ⟨y0,y1,.inr rfl⟩;have lf:=h.UM hO hE a0 a1 hn;have l0:=hO.pos a a0 a1 hn;refine⟨λv v0 v1=>?_,λc c0 c1 k=>?_,λc hc=>?_,λc hc=>?_,λp p0 p1 k=>?_,λp p0 p1=>?_,λp q p0 pq q1=>?_,λp p0 p1 u hu v hv=>?_⟩
 .show S.ar v=bz (λp=>if v∈(KX.Uo S e a).pt p then(KX.Uo S e a).wd p else 0) S.n+(if v∈(KX.Uo S e a).pt S.n then(KX.Uo S e a).wd S.n else 0);rw[Z9];have:(if v∈(KX.Uo S e a).pt S.n then(0:Int) else 0)=0:=by split<;>rfl
  rw[this,QY,h.ar v v0 v1];refine iK λp p0 p1=>?_;show _=(if v∈(KX.Uo S e a).pt p then(KX.Uo S e a).wd p else 0);rw[Wc p (by lia),Z8 p (by lia)]
 .rw[ld];show _<=w c*S.pa;exact h.fea hO hE c0 c1
 .rw[ld];show _=w c*S.pa;rcases Ow.mp hc with z|z
  .exact h.Zn c z
  .rw[Oy.mp z];lia
 .rcases Ow.mp hc with z|z
  .obtain⟨c0,c1⟩:=hO.Xj c z;obtain⟨⟨u0,u1⟩,v0,v1⟩:=hE c c0 c1;exact same _ _ u0 u1 v0 v1 (h.YZ c z)
  .rw[Oy.mp z,VJ,VJ,S9 k1,S9 k2]
 .have p1:p<((S.n+1:Nat):Int):=p1;by_cases z:p=(S.n:Int)
  .rw[z]at k;exact absurd Z9 k
  .rw[Z8 p z]at k;rw[Wc p z];exact h.Y2 p p0 (by lia) k
 .have p1:p<((S.n+1:Nat):Int):=p1;by_cases z:p=(S.n:Int)
  .rw[z,Z9];exact Pz _
  .rw[Z8 p z];exact h.YW p p0 (by lia)
 .have q1:q<((S.n+1:Nat):Int):=q1;rw[Wc p (by lia)];by_cases z:q=(S.n:Int)
  .rw[z,ptN];by_cases y:∃u∈S.pt p,u∈bS S e a
   .obtain⟨u,hu,ju⟩:=y;refine .inl λv hv=>?_;have o:=hO.one p p0 (by lia) u hu v hv;obtain⟨v0,v1⟩:=hO.inr p p0 (by lia) v hv;exact(mj v).mpr ⟨v0,v1,o▸((mj u).mp ju).2.2⟩
   .exact .inr λu hu ju=>y ⟨u,hu,ju⟩
  .rw[Wc q z];exact h.lam p q p0 pq (by lia)
 .have p1:p<((S.n+1:Nat):Int):=p1;have XF:∀x∈S.tk.map e,x∈(S.tk++[a]).map e:=λx hx=>by rw[PH];exact Ot _ hx
  show Eqv (((S.tk++[a]).map e).filter (ib ((KX.Uo S e a).pt p))) u v;by_cases z:p=(S.n:Int)
  .rw[z,ptN]at hu hv ⊢;have part:∀z,(0<=z/\z<(M:Int))->(∀u∈S.pt (S.po z),u∈bS S e a)->∀u∈S.pt (S.po z),∀v∈S.pt (S.po z),Eqv (((S.tk++[a]).map e).filter (ib (bS S e a))) u v:=λz hz sub u hu v hv=>by have pz:=hO.VT _ hz.1 hz.2;refine(h.con _ pz.1 pz.2 u hu v hv).mono (D5 XF λx hx=>?_);unfold ib at hx ⊢;rw[OH,UX,UX]at hx ⊢;exact⟨sub _ hx.1,sub _ hx.2⟩
   have tie:Eqv (((S.tk++[a]).map e).filter (ib (bS S e a))) (e a).1 (e a).2:=by refine .WV (Pf.mpr ⟨O2.mpr ⟨a,Oq _ (Oy.mpr rfl),rfl⟩,?_⟩);unfold ib;rw[Uc k1,Uc k2];rfl
   have p1:=part (e a).1 ⟨x0,x1⟩ λu hu=>Yr.mpr (.inl hu);have p2:=part (e a).2 ⟨y0,y1⟩ λu hu=>Yr.mpr (.inr hu);have i1:(e a).1∈S.pt (S.po (e a).1):=(hO.cur _ x0 x1 _).mpr ⟨x0,x1,rfl⟩;have i2:(e a).2∈S.pt (S.po (e a).2):=(hO.cur _ y0 y1 _).mpr ⟨y0,y1,rfl⟩;have to1:∀u∈bS S e a,Eqv (((S.tk++[a]).map e).filter (ib (bS S e a))) u (e a).1:=λu hu=>by
    rcases Yr.mp hu with q|q
    .exact p1 u q _ i1
    .exact(p2 u q _ i2).trans tie.symm
   exact(to1 u hu).trans (to1 v hv).symm
  .rw[Wc p z]at hu hv ⊢;exact(h.con p p0 (by lia) u hu v hv).mono (D5 XF λx hx=>hx)
def US.step{S:PS}(h:US M e w nt ws S)(hO:Ok M e w nt S)(hE:dz M e nt)(hP:∀x∈ws,(0<=x.1/\x.1<(M:Int))/\0<=x.2/\x.2<(M:Int))(hw:∀w∈ws,Eqv (gz e nt) w.1 w.2)(hn:aR S ws≠[]):US M e w nt ws (cQ e w nt ws S):=by
 have hb:=tZ hO hE hw hn;cases hf:d7 S e w (aK (aR S ws)) nt with
 |none=>
  have es:cQ e w nt ws S=Wl S e w (aK (aR S ws)) nt:=by unfold cQ;rw[hf];rfl
  rw[es];have p:=As (w:=w) hb hf;exact h.Ur.VF hO.Ur hE (S:=KX.Ur S) ⟨(Ds hO hP).now,(Ds hO hP).prt⟩ (Pj p)
 |some a=>
  have es:cQ e w nt ws S=KX.Uo S e a:=by unfold cQ;rw[hf]
  rw[es];obtain⟨⟨a0,a1⟩,b,l⟩:=o8 hf;exact h.Uo hO hE a0 a1 (uk b) l
def US.run{M:Nat}{e:Int->Eg}{w:Int->Int}{nt:Nat}{ws:Ql Eg}(hE:dz M e nt)(hP:∀x∈ws,(0<=x.1/\x.1<(M:Int))/\0<=x.2/\x.2<(M:Int))(hw:∀w∈ws,Eqv (gz e nt) w.1 w.2):∀(n:Nat) (S:PS),Run M e w nt ws S->US M e w nt ws S->US M e w nt ws (eL e w nt ws n S)
 |0,S,_,h=>h
 |n+1,S,r,h=>by
  unfold eL;by_cases z:aR S ws=[]
  .rw[S9 z];exact h
  .rw[Tr z];exact US.run hE hP hw n _ (r.step hE hw z).1 (h.step r.ok hE hP hw z)
def Eqv.two{UG:Ql Eg}{d:Eg}(k:∀x∈UG,x∈es\/x=d) (h:Eqv UG u v):Eqv es u v\/(Eqv es u d.1/\Eqv es d.2 v)\/(Eqv es u d.2/\Eqv es d.1 v):=by
 induction h with
 |refl u=>exact .inl (.refl u)
 |WV h=>
  rcases k _ h with z|z
  .exact .inl (.WV z)
  .subst z;exact .inr (.inl ⟨.refl _,.refl _⟩)
 |symm _ ih=>
  rcases ih with z|⟨a,b⟩|⟨a,b⟩
  .exact .inl z.symm
  .exact .inr (.inr ⟨b.symm,a.symm⟩)
  .exact .inr (.inl ⟨b.symm,a.symm⟩)
 |trans _ _ i1 i2=>
  rcases i1 with z|⟨a,b⟩|⟨a,b⟩<;>rcases i2 with y|⟨c,f⟩|⟨c,f⟩
  .exact .inl (z.trans y)
  .exact .inr (.inl ⟨z.trans c,f⟩)
  .exact .inr (.inr ⟨z.trans c,f⟩)
  .exact .inr (.inl ⟨a,b.trans y⟩)
  .exact .inl ((a.trans c.symm).trans (b.symm.trans f))
  .exact .inl (a.trans f)
  .exact .inr (.inr ⟨a,b.trans y⟩)
  .exact .inl (a.trans f)
  .exact .inl ((a.trans c.symm).trans (b.symm.trans f))
def wo(K:Ql Int)(a:Int):Ql Int:=K.filter λx=>!decide (x=a)
def UU{K:Ql Int}:x∈wo K a↔x∈K/\x≠a:=by unfold wo;rw[Pf];simp
def VO(e:Int->Eg)(tk:Ql Int):Prop:=tk.Nodup/\∀a∈tk,¬Eqv ((wo tk a).map e) (e a).1 (e a).2
def ig{K:Ql Int}(h:∀x∈K,x∈L):∀x∈K.map e,x∈L.map e:=λx hx=>by obtain⟨a,ha,rfl⟩:=O2.mp hx;exact O2.mpr ⟨a,h a ha,rfl⟩
def zX{K:Ql Int}(a:Int):∀x∈K.map e,x∈(wo K a).map e\/x=e a:=λx hx=>by
 obtain⟨c,hc,rfl⟩:=O2.mp hx;by_cases z:c=a
 .exact .inr (by rw[z])
 .exact .inl (O2.mpr ⟨c,UU.mpr ⟨hc,z⟩,rfl⟩)
def nY{K:Ql Int}(h:a∈K):Eqv (K.map e) (e a).1 (e a).2:=.WV (O2.mpr ⟨a,h,rfl⟩)
def VO.nil(e:Int->Eg):VO e []:=⟨Pl,λa h=>nomatch h⟩
def VO.add{tk:Ql Int}(h:VO e tk) (hn:¬Eqv (tk.map e) (e a).1 (e a).2):VO e (tk++[a]):=by
 have na:a∉tk:=λz=>hn (nY z);refine⟨OG.mpr ⟨h.1,by simp,λx hx y hy z=>na (by rw[Oy.mp hy]at z;exact z▸hx)⟩,λb hb=>?_⟩;rcases Ow.mp hb with z|z
 .intro k;have ne:b≠a:=λq=>na (q▸z);have k2:∀x∈(wo (tk++[a]) b).map e,x∈(wo tk b).map e\/x=e a:=λx hx=>by
   obtain⟨c,hc,rfl⟩:=O2.mp hx;obtain⟨c1,c2⟩:=UU.mp hc;rcases Ow.mp c1 with y|y
   .exact .inl (O2.mpr ⟨c,UU.mpr ⟨y,c2⟩,rfl⟩)
   .exact .inr (by rw[Oy.mp y])
  have up:∀{u v},Eqv ((wo tk b).map e) u v->Eqv (tk.map e) u v:=λq=>q.mono (ig λx hx=>(UU.mp hx).1);have tb:=nY (e:=e) z;rcases k.two k2 with y|⟨y,w⟩|⟨y,w⟩
  .exact h.2 b z y
  .exact hn ((up y).symm.trans (tb.trans (up w).symm))
  .exact hn ((up w).trans (tb.symm.trans (up y)))
 .rw[Oy.mp z];intro k;refine hn (k.mono (ig λx hx=>?_));obtain⟨c1,c2⟩:=UU.mp hx;rcases Ow.mp c1 with y|y
  .exact y
  .exact absurd (Oy.mp y) c2
def US.apart{S:PS}(h:US M e w nt ws S) (hn:S.po u≠S.po v):¬Eqv (S.tk.map e) u v:=λk=>by
 have:=k.pred (p:=λx=>S.po x=S.po u) λx hx=>by obtain⟨a,ha,rfl⟩:=O2.mp hx;show S.po (e a).1=_↔S.po (e a).2=_;rw[h.YZ a ha]
 exact hn (this.mp rfl).symm
def VO.run{M:Nat}{e:Int->Eg}{w:Int->Int}{nt:Nat}{ws:Ql Eg}(hE:dz M e nt)(hP:∀x∈ws,(0<=x.1/\x.1<(M:Int))/\0<=x.2/\x.2<(M:Int))(hw:∀w∈ws,Eqv (gz e nt) w.1 w.2):∀(n:Nat) (S:PS),Run M e w nt ws S->US M e w nt ws S->VO e S.tk->VO e (eL e w nt ws n S).tk
 |0,S,_,_,h=>h
 |n+1,S,r,d,h=>by
  unfold eL;by_cases z:aR S ws=[]
  .rw[S9 z];exact h
  .rw[Tr z];refine VO.run hE hP hw n _ (r.step hE hw z).1 (d.step r.ok hE hP hw z) ?_;cases hf:d7 S e w (aK (aR S ws)) nt with
   |none=>
    have es:cQ e w nt ws S=Wl S e w (aK (aR S ws)) nt:=by unfold cQ;rw[hf];rfl
    rw[es];exact h
   |some a=>
    have es:cQ e w nt ws S=KX.Uo S e a:=by unfold cQ;rw[hf]
    rw[es];obtain⟨_,b,_⟩:=o8 hf;exact h.add (d.apart (uk b))
def gj(ok:Ql Int->Bool)(K:Ql Int)(a:Int):Ql Int:=if ok (wo K a) then wo K a else K
def rV{ok:Ql Int->Bool}:∀{as K:Ql Int}{x:Int},x∈as.foldl (gj ok) K->x∈K
 |[],K,x,h=>h
 |a::as,K,x,h=>by
  have:=rV (as:=as) h;unfold gj at this;split at this
  .exact(UU.mp this).1
  .exact this
def AU{ok:Ql Int->Bool}:∀{as K:Ql Int},ok K=Qt->ok (as.foldl (gj ok) K)=Qt
 |[],K,h=>h
 |a::as,K,h=>by
  refine AU (as:=as) ?_;unfold gj;split
  .assumption
  .exact h
def AX{ok:Ql Int->Bool}{P:Int->Prop}(mono:∀K L:Ql Int,(∀x∈L,P x)->(∀x∈K,x∈L)->ok K=Qt->ok L=Qt):∀{as K:Ql Int}{a:Int},(∀x∈K,P x)->a∈as->a∈as.foldl (gj ok) K->ok (wo (as.foldl (gj ok) K) a)=Qf
 |[],K,a,_,h,_=>nomatch h
 |b::as,K,a,hK,h,m=>by
  rcases OC.mp h with z|z
  .subst z;have m:a∈as.foldl (gj ok) (gj ok K a):=m;have k:ok (wo K a)=Qf:=by
    cases q:ok (wo K a) with
    |false=>rfl
    |true=>have:=rV m;unfold gj at this;rw[S9 q]at this;exact absurd rfl (UU.mp this).2
   refine Rh.mpr λt=>?_;have:=mono _ (wo K a) (λx hx=>hK x (UU.mp hx).1) (λx hx=>?_) t
   .rw[k]at this;cases this
   .obtain⟨x1,x2⟩:=UU.mp hx;have x1:=rV (as:=a::as) x1;exact UU.mpr ⟨x1,x2⟩
  .exact AX mono (as:=as) (λx hx=>hK x (by
    unfold gj at hx;split at hx
    .exact(UU.mp hx).1
    .exact hx)) z m
def AW{ok:Ql Int->Bool}:∀{as K:Ql Int},K.Nodup->(as.foldl (gj ok) K).Nodup
 |[],K,h=>h
 |a::as,K,h=>by
  refine AW (as:=as) ?_;unfold gj;split
  .exact h.filter _
  .exact h
def Et{tk:Ql Int}(hF:VO e tk)(sub:∀a∈F,a∈tk){t:Int}(join:Eqv (F.map e) s t)(min:∀a∈F,¬Eqv ((wo F a).map e) s t) (con:∀u∈P,∀v∈P,Eqv ((tk.map e).filter (ib P)) u v)(hs:s∈P)(ht:t∉P) (ha:a∈F)(hb:b∈F)(la:cj P (e a)=Qt)(lb:cj P (e b)=Qt):a=b:=by
 refine OZ λne=>?_;have nW:∀c,cj P (e c)=Qt->∀d∈tk,ib P (e d)=Qt->d≠c:=λc lc d _ wd z=>by rw[z]at wd;unfold ib at wd;rw[OH,UX,UX]at wd;exact Ys.mp lc ⟨λ_=>wd.2,λ_=>wd.1⟩
 -- all of P hangs ziU without a tie zej zi2 it
 have zbQ:∀c,cj P (e c)=Qt->∀u∈P,∀v∈P,Eqv ((wo tk c).map e) u v:=λc lc u hu v hv=>(con u hu v hv).mono λx hx=>by obtain⟨x1,x2⟩:=Pf.mp hx;obtain⟨d,hd,rfl⟩:=O2.mp x1;exact O2.mpr ⟨d,UU.mpr ⟨hd,nW c lc d hd x2⟩,rfl⟩
 have side:∀c,c∈F->cj P (e c)=Qt->∃x y,(e c=(x,y)\/e c=(y,x))/\x∈P/\y∉P/\Eqv ((wo tk c).map e) y t/\ ¬Eqv ((wo tk c).map e) x y:=λc hc lc=>by
  have up:∀{u v},Eqv ((wo F c).map e) u v->Eqv ((wo tk c).map e) u v:=λq=>q.mono (ig λx hx=>UU.mpr ⟨sub x (UU.mp hx).1,(UU.mp hx).2⟩);have key:∃x y,(e c=(x,y)\/e c=(y,x))/\Eqv ((wo tk c).map e) s x/\Eqv ((wo tk c).map e) y t:=by
   rcases join.two (zX (e:=e) c) with z|⟨z,y⟩|⟨z,y⟩
   .exact absurd z (min c hc)
   .exact⟨_,_,.inl rfl,up z,up y⟩
   .exact⟨_,_,.inr rfl,up z,up y⟩
  obtain⟨x,y,exy,sx,yt⟩:=key;have ap:¬Eqv ((wo tk c).map e) x y:=λq=>by
   have h2:=hF.2 c (sub c hc);rcases exy with z|z
   .rw[z]at h2;exact h2 q
   .rw[z]at h2;exact h2 q.symm
  have ny:y∉P:=λhy=>ap (sx.symm.trans (zbQ c lc s hs y hy));have hx:x∈P:=by
   have:=Ys.mp lc;rcases exy with z|z
   .rw[z]at this;exact OZ λq=>this ⟨λk=>absurd k q,λk=>absurd k ny⟩
   .rw[z]at this;exact OZ λq=>this ⟨λk=>absurd k ny,λk=>absurd k q⟩
  exact⟨x,y,exy,hx,ny,yt,ap⟩
 obtain⟨xa,ya,ea,pxa,pya,ta,apa⟩:=side a ha la;obtain⟨xb,yb,eb,pxb,pyb,tb,apb⟩:=side b hb lb;have upA:∀{u v},Eqv ((wo (wo tk a) b).map e) u v->Eqv ((wo tk a).map e) u v:=λq=>q.mono (ig λx hx=>(UU.mp hx).1);have upB:∀{u v},Eqv ((wo (wo tk a) b).map e) u v->Eqv ((wo tk b).map e) u v:=λq=>q.mono (ig λx hx=>by
  obtain⟨h1,h2⟩:=UU.mp hx;exact UU.mpr ⟨(UU.mp h1).1,h2⟩)
 have zb8:Eqv ((wo tk a).map e) xb yb:=by
  have:=nY (e:=e) (UU.mpr ⟨sub b hb,λz=>ne z.symm⟩:b∈wo tk a);rcases eb with z|z
  .rw[z]at this;exact this
  .rw[z]at this;exact this.symm
 have zeh:Eqv ((wo tk b).map e) xa ya:=by
  have:=nY (e:=e) (UU.mpr ⟨sub a ha,ne⟩:a∈wo tk b);rcases ea with z|z
  .rw[z]at this;exact this
  .rw[z]at this;exact this.symm
 have pA:=zbQ a la xa pxa xb pxb;have pB:=zbQ b lb xb pxb xa pxa
 -- zi1 way to t zi9 by XA other tie
 have t1:Eqv ((wo (wo tk a) b).map e) ya t:=by
  have XT:∀z,(z=xb\/z=yb)->¬Eqv ((wo (wo tk a) b).map e) ya z:=λz hz q=>by
   refine apa ?_;rcases hz with k|k
   .rw[k]at q;exact pA.trans (upA q).symm
   .rw[k]at q;exact pA.trans (zb8.trans (upA q).symm)
  rcases ta.two (zX (e:=e) b) with z|⟨z,y⟩|⟨z,y⟩
  .exact z
  .exfalso;rcases eb with k|k<;>rw[k]at z
   .exact XT _ (.inl rfl) z
   .exact XT _ (.inr rfl) z
  .exfalso;rcases eb with k|k<;>rw[k]at z
   .exact XT _ (.inr rfl) z
   .exact XT _ (.inl rfl) z
 have t2:Eqv ((wo (wo tk a) b).map e) yb t:=by
  have XT:∀z,(z=xa\/z=ya)->¬Eqv ((wo (wo tk a) b).map e) yb z:=λz hz q=>by
   refine apb ?_;rcases hz with k|k
   .rw[k]at q;exact pB.trans (upB q).symm
   .rw[k]at q;exact pB.trans (zeh.trans (upB q).symm)
  have k2:∀x∈(wo tk b).map e,x∈(wo (wo tk a) b).map e\/x=e a:=λx hx=>by
   obtain⟨c,hc,rfl⟩:=O2.mp hx;obtain⟨c1,c2⟩:=UU.mp hc;by_cases z:c=a
   .exact .inr (by rw[z])
   .exact .inl (O2.mpr ⟨c,UU.mpr ⟨UU.mpr ⟨c1,z⟩,c2⟩,rfl⟩)
  rcases tb.two k2 with z|⟨z,y⟩|⟨z,y⟩
  .exact z
  .exfalso;rcases ea with k|k<;>rw[k]at z
   .exact XT _ (.inl rfl) z
   .exact XT _ (.inr rfl) z
  .exfalso;rcases ea with k|k<;>rw[k]at z
   .exact XT _ (.inr rfl) z
   .exact XT _ (.inl rfl) z
 exact apa (pA.trans (zb8.trans (upA (t2.trans t1.symm))))
def Nq{tk:Ql Int}(hF:VO e tk)(sub:∀a∈F,a∈tk){t:Int}(join:Eqv (F.map e) s t)(min:∀a∈F,¬Eqv ((wo F a).map e) s t) (con:∀u∈P,∀v∈P,Eqv ((tk.map e).filter (ib P)) u v)(hp:cj P (s,t)=Qt) (ha:a∈F)(hb:b∈F)(la:cj P (e a)=Qt)(lb:cj P (e b)=Qt):a=b:=by
 have k:=Ys.mp hp;by_cases z:s∈P
 .exact Et hF sub join min con z (λy=>k ⟨λ_=>y,λ_=>z⟩) ha hb la lb
 .have y:t∈P:=OZ λy=>k ⟨λq=>absurd q z,λq=>absurd q y⟩;exact Et hF sub join.symm (λa ha q=>min a ha q.symm) con y z ha hb la lb
def Eu{t:Int}(join:Eqv (F.map e) s t) (hp:cj P (s,t)=Qt):∃a∈F,cj P (e a)=Qt:=by refine OZ λk=>Ys.mp hp (join.pred (p:=λv=>v∈P) λx hx=>?_);obtain⟨a,ha,rfl⟩:=O2.mp hx;exact za5.mp (Rh.mpr λz=>k ⟨a,ha,z⟩)
def uR{f:Int->Int->Int}(n:Nat):∀F:Ql Int,(F.map λa=>bz (f a) n).sum=bz (λp=>(F.map λa=>f a p).sum) n
 |[]=>by rw[oa (λp _ _=>by simp)];rfl
 |a::F=>by rw[OF,O5,uR n F,<-rE];refine iK λp _ _=>?_;rw[OF,O5]
def Al{f g:Int->Int}:∀{F:Ql Int},(∀a∈F,f a<=g a)->(F.map f).sum<=(F.map g).sum
 |[],_=>Pz _
 |a::F,h=>by rw[OF,OF,O5,O5];have:=Al (F:=F) λx hx=>h x (Ov _ hx);have:=h a (Ox ..);lia
def uT{f:Int->Int}(c:Int):∀F:Ql Int,(F.map λa=>f a*c).sum=(F.map f).sum*c
 |[]=>by simp
 |a::F=>by rw[OF,OF,O5,O5,uT c F,T7]
def Am{q:Int->Bool}{c:Int}(c0:0<=c):∀{F:Ql Int},(∃a∈F,q a=Qt)->c<=(F.map λa=>if q a then c else 0).sum
 |[],h=>by obtain⟨_,h,_⟩:=h;cases h
 |a::F,h=>by
  have pos:∀F:Ql Int,0<=(F.map λa=>if q a then c else 0).sum:=by
   intro F
   induction F with
   |nil=>exact Pz _
   |cons b F ih=>
    rw[OF,O5];have:0<=(if q b then c else 0):=by split<;>lia
    lia
  rw[OF,O5];have p:=pos F;cases z:q a with
  |true=>rw[S9 rfl];lia
  |false=>
   rw[Tr (by decide)];obtain⟨b,hb,qb⟩:=h;rcases OC.mp hb with y|y
   .rw[y,z]at qb;cases qb
   .have:=Am c0 ⟨b,y,qb⟩;lia
def Ak{q:Int->Bool}{c:Int}:∀{F:Ql Int},F.Nodup->(∃a∈F,q a=Qt)->(∀a∈F,∀b∈F,q a=Qt->q b=Qt->a=b)->(F.map λa=>if q a then c else 0).sum=c
 |[],_,h,_=>by obtain⟨_,h,_⟩:=h;cases h
 |a::F,nd,h,u=>by
  rw[OF,O5];obtain⟨na,nd⟩:=OO.mp nd;cases z:q a with
  |true=>
   rw[S9 rfl];have:∀G:Ql Int,(∀b∈G,q b=Qf)->(G.map λa=>if q a then c else 0).sum=0:=by
    intro G
    induction G with
    |nil=>intro _;rfl
    |cons b G ih=>intro k;rw[OF,O5,ih λx hx=>k x (Ov _ hx),k b (Ox ..)];rfl
   rw[this F λb hb=>Rh.mpr λy=>na ((u a (Ox ..) b (Ov _ hb) z y)▸hb)];lia
  |false=>
   rw[Tr (by decide)];obtain⟨b,hb,qb⟩:=h;rcases OC.mp hb with y|y
   .rw[y,z]at qb;cases qb
   .rw[Ak nd ⟨b,y,qb⟩ λx hx y hy=>u x (Ov _ hx) y (Ov _ hy)];lia
def Kd{S:PS}(h:US M e w nt ws S)(hO:Ok M e w nt S)(hE:dz M e nt)(hF:VO e S.tk){t:Int}(one:∀x∈ws,x=(s,t)) (nd:F.Nodup)(sub:∀a∈F,a∈S.tk)(join:Eqv (F.map e) s t)(min:∀a∈F,¬Eqv ((wo F a).map e) s t):(F.map w).sum*S.pa=bz S.wd S.n:=by
 rw[<-uT];have e1:(F.map λa=>w a*S.pa)=F.map λa=>bz (λp=>if cj (S.pt p) (e a) then S.wd p else 0) S.n:=Pb λa ha=>(h.Zn a (sub a ha)).symm;rw[e1,uR];refine iK λp p0 p1=>?_;by_cases z:S.wd p=0
 .rw[z];have:∀G:Ql Int,(G.map λa=>if cj (S.pt p) (e a) then(0:Int) else 0).sum=0:=by
   intro G
   induction G with
   |nil=>rfl
   |cons b G ih=>rw[OF,O5,ih];split<;>rfl
  exact this F
 .obtain⟨x,hx,lx⟩:=h.Y2 p p0 p1 z;rw[one x hx]at lx;exact Ak (q:=λa=>cj (S.pt p) (e a)) nd (Eu join lx) λa ha b hb la lb=>Nq hF sub join min (h.con p p0 p1) lx ha hb la lb
def Ke{S:PS}(h:US M e w nt ws S)(hO:Ok M e w nt S)(hE:dz M e nt) (inL:∀a∈L,0<=a/\a<(nt:Int))(join:∀x∈ws,Eqv (L.map e) x.1 x.2):bz S.wd S.n<=(L.map w).sum*S.pa:=by
 rw[<-uT];refine QO ?_ (Al (f:=λa=>bz (λp=>if cj (S.pt p) (e a) then S.wd p else 0) S.n) λa ha=>h.fea hO hE (inL a ha).1 (inL a ha).2);rw[uR];refine AA λp p0 p1=>?_;by_cases z:S.wd p=0
 .rw[z];have:∀G:Ql Int,(G.map λa=>if cj (S.pt p) (e a) then(0:Int) else 0).sum=0:=by
   intro G
   induction G with
   |nil=>rfl
   |cons b G ih=>rw[OF,O5,ih];split<;>rfl
  rw[this];exact Pz _
 .obtain⟨x,hx,lx⟩:=h.Y2 p p0 p1 z;exact Am (q:=λa=>cj (S.pt p) (e a)) (h.YW p p0 p1) (Eu (join x hx) lx)
def DP{e:Int->Eg}{V:Ql Int}(nn:∀v∈V,0<=v):∀(n:Nat) (L:Ql Int),L.length=n->VO e L->(∀a∈L,(e a).1∈V/\(e a).2∈V)->LL (L.map e) (ll (L.map e))/\L.length+(V.filter λv=>decide (ll (L.map e) v=v)).length<=V.length
 |0,L,hl,_,_=>by rw[QF.mp hl];refine⟨LL.nil,?_⟩;have:=Qw (λv=>decide (ll (([]:Ql Int).map e) v=v)) V;simpa using this
 |n+1,L,hl,hF,hV=>by
  obtain⟨L',a,rfl⟩:∃L' a,L=L'++[a]:=by
   rcases Sv L with z|⟨L',a,z⟩
   .rw[z]at hl;cases hl
   .exact⟨L',a,by rw[z,List.concat_eq_append]⟩
  have na:a∉L':=λz=>(OG.mp hF.1).2.2 a z a (Oy.mpr rfl) rfl;have ha:=hF.2 a (Oq _ (Oy.mpr rfl));have hn:¬Eqv (L'.map e) (e a).1 (e a).2:=λz=>ha (z.mono (ig λx hx=>UU.mpr ⟨Ot _ hx,λq=>na (by rw[<-q];exact hx)⟩));have hF':VO e L':=⟨(OG.mp hF.1).1,λb hb z=>hF.2 b (Ot _ hb) (z.mono (ig λx hx=>UU.mpr ⟨Ot _ (UU.mp hx).1,(UU.mp hx).2⟩))⟩;have hV':∀b∈L',(e b).1∈V/\(e b).2∈V:=λb hb=>hV b (Ot _ hb);obtain⟨H,ih⟩:=DP nn n L' (by rw[O8,Qd]at hl;lia) hF' hV';have hva:=hV a (Oq _ (Oy.mpr rfl));have em:(L'++[a]).map e=L'.map e++[e a]:=by rw[PH];rfl
  have el:ll ((L'++[a]).map e)=gi (ll (L'.map e)) (e a).1 (e a).2:=by rw[em];unfold ll mS;rw[Tp];rfl
  rw[el,em];refine⟨H.step (nn _ hva.1) (nn _ hva.2),?_⟩;generalize ll (L'.map e)=f at H ih;have ne:f (e a).1≠f (e a).2:=λz=>hn ((H.iff _ _).mp z);have Y6:∀v,f (f v)=f v:=λv=>(H.iff _ _).mpr (H.own v).symm;have jH:∀v∈V,f v∈V:=λv hv=>by
   rcases(H.own v).ends with z|⟨_,x,hx,q⟩
   .rw[<-z];exact hv
   .obtain⟨b,hb,rfl⟩:=O2.mp hx;rcases q with q|q<;>rw[q]
    .exact(hV' b hb).1
    .exact(hV' b hb).2
  have less:=yL (p:=λv=>decide (f v=v)) (q:=λv=>decide (gi f (e a).1 (e a).2 v=v)) (V:=V) (λv hv k=>by
    have k:=of_decide_eq_true k;refine Uc ?_;unfold gi at k;by_cases c:f (e a).1<f (e a).2
    .simp only[S9 c]at k;split at k
     .rw[<-k,Y6]
     .exact k
    .simp only[Tr c]at k;split at k
     .rw[<-k,Y6]
     .exact k) (by
    by_cases c:f (e a).1<f (e a).2
    .refine⟨f (e a).2,jH _ hva.2,Uc (Y6 _),UJ λk=>?_⟩;unfold gi at k;simp only[S9 c]at k;rw[S9 (Y6 _)]at k;exact ne k
    .refine⟨f (e a).1,jH _ hva.1,Uc (Y6 _),UJ λk=>?_⟩;unfold gi at k;simp only[Tr c]at k;rw[S9 (Y6 _)]at k;exact ne k.symm)
  rw[O8,Qd];lia
def MP{V:Ql Int}(nn:∀v∈V,0<=v)(hF:VO e L)(hV:∀a∈L,(e a).1∈V/\(e a).2∈V):L.length<=V.length:=by have:=(DP nn L.length L rfl hF hV).2;lia
structure Z5(M:Nat)(e:Int->Eg)(w:Int->Int)(nt:Nat)(ws:List Eg)(S:PS)(F:List Int):Prop where
 ok:Ok M e w nt S
 zbN:US M e w nt ws S
 fst:VO e S.tk
 nd:F.Nodup
 sub:∀a∈F,a∈S.tk
 Wz:∀a∈F,0<=a/\a<(nt:Int)
 join:∀x∈ws,Eqv (F.map e) x.1 x.2
 min:∀a∈F,∃x∈ws,¬Eqv ((wo F a).map e) x.1 x.2
def Z5.mk' (hE:dz M e nt)(h0:∀a,0<=a->a<(nt:Int)->0<=w a)(hP:∀x∈ws,(0<=x.1/\x.1<(M:Int))/\0<=x.2/\x.2<(M:Int))(hw:∀w∈ws,Eqv (gz e nt) w.1 w.2) (hn:ms M e w nt ws (PS.new M)<n) (nd:F.Nodup)(sub:∀a∈F,a∈(eL e w nt ws n (PS.new M)).tk)(join:∀x∈ws,Eqv (F.map e) x.1 x.2)(min:∀a∈F,∃x∈ws,¬Eqv ((wo F a).map e) x.1 x.2):Z5 M e w nt ws (eL e w nt ws n (PS.new M)) F:=by have r0:Run M e w nt ws (PS.new M):=Run.new h0;have d0:US M e w nt ws (PS.new M):=US.new h0;have r:=(oe hE hw n _ r0 hn).2;have d:=US.run hE hP hw n _ r0 d0;have f:=VO.run hE hP hw n _ r0 d0 (VO.nil e);exact⟨r.ok,d,f,nd,sub,λa ha=>r.ok.Xj a (sub a ha),join,min⟩
def FW{S:PS}(d:US M e w nt ws S)(hO:Ok M e w nt S)(hP:∀x∈ws,(0<=x.1/\x.1<(M:Int))/\0<=x.2/\x.2<(M:Int))(hn:aR S ws=[]):∀x∈ws,Eqv (S.tk.map e) x.1 x.2:=λx hx=>by have q:=zb1.mp hn x hx;obtain⟨⟨x0,x1⟩,y0,y1⟩:=hP x hx;have px:=hO.VT _ x0 x1;refine(d.con _ px.1 px.2 _ ((hO.cur _ x0 x1 _).mpr ⟨x0,x1,rfl⟩) _ ((hO.cur _ x0 x1 _).mpr ⟨y0,y1,q.symm⟩)).mono λy hy=>(Pf.mp hy).1
def ox (hE:dz M e nt) (hL:∀a∈L,0<=a/\a<(nt:Int)):fE e ws L=Qt↔∀x∈ws,Eqv (L.map e) x.1 x.2:=by
 have k:∀d∈L.map e,0<=d.1/\0<=d.2:=λd hd=>by obtain⟨a,ha,rfl⟩:=O2.mp hd;have:=hE a (hL a ha).1 (hL a ha).2;lia
 unfold fE;rw[PF];constructor
 .intro h x hx;exact((xh k).iff _ _).mp (of_decide_eq_true (h x hx))
 .intro h x hx;exact Uc (((xh k).iff _ _).mpr (h x hx))
def tJ (J:V5 M ts wl ws):Z5 M (ao ts) (aJ wl) ts.length ws (cy M ts wl ws) (fK M ts wl ws):=by
 have hE:=jg J.WJ;have h0:∀a,0<=a->a<(ts.length:Int)->0<=aJ wl a:=λa a0 a1=>(J.wt a a0 a1).1;have hP:∀x∈ws,(0<=x.1/\x.1<(M:Int))/\0<=x.2/\x.2<(M:Int):=J.X7;have hm:ms M (ao ts) (aJ wl) ts.length ws (PS.new M)<200:=by have:=(sR (e:=ao ts) (w:=aJ wl) (nt:=ts.length) (ws:=ws) J.Vs.1).1;lia
 have r0:Run M (ao ts) (aJ wl) ts.length ws (PS.new M):=Run.new h0;obtain⟨en,r⟩:=oe hE J.all 200 _ r0 hm;have d:=US.run hE hP J.all 200 _ r0 (US.new h0);have f:=VO.run hE hP J.all 200 _ r0 (US.new h0) (VO.nil (ao ts));have tk:=FW d r.ok hP en;have eS:fF (ao ts) ws=gj (fE (ao ts) ws):=rfl;let YY:=(cy M ts wl ws).tk
 let F0:=YY.reverse.foldl (gj (fE (ao ts) ws)) YY
 have eF:fK M ts wl ws=U6 F0:=rfl;have pm:∀x,x∈U6 F0↔x∈F0:=λx=>(Xk F0).mem_iff;have rT:∀x∈YY,0<=x/\x<(ts.length:Int):=r.ok.Xj;have sF:∀x∈F0,x∈YY:=λx hx=>rV hx;have rF:∀x∈F0,0<=x/\x<(ts.length:Int):=λx hx=>rT x (sF x hx);rw[eF];refine Z5.mk' hE h0 hP J.all hm ((Xk F0).nodup_iff.mpr (AW f.1)) (λa ha=>sF a ((pm a).mp ha)) (λx hx=>?_) λa ha=>?_
 .have:=(ox hE rF).mp (AU ((ox hE rT).mpr tk)) x hx;exact this.mono (ig λy hy=>(pm y).mpr hy)
 .have ha:=(pm a).mp ha;have k:=AX (ok:=fE (ao ts) ws) (P:=λx=>0<=x/\x<(ts.length:Int)) (λK L hL hK h=>(ox hE hL).mpr λx hx=>((ox hE λy hy=>hL y (hK y hy)).mp h x hx).mono (ig hK)) (as:=YY.reverse) (K:=YY) rT (List.mem_reverse.mpr (sF a ha)) ha;refine OZ λn=>?_;have rW:∀x∈wo F0 a,0<=x/\x<(ts.length:Int):=λx hx=>rF x (UU.mp hx).1;have:fE (ao ts) ws (wo F0 a)=Qt:=(ox hE rW).mpr λx hx=>OZ λq=>n ⟨x,hx,λz=>q (z.mono (ig λy hy=>UU.mpr ⟨(pm y).mp (UU.mp hy).1,(UU.mp hy).2⟩))⟩;rw[show fE (ao ts) ws (wo F0 a)=Qf from k]at this;cases this
def Cj(s0 s1:Sl):∀(n a b:Nat),b<n->eI sU oE n [s0,s1,.val (.int (a:Int)),.val (.int (b:Int))]=Qs (.nx [s0,s1,.val (.int (Px a b:Int)),.val (.int 0)])
 |0,a,b,h=>by lia
 |n+1,a,b,h=>by
  have ec:sU [s0,s1,.val (.int (a:Int)),.val (.int (b:Int))]=Qs (decide ((0:Int)<(b:Int))):=o5 (fa:=af 3) (fb:=dC (.int 0)) (a:=(b:Int)) (b:=0) rfl rfl;unfold eI;rw[ec];by_cases hb:b=0
  .subst hb;simp
  .rw[Uc (by lia)];have eb:oE [s0,s1,.val (.int (a:Int)),.val (.int (b:Int))]=Qs (.nx [s0,s1,.val (.int (b:Int)),.val (.int ((a % b:Nat):Int))]):=by
    unfold oE i7;have:(ae (af 3) (ae (d2 qR (af 2) (af 3)) ai)) [s0,s1,.val (.int (a:Int)),.val (.int (b:Int))]=Qs [.cl (.int (b:Int)),.cl (.int ((a:Int).fmod (b:Int)))]:=by simp[ae,ai,d2,af,kI,jS,Ev.d,hb]
    rw[this,D3 a b (by lia)];rfl
   simp only[Oz,if_true,eb];rw[Cj s0 s1 n b (a % b) (by have:=Nat.mod_lt a (show 0<b by lia);lia),SS b,<-VB,SS b]
def LC(s m:Nat)(h0:0<m)(h:m<DL.Uj):nE [.int (s:Int),.int (m:Int)]=Qs (.cl (pD (aV (s:Int) (m:Int)))):=by
 have g0:0<Px s m:=Qe _ h0;have g1:Px s m<=m:=Rw _ h0;have gs:sm (Px s m:Int)=Qt:=Ax (Pa g1 h);let A:Sl:=.val (.int (s:Int))
 let B:Sl:=.val (.int (m:Int))
 let t0:Th:=[A,B,.no,.no]
 have c1:(ag ku (ae (af 0) ai)) t0=Qs (.cl (.int (s:Int))):=by
  have h:¬((s:Int)<0):=by lia
  simp[ag,ae,ai,af,ku,Ev.d,t0,A,h]
 have E1:=iB (i:=2) c1 (by simp[t0]);let t1:Th:=[A,B,.val (.int (s:Int)),.no]
 have E2:=iB (i:=3) (rfl:af 1 t1=Qs (.cl (.int (m:Int)))) (by simp[t1]);let t2:Th:=[A,B,.val (.int (s:Int)),.val (.int (m:Int))]
 have E3:(iY (lH 3) sU oE) t2=Qs (.nx [A,B,.val (.int (Px s m:Int)),.val (.int 0)]):=Cj A B (((m:Int).natAbs)+1) s m (by lia);let t3:Th:=[A,B,.val (.int (Px s m:Int)),.val (.int 0)]
 have d1:=ph (fa:=af 0) (fb:=af 2) (t:=t3) (a:=(s:Int)) (b:=(Px s m:Int)) rfl rfl (by lia) gs;have Xu:=ph (fa:=af 1) (fb:=af 2) (t:=t3) (a:=(m:Int)) (b:=(Px s m:Int)) rfl rfl (by lia) gs;rw[D6]at d1 Xu;have a3:=(eJ (k:=cG) d1 Xu).trans rfl;show(x6 t0).bind dg=_;refine Uj ((aL E1).trans ((aL E2).trans ((aL E3).trans (kc a3))))
def LD (a0:0<=a)(b0:0<b)(h:b<(DL.Uj:Int)):nE [.int a,.int b]=Qs (.cl (pD (aV a b))):=by obtain⟨A,rfl⟩:=Pd a0;obtain⟨B,rfl⟩:=Pd (Pj b0);exact LC A B (by lia) (by lia)
def Bd.run{M W:Nat}{e:Int->Eg}{w:Int->Int}{nt:Nat}{ws:Ql Eg}(hE:dz M e nt)(hw:∀a,0<=a->a<(nt:Int)->0<=w a/\w a<=(W:Int))(hq:∀w∈ws,Eqv (gz e nt) w.1 w.2):∀(n k:Nat){S:PS},Bd M W k S->Run M e w nt ws S->Bd M W (k+n) (eL e w nt ws n S)
 |0,k,S,h,_=>h
 |n+1,k,S,h,r=>by
  unfold eL;by_cases z:aR S ws=[]
  .rw[S9 z];exact h.up (by lia)
  .rw[Tr z];have:=Bd.run hE hw hq n (k+1) (h.step r hE hw hq z) (r.step hE hq z).1;rw[show k+(n+1)=k+1+n by lia];exact this
structure ziM(M:Nat)(ts:List (Int×Int))(wl:List Int)(ws:List Eg):Prop where
 bd:Bd M (10^20) 200 (cy M ts wl ws)
 ok:Ok M (ao ts) (aJ wl) ts.length (cy M ts wl ws)
 Vs:(cy M ts wl ws).tk.length<=36
def V5.end (J:V5 M ts wl ws):ziM M ts wl ws:=by have hE:=jg J.WJ;have r0:Run M (ao ts) (aJ wl) ts.length ws (PS.new M):=Run.new λa a0 a1=>(J.wt a a0 a1).1;have m0:=(sR (M:=M) (e:=ao ts) (w:=aJ wl) (nt:=ts.length) (ws:=ws) J.Vs.1);obtain⟨_,re⟩:=oe hE J.all 200 (PS.new M) r0 (by lia);have b:=Bd.run hE J.wt J.all 200 0 (Bd.new (M:=M) (W:=10^20)) r0;rw[QM]at b;exact⟨b,re.ok,by have:(cy M ts wl ws).tk.length+mu M (cy M ts wl ws)<=mu M (PS.new M):=re.Vs;lia⟩
def DV (a0:0<=a)(a1:a<(DL.Uj:Int))(b0:0<b)(b1:b<(DL.Uj:Int)):(0<=(aV a b).1/\(aV a b).1<(DL.Uj:Int))/\0<(aV a b).2/\(aV a b).2<(DL.Uj:Int):=by
 have g0:0<Px a.toNat b.toNat:=Qe _ (by lia);have g1:Px a.toNat b.toNat<=b.toNat:=Rw _ (by lia);have q1:=Sz a.toNat (Px a.toNat b.toNat);have q2:=Sz b.toNat (Px a.toNat b.toNat);have q3:=VC g1 g0;unfold aV;refine⟨⟨?_,?_⟩,?_,?_⟩
 .exact S8 _
 .show((a.toNat/Px a.toNat b.toNat:Nat):Int)<_;lia
 .show(0:Int)<((b.toNat/Px a.toNat b.toNat:Nat):Int);lia
 .show((b.toNat/Px a.toNat b.toNat:Nat):Int)<_;lia
def MT{A C E:Nat}(hB:0<B)(hE:0<E)(h:A*E=C*B):A/Px A B=C/Px C E/\B/Px A B=E/Px C E:=by
 have a1:A/Px A B=A*E/Px (A*E) (B*E):=by rw[Rj,QR _ _ hE]
 have a2:B/Px A B=B*E/Px (A*E) (B*E):=by rw[Rj,QR _ _ hE]
 have c1:C/Px C E=C*B/Px (C*B) (E*B):=by rw[Rj,QR _ _ hB]
 have c2:E/Px C E=E*B/Px (C*B) (E*B):=by rw[Rj,QR _ _ hB]
 rw[a1,a2,c1,c2,h,SF B E];exact⟨rfl,rfl⟩
def yy{c d:Int}(a0:0<=a)(b0:0<b)(c0:0<=c)(d0:0<d)(h:a*d=c*b):aV a b=aV c d:=by obtain⟨A,rfl⟩:=Pd a0;obtain⟨B,rfl⟩:=Pd (Pj b0);obtain⟨C,rfl⟩:=Pd c0;obtain⟨E,rfl⟩:=Pd (Pj d0);have k:=MT (A:=A) (B:=B) (C:=C) (E:=E) (by lia) (by lia) (by exact_mod_cast h);unfold aV;simp only[Qc];rw[k.1,k.2]
def yB (a0:0<=a)(b0:0<b):(aV a b).1*b=a*(aV a b).2:=by
 obtain⟨A,rfl⟩:=Pd a0;obtain⟨B,rfl⟩:=Pd (Pj b0);have g0:0<Px A B:=Qe _ (by lia);have k:A/Px A B*B=A*(B/Px A B):=by
  obtain⟨x,hx⟩:=Nat.gcd_dvd_left A B;obtain⟨y,hy⟩:=Nat.gcd_dvd_right A B;generalize Px A B=g at*
  rw[show A/g=x by rw[hx];exact Sd _ g0,show B/g=y by rw[hy];exact Sd _ g0,hx,hy];rw[Nat.mul_left_comm,<-UE]
 unfold aV;simp only[Qc];exact_mod_cast k
def yz (b0:0<b):0<=(aV a b).1/\0<(aV a b).2:=by have g0:0<Px a.toNat b.toNat:=Qe _ (by lia);have q3:=VC (Rw a.toNat (show 0<b.toNat by lia)) g0;exact⟨S8 _,by show(0:Int)<((b.toNat/Px a.toNat b.toNat:Nat):Int);lia⟩
def MU{c P:Int}(a0:0<=a)(c0:0<=c)(p0:0<P):aV ((aV a P).1*(aV c P).2+(aV c P).1*(aV a P).2) ((aV a P).2*(aV c P).2)=aV (a+c) P:=by
 have ha:=yB a0 p0;have hc:=yB c0 p0;obtain⟨x0,y0⟩:=yz (a:=a) p0;obtain⟨z0,w0⟩:=yz (a:=c) p0;generalize aV a P=x at*
 generalize aV c P=y at*
 obtain⟨x1,x2⟩:=x;obtain⟨y1,y2⟩:=y;simp only at*
 refine yy (Ug (Q5 x0 (Pj w0)) (Q5 z0 (Pj y0))) (VD y0 w0) (by lia) p0 ?_;have e1:x1*y2*P=a*x2*y2:=by rw[RP,ha]
 have e2:y1*x2*P=c*x2*y2:=by rw[RP,hc,RP]
 rw[T7,e1,e2,T7,Rb,Rb]
def qv(P:Int)(x:Int×Int):Int:=x.1*P/x.2
def vT{P:Int}(a0:0<=a)(p0:0<P):qv P (aV a P)=a:=by have h:=yB a0 p0;have:=(yz (a:=a) p0).2;unfold qv;rw[h];exact Int.mul_ediv_cancel _ (by lia)
def qB:Nat:=2^2000
def AZ:qB<DL.Uj:=by unfold DL.Uj qB;decide+kernel
def Ik:2^200<qB:=by unfold qB;decide+kernel
def Ij (a0:0<a)(a1:a<(qB:Int))(b0:0<b)(b1:b<(qB:Int)):a*b<(DL.Uj:Int):=by
 obtain⟨A,rfl⟩:=Pd (Pj a0);obtain⟨B,rfl⟩:=Pd (Pj b0);have:=Nat.mul_lt_mul'' (show A<qB by lia) (show B<qB by lia);have bb:qB*qB<DL.Uj:=by unfold DL.Uj qB;decide+kernel
 exact_mod_cast SH this bb
def Jo{x y:Int×Int}(x1:0<=x.1/\x.1<(DL.Uj:Int))(x2:0<x.2/\x.2<(qB:Int))(y1:0<=y.1/\y.1<(DL.Uj:Int))(y2:0<y.2/\y.2<(qB:Int)):kP [pD x,pD y]=Qs (.cl (pD (aV (x.1*y.2+y.1*x.2) (x.2*y.2)))):=by
 have pr:=Ij x2.1 x2.2 y2.1 y2.2;have big:=AZ;have s1:sm x.1=Qt:=mq (OL _) x1.1 x1.2;have s2:sm x.2=Qt:=mq (OL _) (Pj x2.1) (by lia);have s3:sm y.1=Qt:=mq (OL _) y1.1 y1.2;have s4:sm y.2=Qt:=mq (OL _) (Pj y2.1) (by lia);let t:Th:=[.val (pD x),.val (pD y)]
 have a0:(d2 az aq aQ) t=Qs (.cl (.int x.1)):=rfl;have a1:(d2 az aq bG) t=Qs (.cl (.int x.2)):=rfl;have b0:(d2 az aA aQ) t=Qs (.cl (.int y.1)):=rfl;have b1:(d2 az aA bG) t=Qs (.cl (.int y.2)):=rfl;show(xZ t).bind dg=_;refine Uj (kc ((eJ (k:=aO nE) (jW (lh a0 b1 s1 s4) (lh b0 a1 s3 s2)) (lh a1 b1 s2 s4)).trans (kK (LD ?_ (VD x2.1 y2.1) pr) rfl)));exact Ug (Q5 x1.1 (Pj y2.1)) (Q5 y1.1 (Pj x2.1))
def Ck{P:Int}(p0:0<P)(p1:P<(qB:Int))(s0:Sl):∀(ms:Ql (Ql Int×(Int×Int))) (a:Int) (s2 s3:Sl),0<=a->(∀x∈ms,∃w,0<=w/\x.2=aV w P)->a+(ms.map λx=>qv P x.2).sum<(DL.Uj:Int)->∃u2 u3,bj (ck 2 jl) (aN 1 (ag (aO kP) (ae aA fQ))) (ms.map cJ) [s0,.val (pD (aV a P)),s2,s3]=Qs (.nx [s0,.val (pD (aV (a+(ms.map λx=>qv P x.2).sum) P)),u2,u3])
 |[],a,s2,s3,_,_,_=>⟨s2,s3,by simp only[Rq,List.sum_nil,QY];rfl⟩
 |x::ms,a,s2,s3,a0,hm,hb=>by
  obtain⟨w,w0,hx⟩:=hm x (Ox ..);have ex:qv P x.2=w:=by rw[hx];exact vT w0 p0
  rw[OF,O5,ex]at hb;have sp:0<=(ms.map λx=>qv P x.2).sum:=by
   have:∀l:Ql (Ql Int×(Int×Int)),(∀x∈l,∃w,0<=w/\x.2=aV w P)->0<=(l.map λx=>qv P x.2).sum:=by
    intro l
    induction l with
    |nil=>intro _;exact Pz _
    |cons y l ih=>
     intro h;obtain⟨v,v0,hy⟩:=h y (Ox ..);have:=ih λz hz=>h z (Ov _ hz);have ey:qv P y.2=v:=by rw[hy];exact vT v0 p0
     rw[OF,O5,ey];lia
   exact this ms λy hy=>hm y (Ov _ hy)
  obtain⟨u2,u3,e⟩:=Ck p0 p1 s0 ms (a+w) (.val (dD x.1)) (.val (pD x.2)) (by lia) (λy hy=>hm y (Ov _ hy)) (by lia);refine⟨u2,u3,?_⟩;rw[show a+((x::ms).map λx=>qv P x.2).sum=a+w+(ms.map λx=>qv P x.2).sum by rw[OF,O5,ex];lia];refine Eq.trans ?_ e;have pb:P<(DL.Uj:Int):=by have:=AZ;lia
  have fa:=DV (b:=P) a0 (by lia) p0 pb;have fw:=DV (b:=P) w0 (by lia) p0 pb;have le2:∀c:Int,(aV c P).2<=P:=λc=>by have:=Sz P.toNat (Px c.toNat P.toNat);show((P.toNat/Px c.toNat P.toNat:Nat):Int)<=P;lia
  let t:Th:=[s0,.val (pD (aV a P)),.val (dD x.1),.val (pD x.2)]
  have c1:=(eJ (k:=aO kP) (rfl:af 1 t=Qs (.cl (pD (aV a P)))) (rfl:af 3 t=Qs (.cl (pD x.2)))).trans (kK (d:=pD (aV (a+w) P)) (by
   show kP [pD (aV a P),pD x.2]=_;rw[hx,Jo fa.1 ⟨fa.2.1,P6 (le2 a) p1⟩ fw.1 ⟨fw.2.1,P6 (le2 w) p1⟩,MU a0 w0 p0]) rfl)
  exact iX (t1:=t) rfl (iB (i:=1) c1 (by simp[t]))
def FX{P:Int}(p0:0<P)(p1:P<(qB:Int)){ms:Ql (Ql Int×(Int×Int))}(hm:∀x∈ms,∃w,0<=w/\x.2=aV w P)(hb:(ms.map λx=>qv P x.2).sum<(DL.Uj:Int)):nD [.lst (ms.map cJ)]=Qs (.cl (pD (aV ((ms.map λx=>qv P x.2).sum) P))):=by
 let A:Sl:=.val (.lst (ms.map cJ))
 let t0:Th:=[A,.no,.no,.no]
 have f0:aV 0 P=(0,1):=by have:=yy (a:=0) (b:=P) (c:=0) (d:=1) (Pz _) p0 (Pz _) (by decide) (by simp);rw[this];rfl
 have E1:aN 1 (ag cG (ae aQ (ae bG ai))) t0=Qs (.nx [A,.val (pD (aV 0 P)),.no,.no]):=by rw[f0];rfl
 obtain⟨u2,u3,e⟩:=Ck p0 p1 A ms 0 .no .no (Pz _) hm (by lia);rw[Int.zero_add]at e;show(xW t0).bind dg=_;let t2:Th:=[A,.val (pD (aV ((ms.map λx=>qv P x.2).sum) P)),u2,u3]
 have E3:eR 1 t2=Qs (.rt (.cl (pD (aV ((ms.map λx=>qv P x.2).sum) P)))):=rfl;have E2:d8 (ck 2 jl) aq (aN 1 (ag (aO kP) (ae aA fQ))) [A,.val (pD (aV 0 P)),.no,.no]=Qs (.nx t2):=e;exact Uj ((aL E1).trans ((aL E2).trans E3))
def Az(f:Int->Int):∀n:Nat,bz f n=((av n).map f).sum
 |0=>rfl
 |n+1=>by rw[w5,PH,SA,<-Az f n];show _=_+(f n+0);rw[QY];rfl
def An{f:Int->Int}:∀{l:Ql Int},(∀x∈l,0<=f x)->((l.filter λp=>decide (0<f p)).map f).sum=(l.map f).sum
 |[],_=>rfl
 |x::l,h=>by
  have ih:=An (l:=l) λy hy=>h y (Ov _ hy);have h0:=h x (Ox ..);rw[OF,O5];by_cases z:0<f x
  .rw[Sb (by simpa using z),OF,O5,ih]
  .rw[R9 (by simpa using z),ih];lia
def ID (p:F.Perm G):F.sum=G.sum:=by
 induction p with
 |nil=>rfl
 |cons a _ ih=>rw[O5,O5,ih]
 |swap a b l=>simp only[O5];lia
 |trans _ _ i1 i2=>exact i1.trans i2
def Lk (J:V5 M ts wl ws):(∀x∈gU M ts wl ws,∃w,0<=w/\x.2=aV w (cy M ts wl ws).pa)/\((gU M ts wl ws).map λx=>qv (cy M ts wl ws).pa x.2).sum=bz (cy M ts wl ws).wd (cy M ts wl ws).n:=by
 have E:=J.end;have d0:=(tJ J).zbN.YW;have Wx:=E.ok.Wx;have pm:(gU M ts wl ws).Perm ((eG (cy M ts wl ws)).map λp=>((cy M ts wl ws).pt p,aV ((cy M ts wl ws).wd p) (cy M ts wl ws).pa)):=Yp _;generalize cy M ts wl ws=S at*
 refine⟨λx hx=>?_,?_⟩
 .obtain⟨p,hp,rfl⟩:=O2.mp (pm.mem_iff.mp hx);obtain⟨q0,q1⟩:=dJ (Pf.mp hp).1;exact⟨_,d0 p q0 q1,rfl⟩
 .rw[ID (pm.map _),O9,Az];rw[<-An (f:=S.wd) (l:=av S.n) λx hx=>d0 x (dJ hx).1 (dJ hx).2];refine congrArg List.sum (Pb λp hp=>?_);obtain⟨q0,q1⟩:=dJ (Pf.mp hp).1;exact vT (d0 p q0 q1) Wx
def Mf (J:V5 M ts wl ws):nD [.lst ((gU M ts wl ws).map cJ)]=Qs (.cl (pD (aV (bz (cy M ts wl ws).wd (cy M ts wl ws).n) (cy M ts wl ws).pa))):=by
 have E:=J.end;obtain⟨h1,h2⟩:=Lk J;have bp:=E.bd.pa;have nn:(cy M ts wl ws).n<=45:=by have:=E.Vs;have:=E.ok.nM;have:=J.Vs.1;lia
 have X0:bz (cy M ts wl ws).wd (cy M ts wl ws).n<(DL.Uj:Int):=by
  have lim:∀(f:Int->Int) (B:Nat) (n:Nat),(∀p,0<=p->p<(n:Int)->f p<=(B:Int))->bz f n<=((n*B:Nat):Int):=by
   intro f B n
   induction n with
   |zero=>intro _;simp[bz]
   |succ n ih=>intro h;have:=ih λp a b=>h p a (by lia);have:=h n (by lia) (by lia);have e:(n+1)*B=n*B+B:=U0 n B;rw[e];show bz f n+f n<=_;lia
  refine P6 (lim (cy M ts wl ws).wd (8^200*10^20) (cy M ts wl ws).n λp a b=>(E.bd.wd p a b).2) (U4.mpr (Pa (Rx _ nn) ?_));unfold DL.Uj;decide+kernel
 rw[<-h2]at X0 ⊢;refine FX E.ok.Wx ?_ h1 X0;exact P6 bp.2 (U4.mpr Ik)
inductive Wk(e:Int->Eg)(s:Int):List Int->Int->Prop
 |nil:Wk e s [] s
 |snoc {L:List Int}{x y a:Int}:Wk e s L x->(e a=(x,y)\/e a=(y,x))->Wk e s (L++[a]) y
def Wk.split{t:Int}(h:Wk e s L t):∀{A B:Ql Int}{a:Int},L=A++a::B->∃x y,Wk e s A x/\(e a=(x,y)\/e a=(y,x)):=by
 induction h with
 |nil=>intro A B a z;cases A<;>cases z
 |@snoc L x y b hw hb ih=>
  intro A B a z;rcases Sv B with k|⟨B',c,k⟩
  .subst k;obtain⟨h1,h2⟩:=TJ z rfl;cases h2;subst h1;exact⟨x,y,hw,hb⟩
  .subst k;have z:L++[b]=(A++a::B')++[c]:=by rw[z];simp
   obtain⟨h1,_⟩:=TJ z rfl;exact ih h1
def Wk.add (h:Wk e s L x)(nd:L.Nodup)(sub:∀b∈L,b∈F)(ha:a∈F)(he:e a=(x,y)\/e a=(y,x)):∃L',Wk e s L' y/\L'.Nodup/\∀b∈L',b∈F:=by
 by_cases z:a∈L
 .obtain⟨A,B,rfl⟩:=List.append_of_mem z;obtain⟨u,v,hw,hb⟩:=h.split rfl;have ndA:A.Nodup:=(OG.mp nd).1;have nA:a∉A:=λk=>(OG.mp nd).2.2 a k a (Ox ..) rfl;have sA:∀b∈A,b∈F:=λb hb=>sub b (Ot _ hb);have go:(y=u)\/(y=v):=by rcases he with p|p<;>rcases hb with q|q<;>rw[p]at q<;>cases q<;>simp
  rcases go with k|k
  .exact⟨A,k▸hw,ndA,sA⟩
  .exact⟨A++[a],k▸hw.snoc hb,OG.mpr ⟨ndA,by simp,λb hb c hc q=>nA (by rw[Oy.mp hc]at q;exact q▸hb)⟩,λb hb=>by
    rcases Ow.mp hb with r|r
    .exact sA b r
    .rw[Oy.mp r];exact ha⟩
 .exact⟨L++[a],h.snoc he,OG.mpr ⟨nd,by simp,λb hb c hc q=>z (by rw[Oy.mp hc]at q;exact q▸hb)⟩,λb hb=>by
   rcases Ow.mp hb with r|r
   .exact sub b r
   .rw[Oy.mp r];exact ha⟩
def Wk.of{t:Int}(h:Eqv (F.map e) s t):∃L,Wk e s L t/\L.Nodup/\∀b∈L,b∈F:=by refine(h.pred (p:=λv=>∃L,Wk e s L v/\L.Nodup/\∀b∈L,b∈F) λx hx=>?_).mp ⟨[],.nil,Pl,λ_ h=>nomatch h⟩;obtain⟨a,ha,rfl⟩:=O2.mp hx;exact⟨λ⟨L,h,nd,sub⟩=>h.add nd sub ha (.inl rfl),λ⟨L,h,nd,sub⟩=>h.add nd sub ha (.inr rfl)⟩
def Jw (p:F.Perm G):F.sum=G.sum:=by
 induction p with
 |nil=>rfl
 |cons a _ ih=>rw[O5,O5,ih]
 |swap a b l=>simp only[O5];lia
 |trans _ _ i1 i2=>exact i1.trans i2
def uS{w:Int->Int}:∀{F:Ql Int},(∀a∈F,0<=w a)->0<=(F.map w).sum
 |[],_=>Pz _
 |a::F,h=>by rw[OF,O5];have:=h a (Ox ..);have:=@uS w F λb hb=>h b (Ov _ hb);lia
def Ao{w:Int->Int}{F:Ql Int}(h0:∀a∈F,0<=w a):∀{L:Ql Int},L.Nodup->(∀a∈L,a∈F)->(L.map w).sum<=(F.map w).sum
 |[],_,_=>uS h0
 |a::L,nd,sub=>by have p:=List.perm_cons_erase (sub a (Ox ..));have nd:=OO.mp nd;have:=@Ao w (F.erase a) (λb hb=>h0 b (List.mem_of_mem_erase hb)) L nd.2 λb hb=>(SM (show b≠a from λz=>nd.1 (by rw[<-z];exact hb))).mpr (sub b (Ov _ hb));have q:=Jw (p.map w);rw[OF,O5]at q ⊢;lia
abbrev BF:=Ql Int×(Int->Int)
def VQ(s:BF)(h t w:Int):BF:=if h∈s.1 then(iC s.1 t,fT s.2 t (if(if t∈s.1 then s.2 t else s.2 h+w)<s.2 h+w then(if t∈s.1 then s.2 t else s.2 h+w) else s.2 h+w)) else s
def fB(e:Int->Eg)(w:Int->Int)(s:BF)(a:Int):BF:=VQ (VQ s (e a).1 (e a).2 (w a)) (e a).2 (e a).1 (w a)
def pS(e:Int->Eg)(w:Int->Int)(nt:Nat)(s:BF):BF:=(av nt).foldl (fB e w) s
def gx(e:Int->Eg)(w:Int->Int)(nt:Nat):Nat->BF->BF
 |0,s=>s
 |n+1,s=>gx e w nt n (pS e w nt s)
def XW(s s':BF):Prop:=∀x∈s.1,x∈s'.1/\s'.2 x<=s.2 x
def XW.refl(s:BF):XW s s:=λx h=>⟨h,Pz _⟩
def XW.trans{a b c:BF}(h:XW a b)(k:XW b c):XW a c:=λx hx=>⟨(k x (h x hx).1).1,QO (k x (h x hx).1).2 (h x hx).2⟩
def za2:x∈iC P p↔x∈P\/x=p:=by
 unfold iC;split
 .rename_i h;exact⟨.inl,λz=>z.elim id λz=>z▸h⟩
 .simp
def rQ(s:BF)(h t w:Int):XW s (VQ s h t w):=by
 unfold VQ;split
 .intro x hx;refine⟨za2.mpr (.inl hx),?_⟩;show fT _ _ _ x<=_;unfold fT;split
  .rename_i z;subst z;rw[S9 hx];split<;>lia
  .exact Pz _
 .exact .refl s
def AM{s:BF}{h t w:Int}(hh:h∈s.1):t∈(VQ s h t w).1/\(VQ s h t w).2 t<=s.2 h+w:=by unfold VQ;rw[S9 hh];refine⟨za2.mpr (.inr rfl),?_⟩;show fT _ _ _ t<=_;unfold fT;rw[S9 rfl];split<;>lia
def AN(e:Int->Eg)(w:Int->Int)(s:BF)(a:Int):XW s (fB e w s a):=(rQ _ _ _ _).trans (rQ _ _ _ _)
def yF(e:Int->Eg)(w:Int->Int):∀(as:Ql Int) (s:BF),XW s (as.foldl (fB e w) s)
 |[],s=>.refl s
 |a::as,s=>(AN e w s a).trans (yF e w as _)
def HM{s:BF}{h t:Int}(hh:h∈s.1)(he:e a=(h,t)\/e a=(t,h)):t∈(fB e w s a).1/\(fB e w s a).2 t<=s.2 h+w a:=by
 unfold fB;rcases he with z|z<;>rw[z]
 .obtain⟨a1,a2⟩:=AM (t:=t) (w:=w a) hh;obtain⟨b1,b2⟩:=rQ (VQ s h t (w a)) t h (w a) t a1;exact⟨b1,QO b2 a2⟩
 .obtain⟨a1,a2⟩:=rQ s t h (w a) h hh;obtain⟨b1,b2⟩:=AM (t:=t) (w:=w a) a1;exact⟨b1,QO b2 (by lia)⟩
def D2{e:Int->Eg}{w:Int->Int}{a h t:Int}(he:e a=(h,t)\/e a=(t,h)):∀{as:Ql Int}{s:BF},h∈s.1->a∈as->t∈(as.foldl (fB e w) s).1/\(as.foldl (fB e w) s).2 t<=s.2 h+w a
 |[],s,_,k=>nomatch k
 |b::as,s,hh,k=>by
  rcases OC.mp k with z|z
  .subst z;obtain⟨a1,a2⟩:=HM (w:=w) hh he;obtain⟨b1,b2⟩:=yF e w as (fB e w s a) t a1;exact⟨b1,QO b2 a2⟩
  .obtain⟨a1,a2⟩:=AN e w s b h hh;obtain⟨b1,b2⟩:=D2 he (as:=as) (s:=fB e w s b) a1 z;exact⟨b1,QO b2 (by lia)⟩
def WG(e:Int->Eg)(w:Int->Int)(nt:Nat)(s0:Int)(j:Nat)(s:BF):Prop:=∀L x,Wk e s0 L x->L.length<=j->(∀a∈L,0<=a/\a<(nt:Int))->x∈s.1/\s.2 x<=(L.map w).sum
def WG.turn{s:BF}(h:WG e w nt s0 j s):WG e w nt s0 (j+1) (pS e w nt s):=λL x hw hl hr=>by
 cases hw with
 |nil=>obtain⟨a1,a2⟩:=h [] s0 .nil (QD _) (λ_ h=>nomatch h);obtain⟨b1,b2⟩:=yF e w (av nt) s s0 a1;exact⟨b1,QO b2 a2⟩
 |@snoc L x' y a hw he=>rw[O8,Qd]at hl;obtain⟨a1,a2⟩:=h L x' hw (by lia) λb hb=>hr b (Ot _ hb);have ra:=hr a (Oq _ (Oy.mpr rfl));have Yz:e a=(x',x)\/e a=(x,x'):=he;obtain⟨b1,b2⟩:=D2 (e:=e) (w:=w) Yz (as:=av nt) (s:=s) a1 (gI ra.1 ra.2);refine⟨b1,?_⟩;have b2:(pS e w nt s).2 x<=s.2 x'+w a:=b2;rw[PH,SA];show _<=_+(w a+0);lia
def WG.all{e:Int->Eg}{w:Int->Int}{nt:Nat}{s0:Int}:∀{n j:Nat}{s:BF},WG e w nt s0 j s->WG e w nt s0 (j+n) (gx e w nt n s)
 |0,j,s,h=>h
 |n+1,j,s,h=>by have:=WG.all (n:=n) h.turn;rw[show j+1+n=j+(n+1) by lia]at this;exact this
structure Vg(M:Nat)(e:Int->Eg)(w:Int->Int)(nt:Nat)(s0:Int)(s:BF):Prop where
 nd:s.1.Nodup
 way:∀x∈s.1,(0<=x/\x<(M:Int))/\∃L:List Int,(∀a∈L,0<=a/\a<(nt:Int))/\Eqv (L.map e) s0 x/\(L.map w).sum=s.2 x
def Vg.VQ{M:Nat}{e:Int->Eg}{w:Int->Int}{nt:Nat}{s0:Int}{s:BF}(hs:Vg M e w nt s0 s){a h t:Int}(a0:0<=a)(a1:a<(nt:Int))(ht:0<=t/\t<(M:Int))(he:e a=(h,t)\/e a=(t,h)):Vg M e w nt s0 (KX.VQ s h t (w a)):=by
 unfold KX.VQ;by_cases hh:h∈s.1
 .rw[S9 hh];refine⟨?_,λx hx=>?_⟩
  .show(iC s.1 t).Nodup;unfold iC;split
   .exact hs.nd
   .rename_i z;exact OG.mpr ⟨hs.nd,by simp,λb hb c hc q=>z (by rw[Oy.mp hc]at q;exact q▸hb)⟩
  .have hx:x∈s.1\/x=t:=za2.mp hx;show _/\∃L:Ql Int,_/\_/\_=fT _ _ _ x;unfold fT;by_cases z:x=t
   .subst z;rw[S9 rfl];refine⟨ht,?_⟩;have new:∃L:Ql Int,(∀a∈L,0<=a/\a<(nt:Int))/\Eqv (L.map e) s0 x/\(L.map w).sum=s.2 h+w a:=by
     obtain⟨_,L,l1,l2,l3⟩:=hs.way h hh;refine⟨L++[a],λb hb=>?_,?_,?_⟩
     .rcases Ow.mp hb with k|k
      .exact l1 b k
      .rw[Oy.mp k];exact⟨a0,a1⟩
     .refine(l2.mono λd hd=>by rw[PH];exact Ot _ hd).trans ?_;have:Eqv ((L++[a]).map e) (e a).1 (e a).2:=nY (Oq _ (Oy.mpr rfl));rcases he with k|k<;>rw[k]at this
      .exact this
      .exact this.symm
     .rw[PH,SA,l3];show _+(w a+0)=_;lia
    by_cases k:x∈s.1
    .rw[S9 k];split
     .exact(hs.way x k).2
     .exact new
    .rw[Tr k,Tr (Ta _)];exact new
   .rw[Tr z];exact hs.way x (hx.resolve_right z)
 .rw[Tr hh];exact hs
def Vg.fold{M:Nat}{e:Int->Eg}{w:Int->Int}{nt:Nat}{s0:Int}(hE:dz M e nt):∀{as:Ql Int}{s:BF},(∀a∈as,0<=a/\a<(nt:Int))->Vg M e w nt s0 s->Vg M e w nt s0 (as.foldl (fB e w) s)
 |[],s,_,h=>h
 |a::as,s,k,h=>by obtain⟨a0,a1⟩:=k a (Ox ..);obtain⟨x,y⟩:=hE a a0 a1;exact Vg.fold (as:=as) hE (λb hb=>k b (Ov _ hb)) ((h.VQ a0 a1 y (.inl rfl)).VQ a0 a1 x (.inr rfl))
def Vg.all{M:Nat}{e:Int->Eg}{w:Int->Int}{nt:Nat}{s0:Int}(hE:dz M e nt):∀{n:Nat}{s:BF},Vg M e w nt s0 s->Vg M e w nt s0 (gx e w nt n s)
 |0,s,h=>h
 |n+1,s,h=>Vg.all hE (n:=n) (Vg.fold hE (λa ha=>dJ ha) h)
def fO(s:Int):BF:=([s],λ_=>0)
def Vg.new (h:0<=s/\s<(M:Int)):Vg M e w nt s (fO s):=⟨by simp[fO],λx hx=>by
 have:x=s:=Oy.mp hx;subst this;exact⟨h,[],(λ_ h=>nomatch h),Eqv.refl x,rfl⟩⟩
def WG.new:WG e w nt s 0 (fO s):=λL x hw hl _=>by
 cases hw with
 |nil=>exact⟨Oy.mpr rfl,Pz _⟩
 |snoc=>simp at hl
def Kf{S:PS}(h:Z5 M e w nt ws S F)(hE:dz M e nt)(h0:∀a,0<=a->a<(nt:Int)->0<=w a){t:Int}(hs:0<=s/\s<(M:Int))(ht:t∈(gx e w nt M (fO s)).1)(one:ws=[(s,t)]\/ws=[(t,s)]):(F.map w).sum=(gx e w nt M (fO s)).2 t/\bz S.wd S.n=(gx e w nt M (fO s)).2 t*S.pa:=by
 obtain⟨_,L,l1,l2,l3⟩:=(Vg.all hE (n:=M) (Vg.new (e:=e) (w:=w) (nt:=nt) hs)).way t ht;have pr:=WG.all (n:=M) (WG.new (e:=e) (w:=w) (nt:=nt) (s:=s));generalize gx e w nt M (fO s)=B at l3 pr ⊢;obtain⟨a,b,ab,st⟩:∃a b,ws=[(a,b)]/\∀{es:Ql Eg},Eqv es a b↔Eqv es s t:=by
  rcases one with z|z
  .exact⟨s,t,z,Iff.rfl⟩
  .exact⟨t,s,z,⟨.symm,.symm⟩⟩
 have jn:Eqv (F.map e) a b:=h.join (a,b) (by rw[ab];exact Oy.mpr rfl);have mn:∀c∈F,¬Eqv ((wo F c).map e) a b:=λc hc=>by obtain⟨x,hx,k⟩:=h.min c hc;rw[ab]at hx;rw[Oy.mp hx]at k;exact k
 have X0:=Kd h.zbN h.ok hE h.fst (λx hx=>by rw[ab]at hx;exact Oy.mp hx) h.nd h.sub jn mn;have low:=Ke h.zbN h.ok hE l1 (λx hx=>by rw[ab]at hx;rw[Oy.mp hx];exact st.mpr l2);obtain⟨W,hW,nd,sub⟩:=Wk.of (st.mp jn);have fl:F.length<=M:=by
  have q:=j5 h.nd h.sub;have:=MP (V:=av M) (λv hv=>(dJ hv).1) h.fst λc hc=>by obtain⟨c0,c1⟩:=h.ok.Xj c hc;obtain⟨x,y⟩:=hE c c0 c1;exact⟨gI x.1 x.2,gI y.1 y.2⟩
  rw[show(av M).length=M by unfold av;simp]at this;lia
 have wl:=j5 nd sub;obtain⟨_,up⟩:=pr W t hW (by lia) λc hc=>h.Wz c (sub c hc);have us:=Ao (w:=w) (λc hc=>h0 c (h.Wz c hc).1 (h.Wz c hc).2) nd sub;rw[l3,<-X0]at low;have p0:=h.ok.Wx;have ge:(F.map w).sum<=B.2 t:=Int.le_of_mul_le_mul_right low p0;have e1:(F.map w).sum=B.2 t:=by lia
 exact⟨e1,by rw[<-X0,e1]⟩
def Mx{f1 f2:DE}{V:Int->Int}(h1:f1 t=Qs (.cl (.int p)))(h2:f2 t=Qs r2)(e2:r2.d=dV P V):aC (d2 (oR Qf) f1 f2) t=Qs (decide (p∈P)):=by
 unfold aC;rw[cP h1 h2];unfold oR;rw[e2];show(match D.bl (gV (P.map Sum.inl) (Sum.inl p)) with
  |.bl b=>Qs b
  |_=>Qn)=_
 rw[xQ]
def Vg.len{s:BF}(h:Vg M e w nt s0 s):s.1.length<=M:=by
 have:=j5 h.nd (C:=av M) λx hx=>gI (h.way x hx).1.1 (h.way x hx).1.2
 rwa [fG]at this
def Ar{i:Int}(i0:0<=i)(i1:i<(wl.length:Int)){s:BF}(hl:s.1.length<10000)(h t:Int)(W S s4 s6 s9:Sl):∃u9,zv [W,.val (iL wl),S,.dp (dV s.1 s.2),s4,.val (.int i),s6,.val (.int h),.val (.int t),s9]=Qs (.nx [W,.val (iL wl),S,.dp (dV (VQ s h t (aJ wl i)).1 (VQ s h t (aJ wl i)).2),s4,.val (.int i),s6,.val (.int h),.val (.int t),u9]):=by
 let A:Sl:=.val (iL wl)
 let t0:Th:=[W,A,S,.dp (dV s.1 s.2),s4,.val (.int i),s6,.val (.int h),.val (.int t),s9]
 have c:=Mx (t:=t0) (f1:=af 7) (f2:=af 3) (p:=h) (r2:=.tm (dV s.1 s.2)) rfl rfl rfl;unfold VQ;by_cases hh:h∈s.1
 .rw[S9 hh];let g:=s.2 h+aJ wl i
  let t1:Th:=[W,A,S,.dp (dV s.1 s.2),s4,.val (.int i),s6,.val (.int h),.val (.int t),.val (.int g)]
  have g1:=El (t:=t0) (fa:=af 3) (fb:=af 7) (ra:=.tm (dV s.1 s.2)) (rb:=.cl (.int h)) rfl rfl rfl rfl hh;have g2:=mX (fa:=af 1) (fb:=af 5) (t:=t0) (r1:=.cl (iL wl)) (r2:=.cl (.int i)) wl i rfl rfl i0 i1 rfl rfl;have E1:aN 9 _ t0=Qs (.nx t1):=iB (i:=9) (jW g1 g2) (by simp[t0]);have g3:=Ni (t:=t1) (fa:=af 3) (fb:=af 8) (fc:=af 9) (ra:=.tm (dV s.1 s.2)) (rb:=.cl (.int t)) (rc:=.cl (.int g)) (p:=t) (n:=g) rfl rfl rfl rfl rfl rfl;have g4:=(eJ (k:=kx λi j=>if j<i then j else i) (rfl:af 9 t1=Qs (.cl (.int g))) g3).trans rfl;have E2:=Ng (t:=t1) (i:=3) (fk:=af 8) (p:=t) g4 rfl (rfl:af 8 t1=Qs (.cl (.int t))) rfl rfl hl;exact⟨.val (.int g),(iU c (Uc hh)).trans ((aL E1).trans E2)⟩
 .rw[Tr hh];exact⟨s9,(xM c (UJ hh)).trans rfl⟩
def GL{i:Int}(i0:0<=i)(i1:i<(wl.length:Int)){s:BF}(hl:s.1.length<5000)(ts:Ql (Int×Int))(W S s4 s7 s8 s9:Sl):∃u7 u8 u9,uw [W,.val (iL wl),S,.dp (dV s.1 s.2),s4,.val (.int i),.val (pD (ao ts i)),s7,s8,s9]=Qs (.nx [W,.val (iL wl),S,.dp (dV (fB (ao ts) (aJ wl) s i).1 (fB (ao ts) (aJ wl) s i).2),s4,.val (.int i),.val (pD (ao ts i)),u7,u8,u9]):=by
 unfold fB;generalize ao ts i=e;obtain⟨x,y⟩:=e;have l2:(VQ s x y (aJ wl i)).1.length<10000:=by
  unfold VQ;split
  .have:=Ob s.1 y;show(iC s.1 y).length<_;lia
  .lia
 obtain⟨u9,e1⟩:=Ar i0 i1 (s:=s) (by lia) x y W S s4 (.val (pD (x,y))) s9;obtain⟨v9,e2⟩:=Ar i0 i1 (s:=VQ s x y (aJ wl i)) l2 y x W S s4 (.val (pD (x,y))) u9;refine⟨.val (.int y),.val (.int x),v9,?_⟩;let A:Sl:=.val (iL wl)
 show bj (ck 2 (d5 nN (d5 (cC 8) iW))) zv [pD (x,y),pD (y,x)] [W,A,S,.dp (dV s.1 s.2),s4,.val (.int i),.val (pD (x,y)),s7,s8,s9]=_;exact DZ (t1:=[W,A,S,.dp (dV s.1 s.2),s4,.val (.int i),.val (pD (x,y)),.val (.int x),.val (.int y),s9]) rfl e1 rfl e2
def Ee:∀(ts:Ql (Int×Int)) (i:Nat),cH i (ts.map pD)=(Qa i ts.length).map λ(k:Nat)=>D.tup [.int (k:Int),pD (ts.getD (k-i) (0,0))]
 |[],i=>rfl
 |e::ts,i=>by rw[OF,OX,Rv,OF];show D.tup [.int (i:Int),pD e]::cH (i+1) (ts.map pD)=_;rw[Ee ts (i+1),Nat.sub_self];congr 1;refine Pb λk hk=>?_;have:=(List.mem_range'_1.mp hk).1;rw[show k-i=(k-(i+1))+1 by lia];rfl
def ql(M:Nat)(ts:Ql (Int×Int))(wl:Ql Int)(S s4:Sl)(s:BF)(t:Th):Prop:=∃s5 s6 s7 s8 s9:Sl,t=[.val (wD M ts),.val (iL wl),S,.dp (dV s.1 s.2),s4,s5,s6,s7,s8,s9]
def FO (hM:M<=60) (hw:VX M ts) (YV:wl.length=ts.length){s:BF}(hs:Vg M (ao ts) (aJ wl) ts.length s0 s)(S s4:Sl) (ht:ql M ts wl S s4 s t):∃t',nu t=Qs (.nx t')/\ql M ts wl S s4 (pS (ao ts) (aJ wl) ts.length s) t':=by
 have hE:=jg hw;let F:Nat->BF:=λj=>(av j).foldl (fB (ao ts) (aJ wl)) s
 have sd:∀j,j<=ts.length->Vg M (ao ts) (aJ wl) ts.length s0 (F j):=λj hj=>Vg.fold hE (λa ha=>by have:=dJ ha;lia) hs;obtain⟨t',e,h'⟩:=MY (k:=ck 2 nJ) (b:=uw) (f:=λ(k:Nat)=>D.tup [.int (k:Int),pD (ts.getD (k-0) (0,0))]) (P:=λj t=>ql M ts wl S s4 (F j) t) (n:=ts.length) (λj hj t ht=>by
  obtain⟨s5,s6,s7,s8,s9,rfl⟩:=ht;have:=(sd j (by lia)).len;obtain⟨u7,u8,u9,e⟩:=GL (wl:=wl) (i:=(j:Int)) (by lia) (by lia) (s:=F j) (by lia) ts (.val (wD M ts)) S s4 s7 s8 s9;refine⟨_,_,rfl,e,.val (.int (j:Int)),.val (pD (ao ts (j:Int))),u7,u8,u9,?_⟩;have ef:F (j+1)=fB (ao ts) (aJ wl) (F j) (j:Int):=by show(av (j+1)).foldl _ _=_;rw[B6,Tp];rfl
  rw[ef]) t ht
 refine⟨t',?_,h'⟩;obtain⟨s5,s6,s7,s8,s9,rfl⟩:=ht;have r:nu [.val (wD M ts),.val (iL wl),S,.dp (dV s.1 s.2),s4,s5,s6,s7,s8,s9]=bj (ck 2 nJ) uw (cH 0 (ts.map pD)) [.val (wD M ts),.val (iL wl),S,.dp (dV s.1 s.2),s4,s5,s6,s7,s8,s9]:=rfl;rw[r,Ee,<-QX];exact e
def LJ (hM:M<=60) (hw:VX M ts) (YV:wl.length=ts.length) (s0:0<=s)(s1:s<(M:Int)):qF [wD M ts,iL wl,.int s]=Qs (.dn (dV (gx (ao ts) (aJ wl) ts.length M (fO s)).1 (gx (ao ts) (aJ wl) ts.length M (fO s)).2)):=by
 let W:Sl:=.val (wD M ts)
 let A:Sl:=.val (iL wl)
 let S:Sl:=.val (.int s)
 let t1:Th:=[W,A,S,.dp (dV (fO s).1 (fO s).2),.no,.no,.no,.no,.no,.no]
 have E1:aN 3 (ub aU aQ) [W,A,S,.no,.no,.no,.no,.no,.no,.no]=Qs (.nx t1):=rfl;have loop:∀(n k:Nat) (b:BF) (t:Th),Vg M (ao ts) (aJ wl) ts.length s b->(∃s4,ql M ts wl S s4 b t)->∃t',bj hU nu ((Qa k n).map λ(i:Nat)=>D.int (i:Int)) t=Qs (.nx t')/\∃s4,ql M ts wl S s4 (gx (ao ts) (aJ wl) ts.length n b) t':=by
  intro n
  induction n with
  |zero=>intro k b t _ h;exact⟨t,rfl,h⟩
  |succ n ih=>intro k b t hs h;obtain⟨s4,s5,s6,s7,s8,s9,rfl⟩:=h;obtain⟨t2,e,h2⟩:=FO hM hw YV hs S (.val (.int (k:Int))) (t:=[W,A,S,.dp (dV b.1 b.2),.val (.int (k:Int)),s5,s6,s7,s8,s9]) ⟨_,_,_,_,_,rfl⟩;obtain⟨t3,e3,h3⟩:=ih (k+1) (pS (ao ts) (aJ wl) ts.length b) t2 (Vg.fold (jg hw) (λa ha=>dJ ha) hs) ⟨_,h2⟩;refine⟨t3,?_,h3⟩;rw[Rv,OF];exact(iX rfl e).trans e3
 obtain⟨t',e,s4,s5,s6,s7,s8,s9,rfl⟩:=loop M 0 (fO s) t1 (Vg.new ⟨s0,s1⟩) ⟨_,_,_,_,_,_,rfl⟩;have E2:g6 hU (d2 az aq aQ) nu t1=Qs (.nx [W,A,S,.dp (dV (gx (ao ts) (aJ wl) ts.length M (fO s)).1 (gx (ao ts) (aJ wl) ts.length M (fO s)).2),s4,s5,s6,s7,s8,s9]):=by
  unfold g6;rw[uF (i:=0) (t:=t1) rfl];show(if dk (M:Int) then bj hU nu (dm 0 (M:Int).toNat) t1 else Qn)=_;rw[S9 (by unfold dk;exact Uc (by lia))];have er:dm 0 (M:Int).toNat=(Qa 0 M).map λ(k:Nat)=>D.int (k:Int):=by unfold dm;simp[QX]
  rw[er];exact e
 show(yd [W,A,S,.no,.no,.no,.no,.no,.no,.no]).bind dg=_;exact Uj ((aL E1).trans ((aL E2).trans rfl))
def Ex{ft:DT}{fe:DE}{c:Ql D}:∀(xs:Ql Int) (s:Sl),(∀x∈xs,ft (.val (.int x)::c.map Sl.val)=Qs Qf)->bU bc ft fe (xs.map D.int) (s::c.map Sl.val)=Qs []
 |[],_,_=>rfl
 |x::xs,s,h=>by have ih:=Ex (fe:=fe) xs (.val (.int x)) λy hy=>h y (Ov _ hy);have e:=h x (Ox ..);show(ft (.val (.int x)::c.map Sl.val)).bind _=_;rw[e];exact ih
def pQ{G:Ql D->Qo Ev}{d:D}(h:G (rs.map Ev.d)=Qs (.dn d)):aO G rs=Qs (.dn d):=by unfold aO;rw[h];show Qs (gL (rs.all Ev.ok) (.dn d))=_;unfold gL;split<;>rfl
def uM (J:V5 M ts wl ws):kO C [wD M ts,iL wl,.lst (ws.map pD)]=Qs (.dn (jF M ts wl ws)):=by
 let W:Sl:=.val (wD M ts)
 let A:Sl:=.val (iL wl)
 let V:Sl:=.val (.lst (ws.map pD))
 let t0:Th:=[W,A,V,.no]
 have a1:(ag cG (ae (d2 az aq aQ) (ae (ag dU (ae (d2 az aq bG) ai)) ai))) t0=Qs (.cl (wD M ts)):=(eJ (k:=cG) (uF (i:=0) (t:=t0) rfl) (xj (nX (i:=0) (t:=t0) rfl) rfl)).trans rfl;have a2:=sX (xs:=wl) (f:=af 1) (t:=t0) (r:=.cl (iL wl)) rfl rfl;have a3:=xj (ts:=ws) (f:=af 2) (t:=t0) (r:=.cl (.lst (ws.map pD))) rfl rfl;have c1:=(jo (k:=aO (qH C)) a1 a2 a3).trans (pQ (rs:=[.cl (wD M ts),.nw (wl.map D.int),.nw (ws.map pD)]) (Mg J));have E1:=nv (i:=3) c1 (by simp[t0]);let T:=fK M ts wl ws
 let t1:Th:=[W,A,V,.dp (jF M ts wl ws)]
 have E2:bI (iw (jO (iZ (jQ "tuple" aP))) (iw (aC (d2 di (ag bK fQ) hZ)) (jO (iZ (jQ "list" (d2 az aP aQ)))))) j0 bX t1=Qs (.nx t1):=rfl;have XF:∀a∈T,0<=a/\a<(ts.length:Int):=(tJ J).Wz;have len:T.length<=50000:=by have e:=tJ J;have:=j5 e.nd (C:=av ts.length) λx hx=>gI (e.Wz x hx).1 (e.Wz x hx).2;rw[fG]at this;have:=J.Vs.2.1;show(fK M ts wl ws).length<=_;lia
 have nc:(bE 1 [0] (cV (d2 az aP aQ)) bc (aC (d2 kj aq (ag bK (ae (d2 az aA bG) ai)))) aq) t1=Qs (.nw []):=by
  unfold bE;have e1:cV (d2 az aP aQ) t1=Qs (Qf,T.map D.int):=rfl;rw[e1];show(if(T.map D.int).length<=50000 then(bU _ _ _ (T.map D.int) [.no,W]).bind _ else Qn)=_;have cn:bU bc (aC (d2 kj aq (ag bK (ae (d2 az aA bG) ai)))) aq (T.map D.int) [.no,W]=Qs []:=Ex (c:=[wD M ts]) T .no λx hx=>by
   let t:Th:=[.val (.int x),.val (wD M ts)]
   have el:(ag bK (ae (d2 az aA bG) ai)) t=Qs (.cl (.int (ts.length:Int))):=by rw[gh (nX (i:=1) (t:=t) rfl)];unfold bK;simp[Ev.d]
   show aC _ t=_;unfold aC;rw[cP (rfl:af 0 t=Qs (.cl (.int x))) el];unfold kj;have:=J.Vs.2.1;have b:dk (ts.length:Int)=Qt:=by unfold dk;exact Uc (by lia)
   simp[Ev.d,XF x hx,b]
  rw[S9 (by rw[OI];exact len),cn];rfl
 have E3:bI (iw (jO (iZ (jQ "list" (d2 az aP bG)))) (aC (d2 di (bE 1 [0] (cV (d2 az aP aQ)) bc (aC (d2 kj aq (ag bK (ae (d2 az aA bG) ai)))) aq) (ag bO ai)))) j0 bX t1=Qs (.nx t1):=by refine fL (b:=Qf) ?_ rfl;have f1:jO (iZ (jQ "list" (d2 az aP bG))) t1=Qs Qf:=rfl;have f2:=Lb (fb:=ag bO ai) (r2:=.nw []) [] nc rfl rfl rfl;unfold iw;rw[f1,f2];rfl
 show(xV C t0).bind dg=_;exact Uj ((aL E1).trans ((aL E2).trans ((aL E3).trans rfl)))
def dR(x:Int)(R:Ql Int)(e:Eg):Ql Int:=if e.2=x/\e.1∉(if e.1=x/\e.2∉R then R++[e.2] else R) then(if e.1=x/\e.2∉R then R++[e.2] else R)++[e.1] else(if e.1=x/\e.2∉R then R++[e.2] else R)
structure WX(M:Nat)(es:List Eg)(s:Int)(R:List Int):Prop where
 ak:AllK M R
 eq:∀x∈R,Eqv es s x
def WX.add{R:Ql Int}(h:WX M es s R)(hx:x∈R)(e:Eqv es x y)(n:y∉R)(y0:0<=y)(y1:y<(M:Int)):WX M es s (R++[y]):=by
 have:gk R y=R++[y]:=by unfold gk;rw[Tr n]
 refine⟨this▸h.ak.put y0 y1,λz hz=>?_⟩;rcases Ow.mp hz with w|w
 .exact h.eq z w
 .rw[Oy.mp w];exact(h.eq x hx).trans e
def AE{R:Ql Int}{e:Eg}(h:WX M es s R)(hx:x∈R)(he:e∈es)(r1:0<=e.1/\e.1<(M:Int))(r2:0<=e.2/\e.2<(M:Int)):WX M es s (dR x R e)/\(∃T,dR x R e=R++T)/\(e.1=x->e.2∈dR x R e)/\(e.2=x->e.1∈dR x R e):=by
 unfold dR;have k1:WX M es s (if e.1=x/\e.2∉R then R++[e.2] else R)/\(∃T,(if e.1=x/\e.2∉R then R++[e.2] else R)=R++T)/\(e.1=x->e.2∈(if e.1=x/\e.2∉R then R++[e.2] else R)):=by
  split
  .rename_i c;exact⟨h.add hx (c.1▸.WV he) c.2 r2.1 r2.2,⟨[e.2],rfl⟩,λ_=>by simp⟩
  .rename_i c;exact⟨h,⟨[],by simp⟩,λz=>OZ λy=>c ⟨z,y⟩⟩
 generalize (if e.1=x/\e.2∉R then R++[e.2] else R)=R1 at*
 obtain⟨h1,⟨T,eT⟩,m1⟩:=k1;have hx1:x∈R1:=by rw[eT];exact Ot _ hx
 split
 .rename_i c;exact⟨h1.add hx1 (c.1▸(.symm (.WV he))) c.2 r1.1 r1.2,⟨T++[e.1],by rw[eT,Pm]⟩,λz=>Ot _ (m1 z),λ_=>by simp⟩
 .rename_i c;exact⟨h1,⟨T,eT⟩,m1,λz=>OZ λy=>c ⟨z,y⟩⟩
def uZ{M:Nat}{es:Ql Eg}{s x:Int}(hr:∀e∈es,(0<=e.1/\e.1<(M:Int))/\0<=e.2/\e.2<(M:Int)):∀(fs:Ql Eg){R:Ql Int},WX M es s R->x∈R->(∀e∈fs,e∈es)->WX M es s (fs.foldl (dR x) R)/\(∃T,fs.foldl (dR x) R=R++T)/\∀e∈fs,(e.1=x->e.2∈fs.foldl (dR x) R)/\(e.2=x->e.1∈fs.foldl (dR x) R)
 |[],R,h,_,_=>⟨h,⟨[],by simp⟩,λe he=>(by cases he)⟩
 |e::fs,R,h,hx,hf=>by
  have he:=hf e (Ox ..);obtain⟨h1,⟨T,eT⟩,m1,m2⟩:=AE h hx he (hr e he).1 (hr e he).2;have hx1:x∈dR x R e:=by rw[eT];exact Ot _ hx
  obtain⟨h2,⟨U,eU⟩,m3⟩:=uZ hr fs h1 hx1 λe' Yz=>hf e' (Ov _ Yz);rw[RG];have up:∀{y},y∈dR x R e->y∈fs.foldl (dR x) (dR x R e):=λhy=>by rw[eU];exact Ot _ hy
  refine⟨h2,⟨T++U,by rw[eU,eT,Pm]⟩,λe' Yz=>?_⟩;rcases OC.mp Yz with z|z
  .rw[z];exact⟨λy=>up (m1 y),λy=>up (m2 y)⟩
  .exact m3 e' z
def eY(es:Ql Eg):Nat->Nat->Ql Int->Ql Int
 |0,_,R=>R
 |n+1,a,R=>if a<R.length then eY es n (a+1) (es.foldl (dR (R.getD a 0)) R) else R
def UL(es:Ql Eg)(R:Ql Int)(x:Int):Prop:=∀e∈es,(e.1=x->e.2∈R)/\(e.2=x->e.1∈R)
def ES{M:Nat}{es:Ql Eg}{s:Int}(hr:∀e∈es,(0<=e.1/\e.1<(M:Int))/\0<=e.2/\e.2<(M:Int)):∀(n a:Nat) (R:Ql Int),WX M es s R->s∈R->(∀x∈R.take a,UL es R x)->M+1<=n+a->WX M es s (eY es n a R)/\s∈eY es n a R/\∀x∈eY es n a R,UL es (eY es n a R) x
 |0,a,R,h,hs,hc,hn=>⟨h,hs,λx hx=>hc x (by rw[QN (by have:=h.ak.len;lia)];exact hx)⟩
 |n+1,a,R,h,hs,hc,hn=>by
  unfold eY;by_cases c:a<R.length
  .rw[S9 c];have ea:R.getD a 0=R[a]:=by rw[ON,OE c];rfl
   have hx:R.getD a 0∈R:=by rw[ea];exact Qm _
   obtain⟨h1,⟨T,eT⟩,m⟩:=uZ hr es h hx λe he=>he;refine ES hr n (a+1) _ h1 (by rw[eT];exact Ot _ hs) (λx hx=>?_) (by lia);rw[eT,List.take_append_of_le_length (by lia),List.take_succ_eq_append_getElem c]at hx;rcases Ow.mp hx with z|z
   .intro e he;have:=hc x z e he;rw[eT];exact⟨λy=>Ot _ (this.1 y),λy=>Ot _ (this.2 y)⟩
   .rw[Oy.mp z,<-ea];exact m
  .rw[Tr c];exact⟨h,hs,λx hx=>hc x (by rw[QN (by lia)];exact hx)⟩
def N2 (hr:∀e∈es,(0<=e.1/\e.1<(M:Int))/\0<=e.2/\e.2<(M:Int))(s0:0<=s)(s1:s<(M:Int)) (hn:M+1<=n):(eY es n 0 [s]).Nodup/\(eY es n 0 [s]).length<=M/\∀v,v∈eY es n 0 [s]↔Eqv es s v:=by obtain⟨h,hs,hc⟩:=ES hr n 0 [s] ⟨⟨by simp,λx hx=>by rw[Oy.mp hx];exact⟨s0,s1⟩⟩,λx hx=>by rw[Oy.mp hx];exact .refl s⟩ (by simp) (λx hx=>by simp at hx) (by lia);refine⟨h.ak.nd,h.ak.len,λv=>⟨h.eq v,λz=>?_⟩⟩;exact(z.pred (p:=λv=>v∈eY es n 0 [s]) λe he=>⟨λy=>(hc _ y e he).1 rfl,λy=>(hc _ y e he).2 rfl⟩).mp hs
def Dr{R:Ql Int}{a:Nat}{z:Int}(hi:t[i]?=Qs (.val (.int y)))(hj:t[j]?=Qs (.val (.int z)))(h3:t[3]?=Qs (.own (R.map D.int)))(h4:t[4]?=Qs (.val (.int (a:Int))))(ha:a<R.length)(hx:R.getD a 0=x)(hl:R.length<1000):bI (iz (aC (d2 fq (af i) (d2 az (af 3) (af 4)))) (aC (d2 km (af j) (af 3)))) (jc 3 (af j)) bX t=Qs (.nx (t.set 3 (.own ((if y=x/\z∉R then R++[z] else R).map D.int)))):=by
 have ei:af i t=Qs (.cl (.int y)):=by unfold af;rw[hi]
 have ej:af j t=Qs (.cl (.int z)):=by unfold af;rw[hj]
 have e3:af 3 t=Qs (.tm (.lst (R.map D.int))):=by unfold af;rw[h3]
 have e4:af 4 t=Qs (.cl (.int (a:Int))):=by unfold af;rw[h4]
 have ix:=xy (fa:=af 3) (fb:=af 4) R a e3 e4 ha rfl rfl;rw[hx]at ix;have c:=Fc (pf ei ix) (BY (fa:=af j) (fb:=af 3) z R ej e3 rfl rfl);by_cases h:y=x/\z∉R
 .rw[Uc h.1,UJ h.2]at c;rw[S9 h];exact(iU c rfl).trans (Oa t (i:=3) (xs:=R) ej h3 (by lia))
 .have:(decide (y=x)&&!decide (z∈R))=Qf:=by
   by_cases h1:y=x
   .have h2:z∈R:=OZ λq=>h ⟨h1,q⟩;rw[Uc h2];simp
   .rw[UJ h1];rfl
  rw[this]at c;rw[Tr h];refine(fL c rfl).trans ?_;congr 2;symm;obtain⟨XI,eq⟩:=O6.mp h3;rw[<-eq,List.set_getElem_self]
def FP(s1 s2 s6 s7:Sl){R:Ql Int}{a:Nat}(h0:0<=l)(h1:l<(ts.length:Int))(ha:a<R.length)(hx:R.getD a 0=x)(hl:R.length<900):∃u6 u7,um [.val (wD M ts),s1,s2,.own (R.map D.int),.val (.int (a:Int)),.val (.int l),s6,s7]=Qs (.nx [.val (wD M ts),s1,s2,.own ((dR x R (ao ts l)).map D.int),.val (.int (a:Int)),.val (.int l),u6,u7]):=by
 have et:=q9 (fa:=d2 az aq bG) (fb:=af 5) (t:=[.val (wD M ts),s1,s2,.own (R.map D.int),.val (.int (a:Int)),.val (.int l),s6,s7]) (nX rfl) rfl rfl rfl h0 h1;generalize hE:ao ts l=e at*
 have E1:dy (ck 2 qT) (d2 az (d2 az aq bG) cb) [.val (wD M ts),s1,s2,.own (R.map D.int),.val (.int (a:Int)),.val (.int l),s6,s7]=Qs (.nx [.val (wD M ts),s1,s2,.own (R.map D.int),.val (.int (a:Int)),.val (.int l),.val (.int e.1),.val (.int e.2)]):=by unfold dy;rw[et];rfl
 have E2:=Dr (t:=[.val (wD M ts),s1,s2,.own (R.map D.int),.val (.int (a:Int)),.val (.int l),.val (.int e.1),.val (.int e.2)]) (i:=6) (j:=7) (y:=e.1) (z:=e.2) rfl rfl rfl rfl ha hx (by lia);obtain⟨R1,ZS⟩:∃R1,R1=(if e.1=x/\e.2∉R then R++[e.2] else R):=⟨_,rfl⟩;rw[<-ZS]at E2;have a1:a<R1.length:=by
  rw[ZS];split
  .rw[O8];lia
  .exact ha
 have x1:R1.getD a 0=x:=by
  rw[ZS];split
  .rw[ON,Qx ha,<-ON];exact hx
  .exact hx
 have l1:R1.length<1000:=by
  rw[ZS];split
  .rw[O8,Qd];lia
  .lia
 have E3:=Dr (t:=[.val (wD M ts),s1,s2,.own (R1.map D.int),.val (.int (a:Int)),.val (.int l),.val (.int e.1),.val (.int e.2)]) (i:=7) (j:=6) (y:=e.2) (z:=e.1) rfl rfl rfl rfl a1 x1 l1;refine⟨.val (.int e.1),.val (.int e.2),(aL E1).trans ((aL E2).trans (E3.trans ?_))⟩;rw[ZS];rfl
def Cn(s1 s2:Sl){M:Nat}(hM:M<=800){ts:Ql (Int×Int)}{es:Ql Eg}{s x:Int}(hr:∀e∈es,(0<=e.1/\e.1<(M:Int))/\0<=e.2/\e.2<(M:Int)){a:Nat}:∀(L:Ql Int) (R:Ql Int) (s5 s6 s7:Sl),WX M es s R->a<R.length->R.getD a 0=x->(∀l∈L,0<=l/\l<(ts.length:Int))->(∀e∈cz ts L,e∈es)->∃u5 u6 u7,bj kQ um (L.map D.int) [.val (wD M ts),s1,s2,.own (R.map D.int),.val (.int (a:Int)),s5,s6,s7]=Qs (.nx [.val (wD M ts),s1,s2,.own (((cz ts L).foldl (dR x) R).map D.int),.val (.int (a:Int)),u5,u6,u7])
 |[],R,s5,s6,s7,_,_,_,_,_=>⟨s5,s6,s7,rfl⟩
 |l::L,R,s5,s6,s7,h,ha,hx,hL,hE=>by
  obtain⟨h0,h1⟩:=hL l (Ox ..);have he:ao ts l∈es:=hE _ (Ox ..);have hxm:x∈R:=by rw[<-hx,ON,OE ha];exact Qm _
  obtain⟨h2,⟨T,eT⟩,_,_⟩:=AE h hxm he (hr _ he).1 (hr _ he).2;obtain⟨v6,v7,e⟩:=FP s1 s2 s6 s7 (M:=M) h0 h1 ha hx (by have:=h.ak.len;lia);have hx':(dR x R (ao ts l)).getD a 0=x:=by rw[eT,ON,Qx ha,<-ON,hx]
  obtain⟨u5,u6,u7,ih⟩:=Cn s1 s2 hM hr (x:=x) (a:=a) L (dR x R (ao ts l)) (.val (.int l)) v6 v7 h2 (by rw[eT,O8];lia) hx' (λm hm=>hL m (Ov _ hm)) λe' Yz=>hE e' (Ov _ Yz);exact⟨u5,u6,u7,(iX rfl e).trans ih⟩
def Cm(s2:Sl){M:Nat}(hM:M<=800){ts:Ql (Int×Int)}{L:Ql Int}{s:Int}(hr:∀e∈cz ts L,(0<=e.1/\e.1<(M:Int))/\0<=e.2/\e.2<(M:Int))(hL:∀l∈L,0<=l/\l<(ts.length:Int)):∀(n a:Nat) (R:Ql Int) (s5 s6 s7:Sl),WX M (cz ts L) s R->M+1<=n+a->∃u4 u5 u6 u7,eI (aC (d2 qL bF (ag bK fQ))) pT n [.val (wD M ts),.val (.lst (L.map D.int)),s2,.own (R.map D.int),.val (.int (a:Int)),s5,s6,s7]=if a<=M then Qs (.nx [.val (wD M ts),.val (.lst (L.map D.int)),s2,.own ((eY (cz ts L) n a R).map D.int),u4,u5,u6,u7]) else eI (aC (d2 qL bF (ag bK fQ))) pT n [.val (wD M ts),.val (.lst (L.map D.int)),s2,.own (R.map D.int),.val (.int (a:Int)),s5,s6,s7]
 |0,a,R,s5,s6,s7,h,hn=>⟨s2,s5,s6,s7,by rw[Tr (by lia)]⟩
 |n+1,a,R,s5,s6,s7,h,hn=>by
  by_cases am:a<=M
  .simp only[S9 am];have c:=oF (fa:=af 4) (t:=[.val (wD M ts),.val (.lst (L.map D.int)),s2,.own (R.map D.int),.val (.int (a:Int)),s5,s6,s7]) (a:=(a:Int)) rfl (oI (xs:=R) (f:=af 3) (r:=.tm (.lst (R.map D.int))) rfl rfl);by_cases hc:a<R.length
   .rw[Uc (by lia)]at c;obtain⟨v5,v6,v7,e⟩:=Cn (.val (.lst (L.map D.int))) s2 (s:=s) (x:=R.getD a 0) hM hr (a:=a) L R s5 s6 s7 h hc rfl hL (λe he=>he);have e2:=(jW (fa:=af 4) (fb:=dC (.int 1)) (t:=[.val (wD M ts),.val (.lst (L.map D.int)),s2,.own (((cz ts L).foldl (dR (R.getD a 0)) R).map D.int),.val (.int (a:Int)),v5,v6,v7]) (a:=(a:Int)) (b:=1) rfl rfl);rw[show(a:Int)+1=((a+1:Nat):Int) by lia]at e2;have E:pT [.val (wD M ts),.val (.lst (L.map D.int)),s2,.own (R.map D.int),.val (.int (a:Int)),s5,s6,s7]=Qs (.nx [.val (wD M ts),.val (.lst (L.map D.int)),s2,.own (((cz ts L).foldl (dR (R.getD a 0)) R).map D.int),.val (.int ((a+1:Nat):Int)),v5,v6,v7]):=(aL (g1:=d8 kQ aA um) (t:=[.val (wD M ts),.val (.lst (L.map D.int)),s2,.own (R.map D.int),.val (.int (a:Int)),s5,s6,s7]) e).trans (iB (i:=4) e2 (by simp));have hxm:R.getD a 0∈R:=by rw[ON,OE hc];exact Qm _
    obtain⟨h1,_,_⟩:=uZ hr (cz ts L) h hxm λe he=>he;have rl:=h.ak.len;obtain⟨u4,u5,u6,u7,ih⟩:=Cm s2 hM hr hL n (a+1) _ v5 v6 v7 h1 (by lia);rw[S9 (by lia)]at ih;refine⟨u4,u5,u6,u7,?_⟩;unfold eI;rw[c,Oz,S9 rfl,E,Oz];have:eY (cz ts L) (n+1) a R=eY (cz ts L) n (a+1) ((cz ts L).foldl (dR (R.getD a 0)) R):=by show(if a<R.length then _ else R)=_;rw[S9 hc]
    rw[this];exact ih
   .rw[UJ (by lia)]at c;refine⟨.val (.int (a:Int)),s5,s6,s7,?_⟩;unfold eI;rw[c,Oz,Tr (by decide)];have:eY (cz ts L) (n+1) a R=R:=by show(if a<R.length then _ else R)=_;rw[Tr hc]
    rw[this]
  .exact⟨s2,s5,s6,s7,by rw[Tr am]⟩
def Ef (hw:VX M ts) (hL:∀l∈L,0<=l/\l<(ts.length:Int)):∀e∈cz ts L,(0<=e.1/\e.1<(M:Int))/\0<=e.2/\e.2<(M:Int):=λe he=>by obtain⟨l,hl,rfl⟩:=O2.mp he;obtain⟨a0,ab,bM⟩:=hw.lt _ (mh (hL l hl).1 (hL l hl).2);exact⟨⟨a0,by lia⟩,by lia,bM⟩
def HW (hM:M<=60) (hw:VX M ts) (hL:∀l∈L,0<=l/\l<(ts.length:Int)) (s0:0<=s)(s1:s<(M:Int)):qz [wD M ts,.lst (L.map D.int),.int s]=Qs (.nw ((eY (cz ts L) 100 0 [s]).map D.int)):=by
 let W:Sl:=.val (wD M ts)
 let N:Sl:=.val (.lst (L.map D.int))
 have E1:aN 3 (ag bO e8) [W,N,.val (.int s),.no,.no,.no,.no,.no]=Qs (.nx [W,N,.val (.int s),.own [.int s],.no,.no,.no,.no]):=rfl;have E2:aN 4 aQ [W,N,.val (.int s),.own [.int s],.no,.no,.no,.no]=Qs (.nx [W,N,.val (.int s),.own [.int s],.val (.int 0),.no,.no,.no]):=rfl;obtain⟨u4,u5,u6,u7,e⟩:=Cm (.val (.int s)) (M:=M) (by lia) (s:=s) (Ef hw hL) hL 100 0 [s] .no .no .no ⟨⟨by simp,λx hx=>by rw[Oy.mp hx];exact⟨s0,s1⟩⟩,λx hx=>by rw[Oy.mp hx];exact .refl s⟩ (by lia);rw[S9 (QD _)]at e;have E3:iY (λt=>100) (aC (d2 qL bF (ag bK fQ))) pT [W,N,.val (.int s),.own [.int s],.val (.int 0),.no,.no,.no]=Qs (.nx [W,N,.val (.int s),.own ((eY (cz ts L) 100 0 [s]).map D.int),u4,u5,u6,u7]):=e;have E4:eR 3 [W,N,.val (.int s),.own ((eY (cz ts L) 100 0 [s]).map D.int),u4,u5,u6,u7]=Qs (.rt (.nw ((eY (cz ts L) 100 0 [s]).map D.int))):=rfl;show(xX [W,N,.val (.int s),.no,.no,.no,.no,.no]).bind dg=_;refine Uj ?_;exact(aL E1).trans ((aL E2).trans ((aL E3).trans E4))
def Ew:∀(ts:Ql (Int×Int)) (w:Int×Int),V9 w->∃(ws:Ql Int) (w':Int×Int),V9 w'/\ws.length=ts.length/\(∀x∈ws,0<=x/\x<=1000000000000)/\∀(p:Xl) (s:Sl),eW (ρ:=aj) bc n6 (eX p lY nK) (ts.map pD) [s,.val (.adr p)] w=Qs (ws.map D.int,w')
 |[],w,ok=>⟨[],w,ok,rfl,λf hf=>(by cases hf),λp s=>rfl⟩
 |x::xs,w,ok=>by
  obtain⟨a,w1,a0,a1,o1,e1⟩:=Fz ok;obtain⟨fs,w',o',l',h',run⟩:=Ew xs w1 o1;refine⟨a::fs,w',o',by rw[OX,OX,l'],λf hf=>?_,λp s=>?_⟩
  .rcases OC.mp hf with z|z
   .rw[z];exact⟨a0,a1⟩
   .exact h' f z
  .let t:Th:=[.val (pD x),.val (.adr p)]
   have fe:eX (ρ:=aj) p lY nK t w=Qs (.cl (.int a),w1):=yQ (ρ:=aj) (rs:=[]) (pU (ρ:=aj) (eE (rfl:af 1 t=Qs (.cl (.adr p)))) (zE (ρ:=aj))) e1;exact Nr (ρ:=aj) (k:=cC 0) (ft:=n6) (ys:=(fs.map D.int,w')) (t1:=t) rfl rfl fe (run p (.val (pD x)))
def sM{d:D}(ha:fa t=Qs r1)(hb:fb t=Qs r2)(h1:r1.d=d)(h2:r2.d=d)(ok:bT 6 d d=Qt):aC (d2 di fa fb) t=Qs Qf:=by unfold aC;rw[cP ha hb];unfold di;rw[h1,h2,S9 ok,WU.mpr rfl];rfl
def Np{k:D->Th->Qo Th}{b:DS}(h:f t=Qs r)(hd:r.d=.lst ds)(ok:r.ok=Qt):d8 k f b t=bj k b ds t:=by unfold d8;rw[h,Oz,hd];exact S9 ok
def C4 (h:aR (PS.new M) ws=[]):jF M ts wl ws=.tup [.lst [],.lst []]:=by
 have e:cy M ts wl ws=PS.new M:=by unfold cy;show eL _ _ _ _ (199+1) _=_;unfold eL;rw[S9 h]
 have e1:fK M ts wl ws=[]:=by unfold fK;rw[e];rfl
 have e2:gU M ts wl ws=[]:=by
  unfold gU;rw[e];unfold mQ;have:eG (PS.new M)=[]:=List.filter_eq_nil_iff.mpr λa _=>by show ¬decide ((0:Int)<0)=Qt;decide
  rw[this];rfl
 unfold jF;rw[e1,e2];rfl
def CZ:∀P:Ql Int,kn (P.map Sum.inl)=Qs P
 |[]=>rfl
 |p::P=>by show(kn (P.map Sum.inl)).map (p::·)=_;rw[CZ P];rfl
def GS{V:Int->Int}(h:f t=Qs r)(e:r.d=dV P V)(hl:P.length<64):(ag oN (ae f ai)) t=Qs (.nw ((U6 P).map D.int)):=by rw[gh h];unfold oN;simp only[e];show(kn (P.map Sum.inl)).bind _=_;rw[CZ];show(if P.length<64 then _ else Qn)=_;rw[S9 hl]
def NY{c n:Int}(po:V9 (c,n))(N K s3 s4 s5 s6 s7 s8 s9 V8:Sl):∃(u3 u4 u5 u6 u7 u8 u9 Yk:Sl),∀p:Xl,(ni C p [N,K,.val (.adr p),s3,s4,s5,s6,s7,s8,s9,V8] (c,n)).map (kR 2)=Qs (.nx [N,K,.no,u3,u4,u5,u6,u7,u8,u9,Yk]):=by
 obtain⟨M,ts,w1,hw,mM,lts,o1,ew⟩:=FA po (m:=8) (by decide) (by decide);have hM:M<=8:=by lia
 have ht:ts.length<=36:=Pr lts (M5 M (by lia));obtain⟨wl,w2,o2,lwl,Y7,zaO⟩:=Ew ts w1 o1;have pos:=hw.pos;obtain⟨s,w3,q0,q1,o3,e3⟩:=iJ o2 (m:=(M:Int)) (by lia) (VP (by lia) (by lia));have hE:=jg hw;have lt:=LJ (M:=M) (by lia) hw lwl q0 q1;have sd:Vg M (ao ts) (aJ wl) ts.length s (gx (ao ts) (aJ wl) ts.length M (fO s)):=Vg.all hE (n:=M) (Vg.new ⟨q0,q1⟩);have pr:=WG.all (n:=M) (WG.new (e:=ao ts) (w:=aJ wl) (nt:=ts.length) (s:=s));have sin:=(pr [] s .nil (QD _) (λ_ h=>nomatch h)).1;have h0:∀a,0<=a->a<(ts.length:Int)->0<=aJ wl a:=λa a0 a1=>(Y7 _ (zW lwl a0 a1)).1;obtain⟨B,hB⟩:∃B,B=gx (ao ts) (aJ wl) ts.length M (fO s):=⟨_,rfl⟩;rw[<-hB]at lt sd pr sin;have lP:B.1.length<=M:=sd.len;have pl:0<B.1.length:=Ra sin;have pm:=Xk B.1;have sl:(U6 B.1).length=B.1.length:=pm.length_eq;obtain⟨r,w4,r0,r1,o4,e4⟩:=iJ o3 (m:=((U6 B.1).length:Int)) (by lia) (VP (by lia) (by lia));obtain⟨b,hb⟩:∃b,b=(U6 B.1).getD r.toNat 0:=⟨_,rfl⟩;have bP:b∈B.1:=by refine pm.mem_iff.mp ?_;rw[hb,ON,OE (by lia)];exact Qm _
 obtain⟨br,L,l1,l2,_⟩:=sd.way b bP;have eb:Eqv (gz (ao ts) ts.length) s b:=l2.mono (ig λa ha=>gI (l1 a ha).1 (l1 a ha).2);obtain⟨wi,hwi⟩:∃wi:Eg,wi=(if b<s then b else s,if b>s then b else s):=⟨_,rfl⟩;have Z7:wi=(s,b)\/wi=(b,s):=by
  rw[hwi];by_cases c:b<s
  .rw[S9 c,Tr (by lia)];exact .inr rfl
  .by_cases c2:b>s
   .rw[Tr c,S9 c2];exact .inl rfl
   .rw[Tr c,Tr c2];have:b=s:=by lia
    rw[this];exact .inl rfl
 have big:((10^20:Nat):Int)=100000000000000000000:=by decide
 have JJ:∀ws:Ql Eg,ws.length<=1000->lW M ws->(∀w∈ws,Eqv (gz (ao ts) ts.length) w.1 w.2)->V5 M ts wl ws:=λws lws X7 all=>⟨hw,⟨by lia,by lia,lws⟩,lwl,λx hx=>by rw[big];have:=Y7 x hx;lia,X7,all⟩;have J:V5 M ts wl [wi]:=JJ [wi] (by simp) (λx hx=>by
  rw[Oy.mp hx];rcases Z7 with z|z<;>rw[z]
  .exact⟨⟨q0,q1⟩,br⟩
  .exact⟨br,⟨q0,q1⟩⟩) (λx hx=>by
  rw[Oy.mp hx];rcases Z7 with z|z<;>rw[z]
  .exact eb
  .exact eb.symm)
 have J0:V5 M ts wl []:=JJ [] (by simp) (λ_ h=>nomatch h) (λ_ h=>nomatch h);have J1:V5 M ts wl [(s,s)]:=JJ [(s,s)] (by simp) (λx hx=>by
  rw[Oy.mp hx];exact⟨⟨q0,q1⟩,q0,q1⟩) (λx hx=>by
  rw[Oy.mp hx];exact .refl _)
 have n0:jF M ts wl []=.tup [.lst [],.lst []]:=C4 rfl;have n1:jF M ts wl [(s,s)]=.tup [.lst [],.lst []]:=C4 (by
  show gf (PS.new M) [] (s,s)=[];unfold gf;exact S9 rfl)
 have JE:=tJ J;have key:=Kf JE hE h0 ⟨q0,q1⟩ (t:=b) (by rw[<-hB];exact bP) (by rcases Z7 with z|z<;>rw[z];exact .inl rfl;exact .inr rfl);rw[<-hB]at key;obtain⟨k1,k2⟩:=key;have X0:=Mf J;have v0:0<=B.2 b:=by rw[<-k1];exact uS λa ha=>h0 a (JE.Wz a ha).1 (JE.Wz a ha).2
 have fr:aV (bz (cy M ts wl [wi]).wd (cy M ts wl [wi]).n) (cy M ts wl [wi]).pa=(B.2 b,1):=by have p0:=JE.ok.Wx;rw[k2,yy (c:=B.2 b) (d:=1) (Q5 v0 (Pj p0)) p0 v0 (by decide) (by rw[Vm])];unfold aV;simp[Pp v0]
 rw[fr]at X0;have T1:=uM (C:=C) J;have T2:=uM (C:=C) J0;have T3:=uM (C:=C) J1;rw[n0]at T2;rw[n1]at T3;have jn:Eqv ((fK M ts wl [wi]).map (ao ts)) s b:=by
  have k:=JE.join wi (Oy.mpr rfl);rcases Z7 with z|z
  .rw[show wi.1=s by rw[z],show wi.2=b by rw[z]]at k;exact k
  .rw[show wi.1=b by rw[z],show wi.2=s by rw[z]]at k;exact k.symm
 have Tn:(fK M ts wl [wi]).length<=50000:=by have:=j5 JE.nd (C:=av ts.length) λx hx=>gI (JE.Wz x hx).1 (JE.Wz x hx).2;rw[fG]at this;lia
 have XF:=JE.Wz;obtain⟨d,hd⟩:∃d,d=jF M ts wl [wi]:=⟨_,rfl⟩;have Wi:d=.tup [iL (fK M ts wl [wi]),.lst ((gU M ts wl [wi]).map cJ)]:=hd;rw[<-hd]at T1;generalize fK M ts wl [wi]=T at*
 generalize gU M ts wl [wi]=ms at*
 clear hd;subst Wi;let W:Sl:=.val (wD M ts)
 let A:Sl:=.own (wl.map D.int)
 let S:Sl:=.val (.int s)
 let G:Sl:=.dp (dV B.1 B.2)
 let Q:Sl:=.own ((U6 B.1).map D.int)
 let O:Sl:=.val (.int b)
 let R:Sl:=.dp (.tup [iL T,.lst (ms.map cJ)])
 refine⟨W,A,S,G,Q,O,R,.val (.lst [pD (s,s)]),λp=>?_⟩;let P:Sl:=.val (.adr p)
 let t0:Th:=[N,K,P,s3,s4,s5,s6,s7,s8,s9,V8]
 have F0:=kb (ρ:=aj) (i:=3) (t:=t0) (w:=(c,n)) (yQ (ρ:=aj) (p:=p) (G:=qu) (rs:=[.cl (.int 8)]) (pU (ρ:=aj) (eE (rfl:af 2 t0=Qs (.cl (.adr p)))) (pU (ρ:=aj) (eE (rfl:dC (.int 8) t0=Qs (.cl (.int 8)))) (zE (ρ:=aj)))) ew) (by simp[t0]);let t1:Th:=[N,K,P,W,s4,s5,s6,s7,s8,s9,V8]
 have fl:cV (d2 az aP bG) t1=Qs (Qt,ts.map pD):=by unfold cV;rw[nX (i:=3) (t:=t1) rfl];rfl
 have F1:=HH (ρ:=aj) (i:=4) (Nd (ρ:=aj) (n:=1) (cap:=[2]) (k:=cC 0) (ft:=n6) (fe:=eX p lY nK) (t:=t1) (c:=Qt) (cs:=[.adr p]) (xN (ρ:=aj) (w:=w1) fl) rfl (by rw[OI];lia) (zaO p .no) (UW wl)) (by simp[t1]);let t2:Th:=[N,K,P,W,A,s5,s6,s7,s8,s9,V8]
 have F2:=kb (ρ:=aj) (i:=5) (iu (i:=2) (t:=t2) (p:=p) rfl (uF (i:=3) (t:=t2) rfl) e3) (by simp[t2]);let t3:Th:=[N,K,P,W,A,S,s6,s7,s8,s9,V8]
 have c3:=(jo (k:=aO qF) (rfl:af 3 t3=Qs (.cl (wD M ts))) (rfl:af 4 t3=Qs (.tm (iL wl))) (rfl:af 5 t3=Qs (.cl (.int s)))).trans (pQ (rs:=[.cl (wD M ts),.tm (iL wl),.cl (.int s)]) lt);have F3:=nv (i:=6) c3 (by simp[t3]);let t4:Th:=[N,K,P,W,A,S,G,s7,s8,s9,V8]
 have F4:=jf (i:=7) (GS (t:=t4) (f:=af 6) (P:=B.1) (V:=B.2) (r:=.tm (dV B.1 B.2)) rfl rfl (by lia)) (by simp[t4]);let t5:Th:=[N,K,P,W,A,S,G,Q,s8,s9,V8]
 have ix:az (.tm (.lst ((U6 B.1).map D.int))) (.cl (.int r))=Qs (.cl (.int b)):=by have:=mX (fa:=af 7) (fb:=dC (.int r)) (t:=t5) (r1:=.tm (.lst ((U6 B.1).map D.int))) (r2:=.cl (.int r)) (U6 B.1) r rfl rfl r0 r1 rfl rfl;rw[cP (rfl:af 7 t5=Qs (.tm (.lst ((U6 B.1).map D.int)))) (rfl:dC (.int r) t5=Qs (.cl (.int r)))]at this;rw[hb];exact this
 have F5:=kb (ρ:=aj) (i:=8) (eP (ρ:=aj) (eE (rfl:af 7 t5=Qs (.tm (.lst ((U6 B.1).map D.int))))) (iu (i:=2) (t:=t5) (p:=p) rfl (oI (xs:=U6 B.1) (f:=af 7) (t:=t5) (r:=.tm (.lst ((U6 B.1).map D.int))) rfl rfl) e4) ix) (by simp[t5]);let t6:Th:=[N,K,P,W,A,S,G,Q,O,s9,V8]
 have cw:CG t6=Qs (.nw [pD wi]):=by rw[hwi];rfl
 have c6:=(jo (k:=aO (kO C)) (rfl:af 3 t6=Qs (.cl (wD M ts))) (rfl:af 4 t6=Qs (.tm (iL wl))) cw).trans (pQ (rs:=[.cl (wD M ts),.tm (iL wl),.nw [pD wi]]) T1);have F6:=nv (i:=9) c6 (by simp[t6]);let t7:Th:=[N,K,P,W,A,S,G,Q,O,R,V8]
 have F7:CK t7=Qs (.nx t7):=by refine fL (b:=Qf) ?_ rfl;have f1:aC (d2 iT iH hX) t7=Qs Qf:=rfl;have rc:=HW (M:=M) (by lia) hw XF q0 q1;have bm:=N2 (M:=M) (s:=s) (Ef hw XF) q0 q1 (n:=100) (by lia);have c:=(jo (k:=aO qz) (rfl:af 3 t7=Qs (.cl (wD M ts))) (rfl:(d2 az iH aQ) t7=Qs (.tm (iL T))) (rfl:af 5 t7=Qs (.cl (.int s)))).trans (pP (rs:=[.cl (wD M ts),.tm (iL T),.cl (.int s)]) rc);have f2:=BY (fa:=af 8) (t:=t7) (r1:=.cl (.int b)) b _ rfl c rfl rfl;rw[Uc ((bm.2.2 b).mpr jn)]at f2;unfold iw;rw[f1,f2];rfl
 have gv:=El (t:=t7) (fa:=af 6) (fb:=af 8) (ra:=.tm (dV B.1 B.2)) (rb:=.cl (.int b)) rfl rfl rfl rfl bP;have F8:CJ t7=Qs (.nx t7):=by refine fL (b:=Qf) ?_ rfl;have cm:=y8 (cap:=[4]) (f:=d2 az iH aQ) (fe:=d2 az aA aq) (t:=t7) (r:=.tm (iL T)) (xs:=T) (g:=aJ wl) (b:=Qf) (c:=[iL wl]) rfl rfl Tn rfl (λx hx=>mX (fa:=af 1) (fb:=af 0) (t:=[.val (.int x),.val (iL wl)]) (r1:=.cl (iL wl)) (r2:=.cl (.int x)) wl x rfl rfl (XF x hx).1 (by have:=(XF x hx).2;lia) rfl rfl);have sm':=GH cm rfl;rw[k1]at sm';exact sM sm' gv rfl rfl rfl
 have F9:CH t7=Qs (.nx t7):=by refine fL (b:=Qf) ?_ rfl;have c9:=(gh (k:=aO nD) (rfl:(d2 az iH bG) t7=Qs (.tm (.lst (ms.map cJ))))).trans (kK (rs:=[.tm (.lst (ms.map cJ))]) X0 rfl);have c10:(ag cG (ae (d2 kr cK jY) (ae bG ai))) t7=Qs (.cl (pD (B.2 b,1))):=(eJ (k:=cG) gv (rfl:dC (.int 1) t7=Qs (.cl (.int 1)))).trans rfl;exact sM c9 c10 rfl rfl rfl
 have F10:(CL C) t7=Qs (.nx [N,K,P,W,A,S,G,Q,O,R,.val (.lst [pD (s,s)])]):=by
  have cA:(ag bO ai) t7=Qs (.nw []):=rfl;have cB:(ag bO (ae (ag cG (ae cb fP)) ai)) t7=Qs (.nw [pD (s,s)]):=rfl;have cF:(ag bO (ae (ag bO ai) (ae (ag bO (ae (ag cG (ae cb fP)) ai)) ai))) t7=Qs (.nw [.lst [],.lst [pD (s,s)]]):=(eJ cA cB).trans rfl;let t8:Th:=[N,K,P,W,A,S,G,Q,O,R,.val (.lst [])]
  let t9:Th:=[N,K,P,W,A,S,G,Q,O,R,.val (.lst [pD (s,s)])]
  have x8:(xm C) t8=Qs (.nx t8):=by refine fL (b:=Qf) ?_ rfl;have c8:=(jo (k:=aO (kO C)) (rfl:af 3 t8=Qs (.cl (wD M ts))) (rfl:af 4 t8=Qs (.tm (iL wl))) (rfl:af 10 t8=Qs (.cl (.lst [])))).trans (pQ (rs:=[.cl (wD M ts),.tm (iL wl),.cl (.lst [])]) T2);exact sM c8 (rfl:(ag cG (ae (ag bO ai) (ae (ag bO ai) ai))) t8=Qs (.cl (.tup [.lst [],.lst []]))) rfl rfl rfl
  have x9:(xm C) t9=Qs (.nx t9):=by refine fL (b:=Qf) ?_ rfl;have c8:=(jo (k:=aO (kO C)) (rfl:af 3 t9=Qs (.cl (wD M ts))) (rfl:af 4 t9=Qs (.tm (iL wl))) (rfl:af 10 t9=Qs (.cl (.lst [pD (s,s)])))).trans (pQ (rs:=[.cl (wD M ts),.tm (iL wl),.cl (.lst [pD (s,s)])]) T3);exact sM c8 (rfl:(ag cG (ae (ag bO ai) (ae (ag bO ai) ai))) t9=Qs (.cl (.tup [.lst [],.lst []]))) rfl rfl rfl
  exact(Np cF rfl rfl).trans (DZ (t1:=t8) rfl x8 (t2:=t9) rfl x9)
 have run:ni C p t0 (c,n)=Qs (.nx [N,K,P,W,A,S,G,Q,O,R,.val (.lst [pD (s,s)])] w4):= (cZ (ρ:=aj) F0).trans ((cZ (ρ:=aj) F1).trans ((cZ (ρ:=aj) F2).trans ((cZ (ρ:=aj) (iM (ρ:=aj) F3)).trans ((cZ (ρ:=aj) (iM (ρ:=aj) F4)).trans ((cZ (ρ:=aj) F5).trans ((cZ (ρ:=aj) (iM (ρ:=aj) F6)).trans ((cZ (ρ:=aj) (iM (ρ:=aj) F7)).trans ((cZ (ρ:=aj) (iM (ρ:=aj) F8)).trans ((cZ (ρ:=aj) (iM (ρ:=aj) F9)).trans (iM (ρ:=aj) F10))))))))))
 show(ni C p t0 (c,n)).map (kR 2)=_;rw[run];rfl
noncomputable def zu(C:Xl):DS:=(aF (aN 2 (ag (aO qD) jZ)) (lN 2 λp=>ni C p))
def Cs{C:Xl}(ns:Ql Int)(hl:ns.length<=63):∀(ks:Ql Nat) (s1 s2 s3 s4 s5 s6 s7 s8 s9 V8:Sl),(∀k∈ks,k<=100)->∃(t':Th),bj nS (zu C) (ks.map λ(k:Nat)=>D.int (k:Int)) [.val (.lst (ns.map D.int)),s1,s2,s3,s4,s5,s6,s7,s8,s9,V8]=Qs (.nx t')
 |[],s1,s2,s3,s4,s5,s6,s7,s8,s9,V8,_=>⟨_,rfl⟩
 |k::ks,s1,s2,s3,s4,s5,s6,s7,s8,s9,V8,hk=>by
  let N:Sl:=.val (.lst (ns.map D.int))
  let K:Sl:=.val (.int (k:Int))
  obtain⟨c,n,po,ep⟩:=Jk ns hl (k:=k) (hk k (Ox ..));obtain⟨u3,u4,u5,u6,u7,u8,u9,Yk,run⟩:=NY (C:=C) po N K s3 s4 s5 s6 s7 s8 s9 V8;obtain⟨t',e⟩:=Cs (C:=C) ns hl ks K .no u3 u4 u5 u6 u7 u8 u9 Yk (λk hk'=>hk k (Ov _ hk'));refine⟨t',?_⟩;let t0:Th:=[N,K,s2,s3,s4,s5,s6,s7,s8,s9,V8]
  have E1:=jf (i:=2) (t:=t0) ((eJ (rfl:af 0 t0=Qs (.cl (.lst (ns.map D.int)))) (rfl:af 1 t0=Qs (.cl (.int (k:Int))))).trans (pP (xs:=[c,n]) ep)) (by simp[t0]);have E2:lN 2 (λp=>ni C p) [N,K,.own [.int c,.int n],s3,s4,s5,s6,s7,s8,s9,V8]=Qs (.nx [N,K,.no,u3,u4,u5,u6,u7,u8,u9,Yk]):=Mw (c:=c) (n:=n) rfl run;exact(iX (t1:=t0) rfl ((aL E1).trans E2)).trans e
def LU(C:Xl)(ns:Ql Int)(hl:ns.length<=63)(hb:∀n∈ns,n.natAbs<uh):zQ C [.lst (ns.map D.int)]=Qs (.cl (.bl Qt)):=by
 let N:Sl:=.val (.lst (ns.map D.int))
 let t2:Th:=[N,.no,.no,.no,.no,.no,.no,.no,.no,.no,.no]
 obtain⟨m,m1,em⟩:∃m:Nat,m<=12/\(ag qX (ae bG (ae (ag qN (ae (ag bK fR) (ae nU ai))) ai))) t2=Qs (.cl (.int (m:Int))):=by
  have l0:=oI (xs:=ns) (f:=af 0) (t:=t2) (r:=.cl (.lst (ns.map D.int))) rfl rfl;have m1:(ag qN (ae (ag bK fR) (ae nU ai))) t2=Qs (.cl (.int (if(12:Int)<(ns.length:Int) then 12 else(ns.length:Int)))):=(eJ l0 (rfl:dC (.int 12) t2=Qs (.cl (.int 12)))).trans rfl;obtain⟨q,q0,q1,eq⟩:∃q:Int,0<=q/\q<=12/\(if(12:Int)<(ns.length:Int) then 12 else(ns.length:Int))=q:=⟨_,by split<;>lia,by split<;>lia,rfl⟩;rw[eq]at m1;have m2:=eJ (k:=kx λi j=>if j>i then j else i) (rfl:dC (.int 1) t2=Qs (.cl (.int 1))) m1;refine⟨(if q>1 then q else 1).toNat,?_,?_⟩
  .split<;>lia
  .rw[Pp (by split<;>lia)];exact m2.trans rfl
 obtain⟨t',e⟩:=Cs (C:=C) ns hl (Pk m) .no .no .no .no .no .no .no .no .no .no (λk hk=>by have:=QA.mp hk;lia);have E3:g6 nS (ag qX (ae bG (ae (ag qN (ae (ag bK fR) (ae nU ai))) ai))) (zu C) t2=Qs (.nx t'):=by
  unfold g6;rw[em];show(if dk (m:Int) then bj nS (zu C) (dm 0 (m:Int).toNat) t2 else Qn)=_;rw[S9 (by unfold dk;exact Uc (by lia))];have er:dm 0 (m:Int).toNat=(Pk m).map λ(k:Nat)=>D.int (k:Int):=by unfold dm;simp
  rw[er];exact e
 show(yf C t2).bind dg=_;exact Uj ((aL E3).trans rfl)
end KX
set_option maxHeartbeats 4000000
namespace KX
open PySem.Spec L2 DL
def uV(K:Ou):Sp:=λvs H Q E=>∀C:Xl,UY K (zQ C) vs H Q E
def all_mk{P:Pe}{w:QI}{K:Ou}{h:Xm}{mg:Str->Qo OM}{fa:Xl}(X:K.In h)(G:h.Ns mainGlobals mg)(hfa:mg "law"=Qs (.ref fa)){f0:Xl}{f1:Xl}{f2:Xl}{f3:Xl}{f4:Xl}{f5:Xl}{f6:Xl}{f7:Xl}{f8:Xl}{f9:Xl}{f10:Xl}{f11:Xl}{f12:Xl}{f13:Xl}{f14:Xl}{f15:Xl}{f16:Xl}{f17:Xl}{f18:Xl}{f19:Xl}{f20:Xl}{f21:Xl}{f22:Xl}{f23:Xl}{f24:Xl}{f25:Xl}{f26:Xl}{f27:Xl} (hqc:Hc K "Pieces" C) (Wr:Ue K C "around") (Wf:Ue K C "paid") (WL:Ue K C "parts") (Wq:Ue K C "piece_of") (We:Ue K C "points") (XD:Ue K C "taken") (VU:Ue K C "ties") (Y4:Ue K C "weights") (V1:Ue K C "widths") (h0:Hv K "common_factor" vA f0) (h1:Hv K "fraction" vx f1) (h2:Hv K "least_led_to" ve f2) (h3:Hm K C "__init__" "Pieces.__init__" vK f3) (h4:Hm K C "growing_beside" "Pieces.growing_beside" vH f4) (h5:Hm K C "left_between" "Pieces.left_between" vF f5) (h6:Hm K C "first_full" "Pieces.first_full" vJ f6) (h7:Hm K C "take" "Pieces.take" vB f7) (h8:Hm K C "halve_parts" "Pieces.halve_parts" vG f8) (h9:Hm K C "steps_to_full" "Pieces.steps_to_full" vC f9) (h10:Hm K C "grow" "Pieces.grow" vI f10) (h11:Hm K C "moats" "Pieces.moats" vE f11) (h12:Hv K "first_parted" vy f12) (h13:Hv K "wanting" vc f13) (h14:Hv K "needed" vd f14) (h15:Hv K "join_by_moats" vw f15) (h16:Hv K "_law_pool" vp f16) (h17:Hv K "_law_take" vl f17) (h18:Hv K "_law_wide" vf f18) (h19:Hv K "_law_web" vh f19) (h20:Hv K "_law_weight" vg f20) (h21:Hv K "_law_reached" vo f21) (h22:Hv K "_law_low" vt f22) (h23:Hv K "_law_plus" vq f23) (h24:Hv K "_law_together" vk f24) (h25:Hv K "_law_lightest" vu f25) (h26:Hv K "_law_told" vi f26) (h27:Hv K "law" vv f27) (zd0:Qb K mainGlobals "abs"=Qs Qn) (zdZ:Qb K mainGlobals "enumerate"=Qs Qn) (zdY:Qb K mainGlobals "isinstance"=Qs Qn) (zdX:Qb K mainGlobals "len"=Qs Qn) (zdW:Qb K mainGlobals "list"=Qs Qn) (zdV:Qb K mainGlobals "max"=Qs Qn) (zdU:Qb K mainGlobals "min"=Qs Qn) (zdT:Qb K mainGlobals "range"=Qs Qn) (zdS:Qb K mainGlobals "sorted"=Qs Qn) (zdR:Qb K mainGlobals "sum"=Qs Qn) (zdQ:Qb K mainGlobals "tuple"=Qs Qn)   :pW K []/\∃fd:PX,(∀(s:OJ) (v:OM),BindsTo s fd ⟨[v],[]⟩ [("_law_script",v)])/\∀base:VZ,base.tabs=du K []->K.In base->base.Ns mainGlobals mg->(∀x∈([]:Ql Str),∀c P,UH K x=Qs (c,P)->Uh base c P)->Um P w K mg base bg 6 fa fd ["_law_script"] (uV K):=by have e:=hfa.symm.trans (h27.mg X G);cases e;have bu:Vc mg:=⟨Pw X G zd0,Pw X G zdZ,Pw X G zdY,Pw X G zdX,Pw X G zdW,Pw X G zdV,Pw X G zdU,Pw X G zdT,Pw X G zdS,Pw X G zdR,Pw X G zdQ⟩;obtain⟨_,d0⟩:=h0.Xt X G "one" "other";obtain⟨_,d1⟩:=h1.Xt X G "top" "bottom";obtain⟨_,d2⟩:=h2.Xt X G "web" "numbers";obtain⟨_,u3⟩:=h3.fn;have b3:=ui (p0:= "self") (p1:= "web") (p2:= "weights") u3 λ_ _ _ _ _ _ _ _ _=>rfl;obtain⟨_,u4⟩:=h4.fn;have b4:=ui (p0:= "self") (p1:= "at") (p2:= "growing") u4 λ_ _ _ _ _ _ _ _ _=>rfl;obtain⟨_,u5⟩:=h5.fn;have b5:=pR (p0:= "self") (p1:= "at") u5 λ_ _ _ _ _ _ _ _=>rfl;obtain⟨_,u6⟩:=h6.fn;have b6:=pR (p0:= "self") (p1:= "growing") u6 λ_ _ _ _ _ _ _ _=>rfl;obtain⟨_,u7⟩:=h7.fn;have b7:=pR (p0:= "self") (p1:= "at") u7 λ_ _ _ _ _ _ _ _=>rfl;obtain⟨_,u8⟩:=h8.fn;have b8:=zt (p0:= "self") u8 λ_ _ _ _ _ _ _=>rfl;obtain⟨_,u9⟩:=h9.fn;have b9:=pR (p0:= "self") (p1:= "growing") u9 λ_ _ _ _ _ _ _ _=>rfl;obtain⟨_,Yk⟩:=h10.fn;have b10:=ui (p0:= "self") (p1:= "growing") (p2:= "step") Yk λ_ _ _ _ _ _ _ _ _=>rfl;obtain⟨_,u11⟩:=h11.fn;have b11:=zt (p0:= "self") u11 λ_ _ _ _ _ _ _=>rfl;obtain⟨_,d12⟩:=h12.Zh X G "web" "wishes" "numbers";obtain⟨_,d13⟩:=h13.Xt X G "pieces" "wishes";obtain⟨_,d14⟩:=h14.Zh X G "web" "wishes" "taken";obtain⟨_,d15⟩:=h15.Zh X G "web" "weights" "wishes";obtain⟨_,d16⟩:=h16.Xt X G "_law_script" "_law_k";obtain⟨_,Z0⟩:=h17.Xt X G "_law_pool_here" "_law_many";obtain⟨_,d18⟩:=h18.Xt X G "_law_pool_here" "_law_many";obtain⟨_,d19⟩:=h19.Xt X G "_law_pool_here" "_law_most";obtain⟨_,d20⟩:=h20.df1 X G "_law_pool_here";obtain⟨_,d21⟩:=h21.Zh X G "_law_web_here" "_law_ties" "_law_start";obtain⟨_,d22⟩:=h22.Xt X G "_law_top" "_law_bottom";obtain⟨_,d23⟩:=h23.Xt X G "_law_one" "_law_other";obtain⟨_,d24⟩:=h24.df1 X G "_law_moats";obtain⟨_,d25⟩:=h25.Zh X G "_law_web_here" "_law_weights" "_law_start";obtain⟨_,d26⟩:=h26.Zh X G "_law_web_here" "_law_weights" "_law_wishes";obtain⟨_,d27⟩:=h27.df1 X G "_law_script";refine⟨Ga,_,Hv.bt d27.fn λ_ _ _ _ _ _ _=>rfl,λbase ht _ _ hCd=>?_⟩;have ziC:=KA (P:=P) (w:=w) (base:=base) d0.fn bu;have ziB:=Ky (P:=P) (w:=w) (base:=base) d1.fn bu (d0.Wn ziC);have zin:=Kk (P:=P) (w:=w) (base:=base) d2.fn bu;have ziJ:=KR (P:=P) (w:=w) (base:=base) hqc.cls Wr Wf WL Wq We XD VU Y4 V1 u3 bu;have zdO:=KO (P:=P) (w:=w) (base:=base) hqc.cls Wq VU u4 bu;have zdN:=KL (P:=P) (w:=w) (base:=base) hqc.cls Wr WL VU Y4 u5 bu;have ziI:=KQ (P:=P) (w:=w) (base:=base) hqc.cls VU u6 bu ⟨⟨_,_,_,h4.Xp,b4,zdO⟩⟩ ⟨⟨_,_,_,h5.Xp,b5,zdN⟩⟩;have ziD:=KC (P:=P) (w:=w) (base:=base) hqc.cls Wf Wq We XD VU V1 u7 bu;have ziG:=KN (P:=P) (w:=w) (base:=base) hqc.cls Wr Wf WL V1 u8 bu;have ziE:=KG (P:=P) (w:=w) (base:=base) hqc.cls VU u9 bu ⟨⟨_,_,_,h4.Xp,b4,zdO⟩⟩ ⟨⟨_,_,_,h5.Xp,b5,zdN⟩⟩;have ziH:=KP (P:=P) (w:=w) (base:=base) hqc.cls Wr Wf We V1 Yk bu;have ziF:=KJ (P:=P) (w:=w) (base:=base) hqc.cls WL We V1 u11 bu (d1.Wn ziB);have zdM:=Kz (P:=P) (w:=w) (base:=base) d12.fn bu (d2.Wn zin);have zil:=Kh (P:=P) (w:=w) (base:=base) hqc.cls Wq d13.fn bu;have zim:=Kj (P:=P) (w:=w) (base:=base) d14.fn bu (d12.Wn zdM);have ziA:=Kx (P:=P) (w:=w) (base:=base) hqc.cls XD d15.fn bu (d12.Wn zdM) ⟨⟨_,_,_,hqc.mg X G,h3.mk_ hqc.k1 hqc.k2,b3,ziJ⟩⟩ (d13.Wn zil) ⟨⟨_,_,_,h6.Xp,b6,ziI⟩⟩ ⟨⟨_,_,_,h8.Xp,b8,ziG⟩⟩ ⟨⟨_,_,_,h10.Xp,b10,ziH⟩⟩ ⟨⟨_,_,_,h9.Xp,b9,ziE⟩⟩ ⟨⟨_,_,_,h7.Xp,b7,ziD⟩⟩ ⟨⟨_,_,_,h11.Xp,b11,ziF⟩⟩ (d14.Wn zim);have ziv:=Ks (P:=P) (w:=w) (base:=base) d16.fn bu;have zaD:=Kq (P:=P) (w:=w) (base:=base) Z0.fn bu;have zio:=Kl (P:=P) (w:=w) (base:=base) d18.fn bu (Z0.YL zaD);have zir:=Kn (P:=P) (w:=w) (base:=base) d19.fn bu (Z0.YL zaD);have ziq:=Km (P:=P) (w:=w) (base:=base) d20.fn bu (Z0.YL zaD) (d18.YL zio);have ziu:=Kr (P:=P) (w:=w) (base:=base) d21.fn bu;have zix:=Ku (P:=P) (w:=w) (base:=base) d22.fn bu;have ziw:=Kt (P:=P) (w:=w) (base:=base) d23.fn bu (d22.Wn zix);have zit:=Kp (P:=P) (w:=w) (base:=base) d24.fn bu (d23.Wn ziw);have ziy:=Kv (P:=P) (w:=w) (base:=base) d25.fn bu;have zis:=Ko (P:=P) (w:=w) (base:=base) hqc.cls  d26.fn bu (d15.Wn ziA);have ziz:=Kw (P:=P) (w:=w) (base:=base) hqc.cls  d27.fn bu (d16.Wn ziv) (d19.YL zir) (d20.YL ziq) (Z0.YL zaD) (d25.Wn ziy) (d26.Wn zis) (d21.Wn ziu) (d24.Wn zit);exact ziz.imp λvs H Q E q=>q _
def walk{l:TN}{q:Pe}{loose:Ql Str}{XP:(Str->Qo OM)->Xm->Prop}{YP:QI->Xm->Prop}{d:DefRec}{K:Params->Ou}(hn:l.most=Qs 63)(hdf:d.params.defaults=[]) (hY:∀(w:QI) (h:Xm),YP w h->(K w.params).In h) (zbj:∀x∈([]:Ql Str),∃dr,(recsOf q).find? (λe=>e.name==x)=Qs dr) (Fx:∀(w:QI) (mg:Str->Qo OM) (fa:Xl) (h:Xm),(K w.params).In h->h.Ns mainGlobals mg->mg d.name=Qs (.ref fa)->pW (K w.params) []/\∃fd:PX,(∀(s:OJ) (u:OM),BindsTo s fd ⟨[u],[]⟩ [("_law_script",u)])/\∀base:VZ,base.tabs=du (K w.params) []->(K w.params).In base->base.Ns mainGlobals mg->(∀x∈([]:Ql Str),∀c P,UH (K w.params) x=Qs (c,P)->Uh base c P)->Um l.prog w (K w.params) mg base bg 6 fa fd ["_law_script"] (uV (K w.params))):Uz q loose XP YP l.row.toRowW d [] (λf vs=>PySem.call f vs):=L2.zd5 (n:=63) (k:=6) (x:= "_law_script") (names:=[]) (CX:=λ_=>bg) (sp:=λw=>uV (K w.params)) hn (by decide) hdf ⟨rfl,by decide,by decide⟩ hY zbj Fx (λ_ H a ns hl hb hS=>λC=>⟨[],[.lst (ns.map .int)],.cl (.bl Qt),λp hp=>(by cases hp),.cons (.lst (by rw[MF];exact hS) (Ts.ints ns)) .nil,LU C ns hl hb,λv H' _ q=>by cases q;rfl⟩) λ_ _ _ _ _ z=>z
end KX
open PySem PySem.W PyProof.Rows
namespace PySem.W.Fast
theorem tw14750713270364488044:True:=⟨⟩
theorem tw17296140203308685765:True:=⟨⟩
theorem tw4976973346748943512:True:=⟨⟩
theorem tw18022209773402929883:True:=⟨⟩
theorem tw2054244499271194944:True:=⟨⟩
theorem tw2049605559906091788:True:=⟨⟩
theorem tw17654457354734549834:True:=⟨⟩
theorem tw9362316608966263234:True:=⟨⟩
theorem tw15244463543816313292:True:=⟨⟩
theorem tw10231523124552433230:True:=⟨⟩
theorem tw2214313581113123865:True:=⟨⟩
theorem tw15550259065297807106:True:=⟨⟩
theorem tw3486150361200860743:True:=⟨⟩
theorem tw1969159362717099755:True:=⟨⟩
theorem tw6560576167091082815:True:=⟨⟩
theorem tw16050820576155462541:True:=⟨⟩
theorem tw16326413713077891741:True:=⟨⟩
theorem tw4434346682705225581:True:=⟨⟩
theorem tw17706734052941356154:True:=⟨⟩
theorem tw7258955709117182509:True:=⟨⟩
theorem tw8223493250342333816:True:=⟨⟩
theorem tw10737295203526522658:True:=⟨⟩
theorem tw7636164771447850578:True:=⟨⟩
theorem tw7997471896093981292:True:=⟨⟩
theorem tw3600061564382593703:True:=⟨⟩
theorem tw6568245738880267898:True:=⟨⟩
theorem tw13554178130855625054:True:=⟨⟩
theorem tw16760533622343296161:True:=⟨⟩
theorem tw2178907610489337427:True:=⟨⟩
theorem tw3391778522300514511:True:=⟨⟩
theorem tw11322076846629625550:True:=⟨⟩
theorem tw16200298646380461813:True:=⟨⟩
theorem tw8153233787000358749:True:=⟨⟩
theorem tw13734531876865304650:True:=⟨⟩
theorem tw4241768179670856718:True:=⟨⟩
theorem tw10802197410278349658:True:=⟨⟩
theorem tw13957882040211911248:True:=⟨⟩
theorem tw158541374238186115:True:=⟨⟩
theorem tw3512392968639468369:True:=⟨⟩
theorem tw8024187146640167824:True:=⟨⟩
theorem tw1377565985845932112:True:=⟨⟩
theorem tw9235028712951601667:True:=⟨⟩
theorem tw13519225802354629188:True:=⟨⟩
theorem tw959819699876593028:True:=⟨⟩
theorem tw11093643187174352862:True:=⟨⟩
theorem tw6221162405664632104:True:=⟨⟩
theorem tw18284559920998910533:True:=⟨⟩
theorem tw14611444590136112359:True:=⟨⟩
theorem tw12764872714865919532:True:=⟨⟩
theorem tw8455986065122943360:True:=⟨⟩
theorem tw7996889818946485968:True:=⟨⟩
theorem tw2724881497449949949:True:=⟨⟩
theorem tw11609519690044516070:True:=⟨⟩
theorem tw3777956263588178133:True:=⟨⟩
theorem tw13869360597025136337:True:=⟨⟩
theorem tw1140911615064746930:True:=⟨⟩
theorem tw17969522875744010423:True:=⟨⟩
theorem tw14888393542047997013:True:=⟨⟩
end PySem.W.Fast
set_option maxRecDepth 100000 in
set_option maxHeartbeats 0 in
theorem PySem.Challenge.cw_nearenough_k62_one_wish_lightest_holds : PySem.Challenge.rw_nearenough_k62_one_wish_lightest.Holds := by
 w_on;o_law;k_head;(case hw=>w_witness2)
 k_fill
 refine KX.walk (l:=PySem.Challenge.rw_nearenough_k62_one_wish_lightest) rfl rfl (λw h Y=>by first | exact PySem.W.kIn_of Y | exact PySem.W.km_in_of Y) (by intro x hx;simp at hx) ?F
 case F =>
  intro w mg fa h KI G hmg;refine' KX.all_mk KI G hmg ?hqc ?_ ?_ ?_ ?_ ?_ ?_ ?_ ?_ ?_ ?_ ?_ ?_ ?_ ?_ ?_ ?_ ?_ ?_ ?_ ?_ ?_ ?_ ?_ ?_ ?_ ?_ ?_ ?_ ?_ ?_ ?_ ?_ ?_ ?_ ?_ ?_ ?_ ?_ ?_ ?_ ?_ ?_ ?_ ?_ ?_ ?_ ?_ ?_
  (case hqc=>refine' DL.Hc.mk ?qa ?qb ?qc ?qd ?qe ?qf ?qg;(case qa=>k_is);(case qb=>k_is);(case qc=>k_is);(case qd=>k_is);(case qe=>k_is);(case qf=>k_is);(case qg=>k_is))
  all_goals try (refine' DL.Hm.mk ?ra ?rn ?rl ?rc ?rk;(case ra=>k_is);(case rn=>k_is);(case rl=>k_is);(case rc=>k_is);(case rk=>k_is))
  all_goals try (refine' DL.Hv.mk ?a ?l ?c ?k;(case a=>k_is);(case l=>k_is);(case c=>k_is);(case k=>k_is))
  all_goals try (show PU _ _ _=some none;k_is)
  all_goals try k_is

