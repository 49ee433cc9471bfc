import PyProof.Rows.All
import Wide.All
import OpenK.AllK
import Lean
import PySem.Challenge.RW_nearenough_k66_whole_told_joinings
open Option renaming some→Qs,none→Qn
open Bool renaming true→Qt,false→Qf
noncomputable section
open Array renaming perm_iff_toList_perm→UW,getD→WN
open List.Perm renaming refl→Ue,cons_inv→VG,cons→Wl,swap→Wm
open ForInStep renaming yield→Tw
open PySem.F renaming slot_dict_keyiterator_next→S5,slot_list_append→Ti,type_list_append→TH,plainAttrs_list→TN,args_dict_keyiterator_next_1→T4,entry_dict_keyiterator_next→T9,slot_list_lt→UE,plain_list_iadd→Vb,slot_dict_iter→Vj,args_list_lt_2→Vk,slot_int_rmul→Vp,entry_list_lt→Vr
open Option.some renaming inj→SX
open PySem.NameKind renaming free→SS,cell→T8
open PySem.Value renaming ref→SA,none→UY,isStrOf→WC,type→WD,isInt→Xu,bool→Ye,int→YY,str→YZ
open Classical renaming byContradiction→Sw
open List.Sublist renaming refl→Sh,append→S4
open Int renaming le_of_lt→Sd,eq_ofNat_of_zero_le→Sk,mul_le_mul_of_nonneg_right→Sz,toNat_of_nonneg→SG,lt_of_le_of_lt→SU,mul_le_mul_of_nonneg_left→Tj,le_refl→Tq,fmod_nonneg_of_pos→Tv,add_zero→TJ,fmod_lt_of_pos→TX,le_of_mul_le_mul_right→T2,natCast_nonneg→Uk,mul_assoc→Um,mul_nonneg→Ux,mul_lt_mul_of_pos_right→UJ,mul_right_comm→U1,lt_trans→U6,toNat_natCast→U9,ofNat_lt→Vx,add_mul→VI,mul_pos→Wi,add_nonneg→Wr,add_assoc→WO,le_trans→Xd,mul_comm→Xh,mul_one→Xw,mul_add→XM
open Nat renaming le_refl→RL,lt_of_lt_of_le→RO,ne_of_lt→So,lt_of_le_of_lt→Sr,le_trans→SH,lt_succ_self→SO,gcd→S6,pow_le_pow_right→S7,gcd_pos_of_pos_right→Tn,div_le_self→TM,mul_div_mul_right→TY,lt_irrefl→T5,ne_of_gt→Uh,zero_le→Ui,lt_succ_of_lt→Ur,gcd_mul_right→Uu,le_of_lt→Uz,zero_add→UC,gcd_le_right→UG,mul_le_mul_right→UH,le_of_dvd→UN,mul_comm→U3,lt_trans→U4,mul_div_cancel_left→Vc,le_add_right→Vi,gcd_comm→Vw,add_le_add_left→VA,mul_le_mul→VB,pow_le_pow_left→VC,le_succ→VE,lt_trichotomy→VN,gcd_dvd_right→VT,gcd_dvd_left→V3,min_le_left→V8,mul_assoc→WQ,dvd_trans→WV,le_of_eq→Xc,log2_lt→XB,gcd_rec→XI,div_pos→XN
open Option renaming bind_some→RF,map_some→SY,map_eq_some_iff→Vm,isSome_some→VF,isSome_map→VM,none→XA
open Bool renaming false_ne_true→RD,and_eq_true→RJ,and_eq_true_iff→RX,or_true→Td,false_eq_true→Uj,true_or→UB,or_eq_true→US,and_true→Vh,eq_iff_iff→Vs,eq_false_iff→VS,true_and→WU
open PySem.Heap renaming get?_push_of_some→RC,lt_size→RN,get?_push_size→RV,get?_update_other→S9,size_push→Uc,get?_update_self→Uv
open PySem renaming wpAny_bind→RA,starEach→RM,wpAny_pure→RP,Shared→R7,Value→R8,sizeLine→Sf,Program→Te,NameKind→Tz,backTo→TV,Around→Ua,FuncData→Ud,World→UX,Keyword→Vz,Scope→XW,Addr→ZE,Heap→ZF,Expr→ZG,Stmt→ZH
open PySem.W renaming Frag→Rv,mg_none_of→Sg,nsIn→SQ,fnOf→SV,keepIn→S0,findIn→S8,kia_one→To,emptyDict→TK,instObj→TZ,plainGet→Ub,hasDictIn→Uo,codeIn→Uw,plainGet_of→UK,makesIn→UO,kas_rev→UU,callWith_K→U0,lookIn→U2,KasT→U5,plainOver→U7,kitx_dict→U8,cellsFrom_some→Vf,kat_cons→Vl,methodCall_KW→Vo,takerIn→Vt,isFn→Vv,kas_count→VO,kas_place→VP,handedIn→VW,kas_sort→V2,OpenLaw→V7,kas_bin→V9,kas_ask→Wa,kat_yes→Wb,kat_lt→Wo,CodeHd→Ws,mg_of→WK,WalkO→WL,tabIn→WW
open List renaming mem_append_right→Ru,mem_append_left→Rw,mem_cons_of_mem→Rx,mem_append→Ry,mem_cons_self→Rz,mem_cons→RB,length_map→RE,mem_singleton→RG,getElem?_eq_getElem→RH,nodup_append→RI,map_cons→RK,nodup_cons→RQ,replicate→RT,mem_map→RU,mem_filter→RY,getElem?_eq_some_iff→RZ,map_map→R6,size_toArray→R9,getD_eq_getElem?_getD→Sb,getElem?_map→Se,range→Si,sum_cons→Sj,getElem?_set_ne→Ss,length_cons→Su,nodup_nil→Sv,zip_cons_cons→Sx,pairwise_cons→Sy,length_append→SD,append_nil→SE,map_congr_left→SF,append_assoc→SI,lookup_cons→SJ,all_cons→SK,drop_eq_getElem_cons→SM,all_eq_true→SW,getElem?_append_left→Ta,pairwise_iff_getElem→Tb,filter_eq_self→Tc,length_singleton→Tf,mem_range→Tg,map_append→Tp,drop_length→Tr,getElem?_set_self→Ts,getElem?_range→Tt,zipWith_cons_cons→Tu,length_filter_le→Tx,cons_append→TC,filter_cons→TF,find?_cons→TL,getElem?_cons_succ→TQ,sublist_cons_self→TR,take_of_length_le→TU,getElem?_append_right→T1,length_range→T3,any_cons→T6,sublist_append_right→T7,getElem?_replicate→Ug,length_pos_of_mem→Ul,reverse_cons→Uq,ext_getElem?→Us,pairwise_map→Ut,range'→Uy,mem_of_getElem?→UA,not_mem_nil→UD,any_eq_true→UI,replicate_succ→UL,mem_map_of_mem→UM,length_set→UP,foldl_cons→UQ,length_zip→UR,nil_append→UT,mem_filterMap→UZ,pairwise_singleton→Va,filter_cons_of_neg→Vd,filter_cons_of_pos→Ve,ext_getElem→Vg,drop_eq_nil_of_le→Vn,length_replicate→Vq,of_mem_zip→Vu,filterMap_cons→Vy,lookup→VD,ne_nil_of_mem→VH,any_eq_false→VL,getElem?_set→VR,zipWith→VX,set_set→VY,take_length→VZ,map_set→V0,nodup_range→V1,zip_append→V6,filter_map→Wc,map_id→XJ,foldl→Yo
open PySem PyProof.Rows
universe u0
abbrev Ql(α:Type u0):=List α
abbrev Qo(α:Type u0):=Option α
set_option Elab.async false
set_option linter.all false
set_option maxRecDepth 100000
universe u v
theorem Xz{c:Prop}[d:Decidable c]{α:Type u}{x:Qo α}{b:α}(h:(if c then x else Qn)=Qs b):c/\x=Qs b:=by by_cases k:c<;>simp_all
theorem V4{c:Prop}[h:Decidable c](k:c){α:Sort u}{a b:α}:ite c a b=a:=if_pos k
theorem Wh{c:Prop}[h:Decidable c](k:¬c){α:Sort u}{a b:α}:ite c a b=b:=if_neg k
theorem Ww{p:Prop}[h:Decidable p](k:p):decide p=Qt:=decide_eq_true k
theorem Xt{p:Prop}[h:Decidable p](k:¬p):decide p=Qf:=decide_eq_false k
abbrev Xg(x:Str):Prop:=(x=="__debug__")=Qf
abbrev X4(x:Str):Prop:=(x=="__classdict__")=Qf
theorem XT{p:Prop}[h:Decidable p]:(decide p=Qt)=p:=decide_eq_true_eq
theorem qzA(h:True:=by first|exact Or.inl rfl|exact Or.inr (Or.inl rfl)|exact Or.inr (Or.inr rfl)):True:=h
theorem qzB(h:True:=by first|exact .inl rfl|exact .inr rfl|assumption):True:=h
namespace L2
open PySem.Spec
abbrev bQ:=Sum Int Str
def lj:bQ->R8->Bool
 |.inl k,v=>Xu k v
 |.inr x,v=>WC x v
def OL(w:UX):bQ->Int
 |.inl k=>hashInt k
 |.inr x=>hashStr w x
def jD:∀{k:bQ}{v:R8},lj k v=Qt->(∃i t,k=Sum.inl i/\v=YY i t)\/(∃x t,k=Sum.inr x/\v=YZ x t)
 |.inl i,v,h=>by obtain⟨t,e⟩:=Value.isInt_shape h;exact .inl ⟨i,t,rfl,e⟩
 |.inr x,v,h=>by obtain⟨t,e⟩:=Value.isStrOf_shape h;exact .inr ⟨x,t,rfl,e⟩
def OK(i:Int)(t:Tok):lj (.inl i) (.int i t)=Qt:=by simp[lj,Xu]
def OJ(x:Str)(t:Tok):lj (.inr x) (.str x t)=Qt:=by simp[lj,WC]
def OI(a b:Int):decide ((Sum.inl a:bQ)=Sum.inl b)=(a==b):=by lia
def OF(a b:Str):decide ((Sum.inr a:bQ)=Sum.inr b)=decide (a=b):=by lia
def OH(a:Int)(b:Str):decide ((Sum.inl a:bQ)=Sum.inr b)=Qf:=Xt (λq=>nomatch q)
def OG(a:Str)(b:Int):decide ((Sum.inr a:bQ)=Sum.inl b)=Qf:=Xt (λq=>nomatch q)
def gJ(prog:Te)(w:UX):PySem.KeyKind prog w bQ where
 is:=lj
 hash:=OL w
 inj:=λv a b ha hb=>by
  rcases jD ha with⟨i,t,rfl,rfl⟩|⟨x,t,rfl,rfl⟩
  .rcases jD hb with⟨j,u,rfl,e⟩|⟨y,u,rfl,e⟩
   .injection e with e1 _;rw[e1]
   .exact nomatch e
  .rcases jD hb with⟨j,u,rfl,e⟩|⟨y,u,rfl,e⟩
   .exact nomatch e
   .injection e with e1 _;rw[e1]
 byValue:=λk v h=>by rcases jD h with⟨i,t,rfl,rfl⟩|⟨x,t,rfl,rfl⟩<;>rfl
 pyHash:=λhv h=>by
  rcases jD hv with⟨i,t,rfl,rfl⟩|⟨x,t,rfl,rfl⟩
  .exact wpAny_pyHash_int h
  .exact wpAny_pyHash_str h
 eqBool:=λhu hv h=>by
  rcases jD hu with⟨i,t,rfl,rfl⟩|⟨x,t,rfl,rfl⟩
  .rcases jD hv with⟨j,u,rfl,rfl⟩|⟨y,u,rfl,rfl⟩
   .rw[OI]at h;exact wpAny_eqBool_int h
   .rw[OH]at h;exact SeqAt.EqAt.int_str i t y u _ _ _ _ h
  .rcases jD hv with⟨j,u,rfl,rfl⟩|⟨y,u,rfl,rfl⟩
   .rw[OG]at h;exact SeqAt.EqAt.str_int x t j u _ _ _ _ h
   .rw[OF]at h;exact wpAny_eqBool_str h
 «strs»:=λk x t v h=>by
  rcases jD h with⟨i,u,rfl,e⟩|⟨y,u,rfl,e⟩
  .exact nomatch e
  .injection e with e1 _
   subst e1;cases v<;>rfl
def NV(prog:Te)(w:UX)(k:bQ)(v:R8):(gJ prog w).is k v=lj k v:=rfl
def NW(prog:Te)(w:UX)(i:Int)(t:Tok):(gJ prog w).is (.inl i) (.int i t)=Qt:=OK i t
def NU(prog:Te)(w:UX)(x:Str)(t:Tok):(gJ prog w).is (.inr x) (.str x t)=Qt:=OJ x t
inductive V where
 |Wj|bl (b:Bool)|int (i:Int)|str (x:Str)|Y1 (b:Array UInt8)|flt (b:UInt64)|ref (a:ZE)|ty (n:String)
 deriving DecidableEq
def RelV:V->R8->Prop
 |.Wj,u=>u=UY
 |.bl b,u=>u=Ye b
 |.int i,u=>∃t,u=YY i t
 |.str x,u=>∃t,u=YZ x t
 |.Y1 b,u=>∃t,u=Value.bytes b t
 |.flt b,u=>∃t,u=Value.float b t
 |.ref a,u=>u=SA a
 |.ty n,u=>u=WD n
abbrev Vals:Ql V->Ql R8->Prop:=Paired RelV
theorem Vals.length(r:Vals xs us):xs.length=us.length:=Paired.length r
theorem Vals.get:∀{xs:Ql V}{us:Ql R8}{i:Nat}{x:V},Vals xs us->xs[i]?=Qs x->∃u,us[i]?=Qs u/\RelV x u
 |_,_,_,_,.nil,e=>by simp at e
 |_,_,0,_,.cons r _,e=>by simp_all
 |_,_,i+1,x,.cons _ t,e=>by obtain⟨u,h1,h2⟩:=Vals.get t (e);exact⟨u,h1,h2⟩
theorem Vals.set(r:RelV x u):∀{xs:Ql V}{us:Ql R8} (i:Nat),Vals xs us->Vals (xs.set i x) (us.set i u)
 |_,_,_,.nil=>.nil
 |_,_,0,.cons _ t=>.cons r t
 |_,_,i+1,.cons q t=>.cons q (Vals.set r i t)
theorem Vals.append:∀{xs ys:Ql V}{us ws:Ql R8},Vals xs us->Vals ys ws->Vals (xs++ys) (us++ws)
 |_,_,_,_,.nil,s=>s
 |_,_,_,_,.cons r t,s=>.cons r (Vals.append t s)
def Zf:Qo V->Qo R8->Prop
 |some v,Qs u=>RelV v u
 |none,Qn=>True
 |_,_=>False
def KV{κ:Type}:Ql (κ×V)->Ql (κ×R8)->Prop:=Paired λ(p:κ×V) (q:κ×R8)=>p.1=q.1/\RelV p.2 q.2
def kV:bQ->V
 |.inl i=>.int i
 |.inr x=>.str x
inductive HO where
 /-- a list -/
 |lst (xs:List V)
 /-- a tuple (never changes) -/
 |tup (xs:List V)
 /-- a dict zhL keys are ints and texts;one zhL keys are tuples of ints and texts (the empty one is both) -/
 |dK (Wg:List (bQ×V)) |dT (Wg:List (List bQ×V))
 /-- a set of ints: VU members,VU size -/
 |set (S:Int->Bool) (n:Nat)
 /-- an instance of the class at C,VU dict at dx,VU attributes -/
 |ins (C dx:ZE) (fs:List (Str×V))
 /-- the dict of the instance at x -/
 |own (x:ZE)
 /-- the dict of an exception -/
 |xd (fs:List (Str×V))
 /-- a bound method,f of x -/
 |met (f x:ZE)
 /-- a range object lo,lo+1,.. below hi -/
 |ZC (lo hi:Int)
 /-- a zhY zfn is known to the object (the zm9;a dict while a loop walks it): read,never written while it is so -/
 |XS (o:Obj) (u:HO)
 /-- a code zne table -/
 |YE (q:Str)
 /-- any other zhY,by zhM is Qt of VU one object (a def of znd own: znF a S n:=HO.ext λh=>..) -/
 |ext (φ:ZF->Prop)
abbrev Hp:=ZE->Qo HO
def upd(H:Hp)(a:ZE)(o:HO):Hp:=λb=>if b=a then Qs o else H b
def bK:upd H a o a=Qs o:=by unfold upd;simp
def aY(h:b≠a):upd H a o b=H b:=by unfold upd;rw[Wh h]
def IL:upd (upd H a o) a u=upd H a u:=by funext b;unfold upd;split<;>rfl
def uq{H:Hp}(h:H a=Qs o)(h':H b=Qs u)(d:o≠u):a≠b:=by lia
def oo{H:Hp}(h:H a=Qs o)(h':H b=Qn):a≠b:=by lia
section
variable (P:Te)(w:UX)
def Yc(H:Hp)(h:ZF)(a:ZE):HO->Prop
 |.lst xs=>xs.length<=Sf/\∃(VU:Ql R8) (n:Nat),Vals xs VU/\h.get? a=Qs {cls:=.type "list",data:=.seq VU.toArray n}
 |.tup xs=>xs.length<=Sf/\∃VU:Ql R8,Vals xs VU/\IsTup h a VU.toArray
 |.dK Wg=>Wg.length<=Sf/\(a==sysModules)=Qf/\∃vs,KV Wg vs/\h.DictOf (gJ P w) a vs
 |.dT Wg=>Wg.length<=Sf/\(a==sysModules)=Qf/\∃xs:Ql (Ql bQ×ZE×R8),Paired (λ(p:Ql bQ×V) (q:Ql bQ×ZE×R8)=>p.1=q.1/\H q.2.1=Qs (.tup (p.1.map kV))/\RelV p.2 q.2.2) Wg xs/\∃o es ep,h.get? a=Qs o/\o.ExactDict/\o.data=.dict es ep/\es.toList=xs.map (entryOfKey (tupleKind (gJ P w)))/\(xs.map (·.1)).Nodup
 |.set S n=>h.SetOf (intKind P w) a S n
 |.ins C dx fs=>H dx=Qs (.own a)/\fs.length<=1000/\dx≠a/\h.get? a=Qs (TZ C dx)/\∃mA,h.Ns1 dx mA/\(∀f,Zf (fs.lookup f) (mA f))/\PySem.Within mA (fs.map (·.1))
 |.own _=>∃o,h.get? a=Qs o
 |.xd fs=>∃mA,h.Ns1 a mA/\∀f,Zf (fs.lookup f) (mA f)
 |.ZC lo hi=>∃t u v,h.get? a=Qs {cls:=.type "range",data:=.fields #[.int lo t,.int hi u,.int 1 v]}
 |.XS o u=>h.get? a=Qs o/\Yc H h a u
 |.YE q=>∃ps:Array R8,h.get? a=Qs {cls:=.none,data:=.fields ps}/\TriplesOk ps.toList/\∀pos cv,codeAmong pos ps.toList=Qs cv->∃(c:ZE) (oc:Obj) (vs:Array R8) (tk:Tok),cv=.ref c/\H c=Qs (.XS oc (.own 0))/\oc.data=.fields vs/\vs[1]?=Qs (.str q tk)
 |.met f x=>h.get? a=Qs (PySem.W.methodObj (.ref f) (.ref x))
 |.ext φ=>φ h/\(∃o,h.get? a=Qs o)/\∀h1 h2:ZF,φ h1->(∀o,h1.get? a=Qs o->h2.get? a=Qs o)->φ h2
def XE(H:Hp)(h:ZF):Prop:=∀a o,H a=Qs o->Yc P w H h a o
end
section
variable {P:Te}{w:UX}{H H':Hp}{h h':ZF}{a:ZE}{o:HO}
theorem Yc.lt(x:Yc P w H h a o):a<h.objs.size:=by
 cases o with
 |lst xs=>obtain⟨_,_,_,_,e⟩:=x;exact RN e
 |tup xs=>obtain⟨_,_,_,p⟩:=x;exact p.lt
 |dK Wg=>obtain⟨_,_,_,_,o,_,_,e,_⟩:=x;exact RN e
 |dT Wg=>obtain⟨_,_,_,_,o,_,_,e,_⟩:=x;exact RN e
 |set S n=>obtain⟨o,_,_,_,e,_⟩:=x;exact RN e
 |ins C dx fs=>obtain⟨_,_,_,e,_⟩:=x;exact RN e
 |own y=>obtain⟨_,e⟩:=x;exact RN e
 |xd fs=>obtain⟨_,⟨_,_,_,e,_⟩,_⟩:=x;exact RN e
 |ZC lo hi=>obtain⟨_,_,_,e⟩:=x;exact RN e
 |XS ob u=>obtain⟨e,_⟩:=x;exact RN e
 |YE q=>obtain⟨_,e,_⟩:=x;exact RN e
 |met f y=>exact RN (x)
 |ext φ=>obtain⟨_,⟨_,e⟩,_⟩:=x;exact RN e
theorem Paired.zd6:∀{l₁:Ql α}{l₂:Ql β},Paired F l₁ l₂->(∀a b,F a b->G a b)->Paired G l₁ l₂
 |_,_,.nil,_=>.nil
 |_,_,.cons r t,f=>.cons (f _ _ r) (Paired.zd6 t f)
def Yc.YQ(x:Yc P w H h a o)(k:∀b u,(b=a\/H b=Qs (.own a))->h.get? b=Qs u->h'.get? b=Qs u) (ho:∀b,H b=Qs (.own a)->H' b=Qs (.own a)) (ht:∀b xs,H b=Qs (.tup xs)->H' b=Qs (.tup xs)) (hz:∀b o u,H b=Qs (.XS o u)->H' b=Qs (.XS o u)):Yc P w H' h' a o:=by
 induction o with
 |lst xs=>obtain⟨z,VU,n,r,e⟩:=x;exact⟨z,VU,n,r,k _ _ (.inl rfl) e⟩
 |tup xs=>obtain⟨z,VU,r,ob,e,c⟩:=x;exact⟨z,VU,r,ob,k _ _ (.inl rfl) e,c⟩
 |dK Wg=>obtain⟨z,y,vs,r,ob,es,ep,e,c⟩:=x;exact⟨z,y,vs,r,ob,es,ep,k _ _ (.inl rfl) e,c⟩
 |dT Wg=>obtain⟨z,y,xs,r,ob,es,ep,e,c⟩:=x;exact⟨z,y,xs,Paired.zd6 r λp q z=>⟨z.1,ht _ _ z.2.1,z.2.2⟩,ob,es,ep,k _ _ (.inl rfl) e,c⟩
 |set S n=>obtain⟨ob,es,ep,t,e,c⟩:=x;exact⟨ob,es,ep,t,k _ _ (.inl rfl) e,c⟩
 |ins C dx fs=>obtain⟨d,z,ne,e,mA,⟨od,es,ep,e2,c⟩,r⟩:=x;exact⟨ho _ d,z,ne,k _ _ (.inl rfl) e,mA,⟨od,es,ep,k _ _ (.inr d) e2,c⟩,r⟩
 |own y=>obtain⟨ob,e⟩:=x;exact⟨ob,k _ _ (.inl rfl) e⟩
 |xd fs=>obtain⟨mA,⟨od,es,ep,e,c⟩,r⟩:=x;exact⟨mA,⟨od,es,ep,k _ _ (.inl rfl) e,c⟩,r⟩
 |ZC lo hi=>obtain⟨t,u,v,e⟩:=x;exact⟨t,u,v,k _ _ (.inl rfl) e⟩
 |XS ob u ih=>obtain⟨e,q⟩:=x;exact⟨k _ _ (.inl rfl) e,ih q⟩
 |YE q=>obtain⟨ps,e,t,r⟩:=x;exact⟨ps,k _ _ (.inl rfl) e,t,λpos cv z=>let ⟨c,oc,vs,tk,a1,a2,a3⟩:=r _ _ z;⟨c,oc,vs,tk,a1,hz _ _ _ a2,a3⟩⟩
 |met f y=>exact k a _ (.inl rfl) x
 |ext φ=>obtain⟨p,⟨o,e⟩,st⟩:=x;exact⟨st _ _ p λo q=>k _ _ (.inl rfl) q,⟨o,k _ _ (.inl rfl) e⟩,st⟩
theorem XE.lt(x:XE P w H h)(e:H a=Qs o):a<h.objs.size:=(x a o e).lt
def XE.fresh(x:XE P w H h)(e:h.objs.size<=a):H a=Qn:=by
 cases q:H a with
 |none=>rfl
 |some u=>exact absurd (RO (x.lt q) e) (T5 _)
def XE.kept(x:XE P w H h)(k:∀b u,h.get? b=Qs u->h'.get? b=Qs u):XE P w H h':=λa o e=>
 (x a o e).YQ (λb u _ q=>k b u q) (λ_ q=>q) (λ_ _ q=>q) λ_ _ _ q=>q
def XE.laid(x:XE P w H h)(k:∀b u,h.get? b=Qs u->h'.get? b=Qs u)(hp:h.objs.size<=a)(new:Yc P w (upd H a o) h' a o):XE P w (upd H a o) h':=λb u e=>by
 have hn:=x.fresh hp;by_cases hb:b=a
 .subst hb;rw[bK]at e;lia
 .rw[aY hb]at e;exact(x b u e).YQ (λc v _ q=>k c v q) (λc q=>by rw[aY (oo q hn)];assumption) (λc xs q=>by rw[aY (oo q hn)];assumption) λc o u q=>by rw[aY (oo q hn)];assumption
end
def Rd(H:Hp)(a:ZE)(u:HO):Prop:=H a=Qs u\/∃o,H a=Qs (.XS o u)
def Rd.ok(r:Rd H a u)(x:XE P w H h):Yc P w H h a u:=by
 rcases r with r|⟨o,r⟩
 .exact x a u r
 .obtain⟨_,q⟩:=x a _ r;assumption
def sy:Qo HO->Prop
 |some (.lst _)=>True
 |some (.dK _)=>True
 |some (.dT _)=>True
 |some (.set _ _)=>True
 |some (.ins _ _ _)=>True
 |some (.ext _)=>True
 |_=>False
section
variable {P:Te}{w:UX}{H:Hp}{h h':ZF}{x e:ZE}{o':HO}
def XE.write(ok:XE P w H h)(mu:sy (H x))(he:e=x\/H e=Qs (.own x))(k:∀b u,b≠e->h.get? b=Qs u->h'.get? b=Qs u)(heo:∃u,h'.get? e=Qs u) (new:Yc P w (upd H x o') h' x o'):XE P w (upd H x o') h':=λb u q=>by
 have ziD:∀c y,H c=Qs (.own y)->c≠x:=λc y r z=>by subst z;rw[r]at mu;assumption
 have ziC:∀c xs,H c=Qs (.tup xs)->c≠x:=λc xs r z=>by subst z;rw[r]at mu;assumption
 by_cases hb:b=x
 .subst hb;rw[bK]at q;lia
 .rw[aY hb]at q;by_cases hbe:b=e
  .have q':H b=Qs (.own x):=by lia
   rw[q]at q';cases q';obtain⟨v,hv⟩:=heo;exact⟨v,by lia⟩
  .refine(ok b u q).YQ (λc v hc r=>k c v ?_ r) (λc r=>by rw[aY (ziD c b r)];assumption) (λc xs r=>by rw[aY (ziC c _ r)];assumption) λc o u r=>by rw[aY (λz=>by subst z;rw[r]at mu;assumption)];assumption
   rcases hc with rfl|hc
   .assumption
   .grind
end
structure Un(fs ex:List ZE)(H H':Hp)(h h':ZF):Prop where
 keep:∀b o,h.get? b=Qs o->H b=Qn->b∉fs->b∉ex->h'.get? b=Qs o
 slot:∀b o,h.get? b=Qs o->H b=Qn->b∈fs->b∉ex->∃sl,h'.get? b=Qs {o with slots:=sl}
 free:∀b o,h.get? b=Qs o->H b=Qn->b∉ex->H' b=Qn
 there:∀b o,h.get? b=Qs o->b∉ex->∃o',h'.get? b=Qs o'
 zab:∀b xs,H b=Qs (.tup xs)->H' b=Qs (.tup xs)
 Z3:∀b o u,H b=Qs (.XS o u)->H' b=Qs (.XS o u)
 Y4:∀b q,H b=Qs (.YE q)->H' b=Qs (.YE q)
section
variable {fs fs' ex ex':Ql ZE}{H H1 H2:Hp}{h h1 h2 h':ZF}{a x e:ZE}{o:HO}
def Un.any(u:Un fs ex H H1 h h1)(q:h.get? b=Qs ob)(n:H b=Qn)(hx:b∉ex):∃sl,h1.get? b=Qs {ob with slots:=sl}:=by
 by_cases hb:b∈fs
 .exact u.slot b _ q n hb hx
 .exact⟨_,u.keep b _ q n hb hx⟩
def Un.kept(k:∀b u,h.get? b=Qs u->h'.get? b=Qs u):Un fs ex H H h h':=⟨λb ob q _ _ _=>k b _ q,λb ob q _ _ _=>⟨_,k b _ q⟩,λ_ _ _ n _=>n,λb ob q _=>⟨ob,k b _ q⟩,λ_ _ q=>q,λ_ _ _ q=>q,λ_ _ q=>q⟩
def Un.refl:Un fs ex H H h h:=Un.kept λ_ _ q=>q
def Un.laid(k:∀b u,h.get? b=Qs u->h'.get? b=Qs u)(hp:h.objs.size<=a)(hn:H a=Qn):Un fs ex H (upd H a o) h h' where
 keep:=λb u q _ _ _=>k b u q
 slot:=λb u q _ _ _=>⟨_,k b u q⟩
 free:=λb u q n _=>by rw[aY (So (RO (RN q) hp))];assumption
 there:=λb u q _=>⟨u,k b u q⟩
 zab:=λb xs q=>by rw[aY (oo q hn)];assumption
 Z3:=λb u xs q=>by rw[aY (oo q hn)];assumption
 Y4:=λb ps q=>by rw[aY (oo q hn)];assumption
def Un.write(mu:sy (H x))(he:e=x\/H e=Qs (.own x))(k:∀b u,b≠e->h.get? b=Qs u->h'.get? b=Qs u)(heo:∃u,h'.get? e=Qs u):Un fs ex H (upd H x o) h h':=by
 have hx:∀b,H b=Qn->b≠x:=λb n z=>by subst z;rw[n]at mu;assumption
 have hb:∀b,H b=Qn->b≠e:=λb n z=>by lia
 have hm:∀b u,H b=Qs u->¬sy (Qs u)->b≠x:=λb u q nm z=>by lia
 refine⟨λb u q n _ _=>k b u (hb b n) q,λb u q n _ _=>⟨_,k b u (hb b n) q⟩,λb u q n _=>by rw[aY (hx b n)];assumption,λb u q _=>?_,λb xs q=>by rw[aY (hm b _ q λz=>z)];assumption,λb u xs q=>by rw[aY (hm b _ q λz=>z)];assumption,λb ps q=>by rw[aY (hm b _ q λz=>z)];assumption⟩
 grind
end
def Ji(h:ZF)(H:Hp):Ql ZE:=(Si h.objs.size).filter λa=>(H a).isSome
def jG(h:ZF)(H:Hp):ZF:=PySem.W.hideAll h (Ji h H)
def Pj(h:ZF)(H:Hp):(jG h H).objs.size=h.objs.size:=PySem.W.hideAll_size _ _
def uW(e:h.get? b=Qs o)(n:H b=Qn):(jG h H).get? b=Qs o:=PySem.W.hideAll_get _ e λhm=>by have q:=(RY.mp hm).2;rw[n]at q;simp at q
def Nu(e:(jG h H).get? b=Qs o):h.get? b=Qs o/\H b=Qn:=by
 have e':=PySem.W.of_hideAll _ e;refine⟨e',?_⟩;cases q:H b with
 |none=>rfl
 |some x=>have z:(jG h H).get? b=Qn:=PySem.W.hideAll_none _ (RY.mpr ⟨Tg.mpr (RN e'),by simp[q]⟩);lia
end L2
section QZ
variable{K:Rv}{pos:Pos}{H:L2.Hp}{H':L2.Hp}{apos:Pos}{H1:L2.Hp}{W5:Pos}{X9:Pos}{pos':Pos}{H2:L2.Hp}{lo:Int}{tp:Pos}{Good:Ql ZE->L2.Hp->Prop}{py:Pos}{Zl:Pos}{name:Str}{T:String}{B':Ql ZE}
namespace L2
open PySem.Spec
structure Yp extends ZF where
 tabs:List (ZE×Str)
instance:Coe Yp ZF:=⟨Yp.toHeap⟩
structure Mod(K:Rv)(mg:Str->Option R8)(base:Yp):Prop where
 kin:K.In base
 glob:base.Ns mainGlobals mg
 blt:∃mb,base.Ns builtinsNs mb/\∀x:Str,x≠"__name__"->mb x=bootBuiltins x
 nolimit:base.NoLimit
 bm:∃(bm:ZE) (ob:Obj),mg "__builtins__"=Qs (.ref bm)/\bm≠builtinsNs/\base.get? bm=Qs ob/\ob.cls=.type "module"/\ob.dict=Qs builtinsNs/\ob.data=.plain
structure Cx where
 prog:Te
 w:UX
 K:Rv
 mg:Str->Option R8
 base:Yp
 A:Ua
 N:List Str
 s₀:R7
 H₀:Hp
 env:Env
 outer:List Env
 stack:List Env
 ex:List ZE
 fn:Str->Bool
 calm:Bool
 pn:List (ZE×Obj)
 xe:R8->R7->Prop
def jH(l:Ql Env):Ql ZE:=l.filterMap (·.frame)
abbrev Cx.fs(X:Cx):Ql ZE:=jH X.outer
def dD(sc:XW)(x:Str):Prop:=sc.names.lookup x=Qs .local\/sc.names.lookup x=Qs .cell\/sc.names.lookup x=Qs .free
def Loc(sc:XW)(x:Str):Prop:=sc.names.lookup x=Qs .local\/sc.names.lookup x=Qs .cell
def Rm(env:Env)(h:ZF)(m:Str->Qo R8)(x:Str)(u:R8):Prop:=(env.kindOf x=Qs .local/\m x=Qs u)\/((env.kindOf x=Qs .cell\/env.kindOf x=Qs .free)/\∃c,env.cells.lookup x=Qs c/\h.IsCell c (Qs u))
structure Cx.Ok(X:Cx):Prop where
 mod:Mod X.K X.mg X.base
 kind:X.env.scope.kind=.function
 glob:X.env.globals=mainGlobals
 blt:X.env.builtins=builtinsNs
 above:X.s₀.heap.objs.size<=X.env.locals
 inj:∀x y c,X.env.cells.lookup x=Qs c->X.env.cells.lookup y=Qs c->x=y
 has:∀x,(X.env.kindOf x=Qs .cell\/X.env.kindOf x=Qs .free)->∃c,X.env.cells.lookup x=Qs c
 cab:∀x c,X.fn x=Qt->X.env.cells.lookup x=Qs c->X.s₀.heap.objs.size<=c
 hd:X.calm=Qt->X.A.handled=Qn
 frames:X.A.frames=Qs X.stack
 stk:X.stack=X.outer\/(X.stack=X.env::X.outer/\X.env.frame=Qs X.env.locals)
 exf:∀b∈X.ex,b≠X.env.locals/\∀x c,X.env.cells.lookup x=Qs c->c≠b
 bs:∀b o,X.base.get? b=Qs o->X.s₀.heap.get? b=Qs o/\X.H₀ b=Qn
 Z8:X.base.objs.size<=X.s₀.heap.objs.size
 zby:∀b o,X.base.get? b=Qs o->b∉X.ex
 zcB:∀b∈X.ex,b∉X.fs
 Zc:X.s₀.heap.FunFrames X.base X.outer
 frf:∀b∈X.fs,X.H₀ b=Qn
 tabs:∀p∈X.base.tabs,X.H₀ p.1=Qs (.YE p.2)
structure Inv(X:Cx)(pins:List (ZE×Obj))(σ:List (Option V))(H:Hp)(s:R7):Prop where
 ok:X.Ok
 os:s.os=X.s₀.os
 bare:AllBare s.gens
 base:Un X.fs X.ex X.H₀ H X.s₀.heap s.heap
 loc:∃m,s.heap.Ns X.env.locals m/\∀(i:Nat) (x:Str) (v:V),X.N[i]?=Qs x->σ[i]?=Qs (Qs v)->dD X.env.scope x->∃u,RelV v u/\Rm X.env s.heap m x u
 cell:∀x c,X.env.cells.lookup x=Qs c->∃v,s.heap.IsCell c v
 free:H X.env.locals=Qn
 ZQ:∀x c,X.env.cells.lookup x=Qs c->H c=Qn
 pin:∀p∈X.pn++pins,s.heap.get? p.1=Qs p.2/\H p.1=Qn/\p.1≠X.env.locals/\p.1∉X.fs/\∀v,p.2.data≠.cell v
 Wk:XE X.prog X.w H s.heap
 len:σ.length=X.N.length
section
variable {X:Cx}{pins:Ql (ZE×Obj)}{σ:Ql (Qo V)}{s:R7}{h':ZF}
def Cx.Ok.ziG(ok:X.Ok)(e:X.base.get? b=Qs o):b∉X.fs:=λhb=>by have:=(ok.Zc.mem hb).1;lia
theorem Inv.bs(I:Inv X pins σ H s):∀b o,X.base.get? b=Qs o->s.heap.get? b=Qs o/\H b=Qn:=λb o e=>
 ⟨I.base.keep b o (I.ok.bs b o e).1 (I.ok.bs b o e).2 (I.ok.ziG e) (I.ok.zby b o e),I.base.free b o (I.ok.bs b o e).1 (I.ok.bs b o e).2 (I.ok.zby b o e)⟩
def Inv.bk(I:Inv X pins σ H s):∀b o,X.base.get? b=Qs o->s.heap.get? b=Qs o:=λb o e=>(I.bs b o e).1
theorem Inv.mod(I:Inv X pins σ H s):Mod X.K X.mg X.base:=I.ok.mod
def Inv.WZ(I:Inv X pins σ H s):X.K.In s.heap:=I.ok.mod.kin.keeps I.bk
theorem Inv.lt(I:Inv X pins σ H s):X.env.locals<s.heap.objs.size:=let ⟨_,hn,_⟩:=I.loc;hn.lt
def Inv.sz(I:Inv X pins σ H s):X.s₀.heap.objs.size<=s.heap.objs.size:=SH I.ok.above (Uz I.lt)
def Inv.ziE(I:Inv X pins σ H s){a:ZE}(h:s.heap.objs.size<=a):a∉X.fs:=λhb=>by obtain⟨_,o,ho,_⟩:=I.ok.Zc.mem hb;exact absurd (RO (RN ho) (SH I.sz h)) (T5 _)
def Inv.cne(I:Inv X pins σ H s):∀x c,X.env.cells.lookup x=Qs c->c≠X.env.locals:=λx c e z=>by obtain⟨v,o,ho,hd⟩:=I.cell x c e;obtain⟨m,⟨o',es,ep,ho',YA,_⟩,_⟩:=I.loc;lia
theorem Inv.Zc(I:Inv X pins σ H s):s.heap.FunFrames X.base X.outer:=by
 have all:∀l,(∀b∈jH l,b∈X.fs)->X.s₀.heap.FunFrames X.base l->s.heap.FunFrames X.base l:=by
  intro l
  induction l with
  |nil=>intro _ _;trivial
  |cons env r ih=>intro hs hl;obtain⟨hk,⟨L,o,hf,hn,ho,hd⟩,hr⟩:=hl;have hL:=hs L (by unfold jH;simp_all);obtain⟨sl,e⟩:=I.base.slot L o ho (I.ok.frf L hL) hL λz=>I.ok.zcB L z hL;exact⟨hk,⟨L,_,hf,hn,e,hd⟩,ih (λb hb=>hs b (by unfold jH;rw[Vy,hf];exact Rx _ hb)) hr⟩
 exact all _ (λ_ hb=>hb) I.ok.Zc
theorem Inv.stack(I:Inv X pins σ H s):s.heap.FunFrames X.base X.stack:=by
 rcases I.ok.stk with e|⟨e,hf⟩
 .rw[e];exact I.Zc
 .rw[e];obtain⟨m,hn,_⟩:=I.loc;refine .cons (by rw[I.ok.kind];decide) hf hn ?_ I.Zc;exact Heap.get?_none_of_le (SH I.ok.Z8 I.ok.above)
def Inv.zbq(I:Inv X pins σ H s):∀b∈jH X.stack,b∈X.env.locals::X.fs:=λb hb=>by
 rcases I.ok.stk with e|⟨e,hf⟩
 .simp_all
 .rw[e]at hb;unfold jH at hb;rw[Vy,hf]at hb;assumption
def Inv.zft(I:Inv X pins σ H s):∀b∈jH X.stack,H b=Qn:=λb hb=>by
 rcases RB.mp (I.zbq b hb) with e|hb
 .rw[e];exact I.free
 .obtain⟨_,o,ho,_⟩:=I.ok.Zc.mem hb;exact I.base.free b o ho (I.ok.frf b hb) λz=>I.ok.zcB b z hb
def Inv.step{ch:Ql ZE}(I:Inv X pins σ H s) (hch:∀b∈ch,(b∈X.ex\/X.s₀.heap.objs.size<=b)/\b≠X.env.locals/\(∀x c,X.env.cells.lookup x=Qs c->c≠b)/\∀p∈X.pn++pins,p.1≠b) (keep:∀b o,b≠X.env.locals->b∉X.fs->b∉ch->s.heap.get? b=Qs o->H b=Qn->h'.get? b=Qs o) (slot:∀b o,b≠X.env.locals->b∈X.fs->b∉ch->s.heap.get? b=Qs o->H b=Qn->∃sl,h'.get? b=Qs {o with slots:=sl}) (free:∀b o,b∉ch->s.heap.get? b=Qs o->H b=Qn->H' b=Qn) (there:∀b o,b∉ch->s.heap.get? b=Qs o->∃o',h'.get? b=Qs o') (zab:∀b xs,H b=Qs (.tup xs)->H' b=Qs (.tup xs)) (Z3:∀b o u,H b=Qs (.XS o u)->H' b=Qs (.XS o u)) (Y4:∀b q,H b=Qs (.YE q)->H' b=Qs (.YE q)) (ns:∀m,s.heap.Ns X.env.locals m->h'.Ns X.env.locals m) (Wk:XE X.prog X.w H' h') (hg:AllBare g'):Inv X pins σ H' {s with heap:=h',gens:=g',drawn:=d',toks:=t'}:=by
 have neL:∀b o,X.s₀.heap.get? b=Qs o->b≠X.env.locals:=λb o e=>So (RO (RN e) I.ok.above);have neC:∀b o,X.s₀.heap.get? b=Qs o->b∉X.ex->b∉ch:=λb o e hx hb=>by
  rcases(hch b hb).1 with z|z
  .exact hx z
  .exact absurd (RO (RN e) z) (T5 _)
 have cellK:∀x c,X.env.cells.lookup x=Qs c->∀v,s.heap.IsCell c v->h'.IsCell c v:=λx c e v ⟨o,ho,hd⟩=>by
  have nch:c∉ch:=λz=>(hch c z).2.2.1 x c e rfl;by_cases hc:c∈X.fs
  .obtain⟨sl,q⟩:=slot c o (I.cne x c e) hc nch ho (I.ZQ x c e);exact⟨_,q,hd⟩
  .exact⟨o,keep c o (I.cne x c e) hc nch ho (I.ZQ x c e),hd⟩
 refine⟨I.ok,I.os,hg,⟨λb o e n hb hx=>?_,λb o e n hb hx=>?_,λb o e n hx=>?_,λb o e hx=>?_,λb xs e=>zab b xs (I.base.zab b xs e),λb o xs e=>Z3 b o xs (I.base.Z3 b o xs e),λb ps e=>?_⟩,?_,λx c e=>?_,?_,λx c e=>?_,λp hp=>?_,Wk,I.len⟩
 .exact keep b o (neL b o e) hb (neC b o e hx) (I.base.keep b o e n hb hx) (I.base.free b o e n hx)
 .obtain⟨sl,e1⟩:=I.base.slot b o e n hb hx;obtain⟨sl',e2⟩:=slot b _ (neL b o e) hb (neC b o e hx) e1 (I.base.free b o e n hx);exact⟨sl',e2⟩
 .obtain⟨o',e1⟩:=I.base.there b o e hx;exact free b _ (neC b o e hx) e1 (I.base.free b o e n hx)
 .obtain⟨o',e1⟩:=I.base.there b o e hx;exact there b _ (neC b o e hx) e1
 .exact Y4 b _ (I.base.Y4 b _ e)
 .obtain⟨m,hn,hl⟩:=I.loc;refine⟨m,ns m hn,λi x v e1 e2 e3=>?_⟩;obtain⟨u,r,l⟩:=hl i x v e1 e2 e3;refine⟨u,r,?_⟩;rcases l with l|⟨k,c,e,z⟩
  .exact .inl l
  .exact .inr ⟨k,c,e,cellK x c e _ z⟩
 .obtain⟨v,z⟩:=I.cell x c e;exact⟨v,cellK x c e v z⟩
 .obtain⟨m,⟨o,_,_,ho,_⟩,_⟩:=I.loc;exact free _ o (λz=>(hch _ z).2.1 rfl) ho I.free
 .obtain⟨v,o,ho,hd⟩:=I.cell x c e;exact free c o (λz=>(hch c z).2.2.1 x c e rfl) ho (I.ZQ x c e)
 .obtain⟨e,n,ne,nf,d⟩:=I.pin p hp;have nch:=λz=>(hch _ z).2.2.2 p hp rfl;exact⟨keep _ _ ne nf nch e n,free _ _ nch e n,ne,nf,d⟩
def Inv.un(I:Inv X pins σ H s)(u:Un X.fs [] H H' s.heap h')(Wk:XE X.prog X.w H' h'):Inv X pins σ H' {s with heap:=h',toks:=t'}:=by
 obtain⟨m,⟨o,es,ep,ho,r⟩,_⟩:=id I.loc;obtain⟨sl,hL⟩:=u.any ho I.free (by simp);exact I.step (ch:=[]) (λ_ z=>nomatch z) (λb o _ hb _ e n=>u.keep b o e n hb (by assumption)) (λb o _ hb _ e n=>u.slot b o e n hb (by assumption)) (λb o _ e n=>u.free b o e n (by assumption)) (λb o _ e=>u.there b o e (by assumption)) u.zab u.Z3 u.Y4 (λm' hm=>by
  obtain⟨o',Xf,ep',ho',r'⟩:=hm;rw[ho]at ho';cases ho';exact⟨_,Xf,ep',hL,r'⟩) Wk I.bare
def Inv.call(I:Inv X pins σ H s)(u:Un (jH X.stack) ch H H' s.heap h')(Wk:XE X.prog X.w H' h')(hg:AllBare g') (hch:∀b∈ch,(b∈X.ex\/X.s₀.heap.objs.size<=b)/\b≠X.env.locals/\(∀x c,X.env.cells.lookup x=Qs c->c≠b)/\∀p∈X.pn++pins,p.1≠b):Inv X pins σ H' {s with heap:=h',gens:=g',drawn:=d',toks:=t'}:=by
 obtain⟨m,⟨o,es,ep,ho,r⟩,_⟩:=id I.loc;obtain⟨sl,hL⟩:=u.any ho I.free λz=>(hch _ z).2.1 rfl;exact I.step hch (λb o hL hb hc e n=>u.keep b o e n (λz=>(RB.mp (I.zbq b z)).elim hL hb) hc) (λb o _ _ hc e n=>u.any e n hc) (λb o hc e n=>u.free b o e n hc) (λb o hc e=>u.there b o e hc) u.zab u.Z3 u.Y4 (λm' hm=>by
  obtain⟨o',Xf,ep',ho',r'⟩:=hm;rw[ho]at ho';cases ho';exact⟨_,Xf,ep',hL,r'⟩) Wk hg
def Inv.turned(I:Inv X pins σ H s)(k:∀b o,b≠it->s.heap.get? b=Qs o->h'.get? b=Qs o)(hn:H it=Qn)(hL:it≠X.env.locals) (h1:it∈X.ex\/X.s₀.heap.objs.size<=it) (h2:∀x c,X.env.cells.lookup x=Qs c->c≠it) (h3:∀p∈X.pn++pins,p.1≠it):Inv X pins σ H {s with heap:=h',toks:=t'}:=by
 have nit:∀b u,H b=Qs u->b≠it:=λb u e z=>by lia
 refine I.step (g':=s.gens) (d':=s.drawn) (ch:=[it]) (λb hb=>?_) (λb o _ _ hc e _=>k b o (λz=>hc (by simp[z])) e) (λb o _ _ hc e _=>⟨o.slots,k b o (λz=>hc (by simp[z])) e⟩) (λ_ _ _ _ n=>n) (λb o hc e=>⟨o,k b o (λz=>hc (by simp[z])) e⟩) (λ_ _ e=>e) (λ_ _ _ e=>e) (λ_ _ e=>e) (λm hm=>?_) (λb u e=>?_) I.bare
 .have e:=by simpa using hb
  subst e;exact⟨h1,hL,h2,h3⟩
 .obtain⟨o,es,ep,ho,r⟩:=hm;exact⟨o,es,ep,k _ o (Ne.symm hL) ho,r⟩
 .refine(I.Wk b u e).YQ (λc v hc q=>k c v ?_ q) (λ_ q=>q) (λ_ _ q=>q) λ_ _ _ q=>q;lia
def Inv.tok(I:Inv X pins σ H s)(t:Nat):Inv X pins σ H {s with toks:=t}:=I.un Un.refl I.Wk
theorem Inv.kept(I:Inv X pins σ H s)(k:∀b u,s.heap.get? b=Qs u->h'.get? b=Qs u):Inv X pins σ H {s with heap:=h',toks:=t'}:=I.un (Un.kept k) (I.Wk.kept k)
theorem Inv.laid{a:ZE}(I:Inv X pins σ H s)(k:∀b u,s.heap.get? b=Qs u->h'.get? b=Qs u)(hp:s.heap.objs.size<=a)(new:Yc X.prog X.w (upd H a o) h' a o) :Inv X pins σ (upd H a o) { s with heap:=h',toks:=t' }:=I.un (Un.laid k hp (I.Wk.fresh hp)) (I.Wk.laid k hp new)
theorem Inv.write(I:Inv X pins σ H s)(mu:sy (H x))(he:e=x\/H e=Qs (.own x))(k:∀b u,b≠e->s.heap.get? b=Qs u->h'.get? b=Qs u)(heo:∃u,h'.get? e=Qs u)
  (new:Yc X.prog X.w (upd H x o) h' x o):Inv X pins σ (upd H x o) { s with heap:=h',toks:=t' }:=I.un (Un.write mu he k heo) (I.Wk.write mu he k heo new)
def Inv.zfM(I:Inv X pins σ H s)(h:∀p∈Y6,s.heap.get? p.1=Qs p.2/\H p.1=Qn/\p.1≠X.env.locals/\p.1∉X.fs/\∀v,p.2.data≠.cell v):Inv X Y6 σ H s:=⟨I.ok,I.os,I.bare,I.base,I.loc,I.cell,I.free,I.ZQ,λp hp=>(Ry.mp hp).elim (λz=>I.pin p (Rw _ z)) (h p),I.Wk,I.len⟩
def Eh{N:Ql Str}(hN:N.Nodup){i j:Nat}(a:N[i]?=Qs x)(b:N[j]?=Qs x):i=j:=by obtain⟨h1,e1⟩:=RZ.mp a;obtain⟨h2,e2⟩:=RZ.mp b;exact(List.getElem_inj hN).mp (e1.trans e2.symm)
def wX(I:Inv X pins σ H s)(hN:X.N.Nodup)(hi:X.N[i]?=Qs x)(hx:Loc X.env.scope x)(r:RelV v u) (h:∀s',Inv X pins (σ.set i (Qs v)) H s'->(∃a,Heap.SameBut a s.heap s'.heap/\(a=X.env.locals\/X.env.cells.lookup x=Qs a))->Q () s') (hf:autoParam (X.fn x=Qt\/X.env.scope.names.lookup x=Qs .local) qzB._auto_1):wpAny M A (storeName X.env x u) Q E s:=by
 obtain⟨m,hn,hl⟩:=id I.loc;have zjS:(X.env.scope.kind==.class||(X.env.scope.kind==.module&&X.env.locals !=X.env.globals))=Qf:=by rw[I.ok.kind];rfl
 have hiσ:i<σ.length:=by rw[I.len];exact(RZ.mp hi).1
 have cne:=I.cne;have tracked:∀{a:ZE}{h':ZF},(∃o,s.heap.get? a=Qs o/\H a=Qn)->Heap.SameBut a s.heap h'->XE X.prog X.w H h':=λ{a h'} ha hs b ob e=>by refine(I.Wk b _ e).YQ (λc w' hc q=>(hs.2 c ?_).trans q) (λ_ q=>q) (λ_ _ q=>q) λ_ _ _ q=>q;lia
 rcases hx with hk|hk
 .refine wpAny_storeName_local hk hn (λh' hn' hs=>?_) zjS;obtain⟨oL,_,_,hoL,_⟩:=id hn;refine h _ ⟨I.ok,I.os,I.bare,⟨λb o e n hb hx=>?_,λb o e n hb hx=>?_,I.base.free,λb o e hx=>?_,I.base.zab,I.base.Z3,I.base.Y4⟩,⟨_,hn',λj y v' e1 e2 e3=>?_⟩,λy c e=>?_,I.free,I.ZQ,λp hp=>?_,tracked ⟨oL,hoL,I.free⟩ hs,by simpa using I.len⟩ ⟨_,hs,.inl rfl⟩
  .exact(hs.2 b (So (RO (RN e) I.ok.above))).trans (I.base.keep b o e n hb hx)
  .obtain⟨sl,e1⟩:=I.base.slot b o e n hb hx;exact⟨sl,(hs.2 b (So (RO (RN e) I.ok.above))).trans e1⟩
  .obtain⟨o',e1⟩:=I.base.there b o e hx;exact⟨o',(hs.2 b (So (RO (RN e) I.ok.above))).trans e1⟩
  .by_cases hj:j=i
   .subst hj;rw[hi]at e1;cases e1;rw[Ts hiσ]at e2;cases e2;exact⟨u,r,.inl ⟨hk,by simp⟩⟩
   .rw[Ss (Ne.symm hj)]at e2;obtain⟨u',r',q⟩:=hl j y v' e1 e2 e3;refine⟨u',r',?_⟩;rcases q with⟨k,e⟩|⟨k,c,e,z⟩
    .refine .inl ⟨k,?_⟩;have:y≠x:=λe=>hj (Eh hN e1 (e▸hi));simp[this,e]
    .exact .inr ⟨k,c,e,z.sameBut hs (cne y c e)⟩
  .obtain⟨w',z⟩:=I.cell y c e;exact⟨w',z.sameBut hs (cne y c e)⟩
  .obtain⟨e,n,ne,nf,d⟩:=I.pin p hp;exact⟨(hs.2 _ ne).trans e,n,ne,nf,d⟩
 .have hfn:X.fn x=Qt:=by lia
  obtain⟨c,hc⟩:=I.ok.has x (.inl hk);obtain⟨w',z⟩:=I.cell x c hc;refine wpAny_storeName_cell I.ok.kind hk hc z (λh' hc' hs=>?_);obtain⟨oc,hoc,zno⟩:=id z;refine h {s with heap:=h'} ⟨I.ok,I.os,I.bare,⟨λb o e n hb hx=>?_,λb o e n hb hx=>?_,I.base.free,λb o e hx=>?_,I.base.zab,I.base.Z3,I.base.Y4⟩,⟨m,hn.sameBut hs (Ne.symm (cne x c hc)),λj y v' e1 e2 e3=>?_⟩,λy c' e=>?_,I.free,I.ZQ,λp hp=>?_,tracked ⟨oc,hoc,I.ZQ x c hc⟩ hs,by simpa using I.len⟩ ⟨c,hs,.inr hc⟩
  .exact(hs.2 b (So (RO (RN e) (I.ok.cab x c hfn hc)))).trans (I.base.keep b o e n hb hx)
  .obtain⟨sl,e1⟩:=I.base.slot b o e n hb hx;exact⟨sl,(hs.2 b (So (RO (RN e) (I.ok.cab x c hfn hc)))).trans e1⟩
  .obtain⟨o',e1⟩:=I.base.there b o e hx;exact⟨o',(hs.2 b (So (RO (RN e) (I.ok.cab x c hfn hc)))).trans e1⟩
  .by_cases hj:j=i
   .subst hj;rw[hi]at e1;cases e1;rw[Ts hiσ]at e2;cases e2;exact⟨u,r,.inr ⟨.inl hk,c,hc,hc'⟩⟩
   .rw[Ss (Ne.symm hj)]at e2;obtain⟨u',r',q⟩:=hl j y v' e1 e2 e3;refine⟨u',r',?_⟩;rcases q with q|⟨k,c',e,z'⟩
    .exact .inl q
    .refine .inr ⟨k,c',e,z'.sameBut hs ?_⟩;rintro rfl;exact hj (Eh hN e1 (I.ok.inj _ _ _ e hc▸hi))
  .by_cases hcc:c'=c
   .subst hcc;exact⟨_,hc'⟩
   .obtain⟨w2,z2⟩:=I.cell y _ e;exact⟨w2,z2.sameBut hs hcc⟩
  .obtain⟨e,n,ne,nf,d⟩:=I.pin p hp;refine⟨(hs.2 _ ?_).trans e,n,ne,nf,d⟩;intro q
   simp_all
def td(I:Inv X pins σ H s)(hN:X.N.Nodup)(hi:X.N[i]?=Qs x)(hx:Loc X.env.scope x)(r:RelV v u) (h:∀s',Inv X pins (σ.set i (Qs v)) H s'->Q () s') (hf:autoParam (X.fn x=Qt\/X.env.scope.names.lookup x=Qs .local) qzB._auto_1):wpAny M A (storeName X.env x u) Q E s:=wX I hN hi hx r (λs' I' _=>h _ I') hf
end
abbrev XK:=R8->Qo ZE->Hp->Prop
abbrev St:=Ql (Qo V)
abbrev VK:=V->Hp->Prop
abbrev TE:=St->Hp->VK->Prop
abbrev TT:=St->Hp->(Bool->Hp->Prop)->Prop
abbrev TA:=St->Hp->(Ql V->Hp->Prop)->Prop
structure Ends where
 nx:St->Hp->Prop
 rt:VK
 bk:St->Hp->Prop:=λ_ _=>False
 ct:St->Hp->Prop:=λ_ _=>False
abbrev TS:=Ends->St->Hp->Prop
inductive EP(X:Cx)(pins:List (ZE×Obj))(σ:St)(Q:VK)(u:R8)(s':R7):Prop
 |mk (v H':_) (_:Inv X pins σ H' s') (_:RelV v u) (_:Q v H')
inductive TP(X:Cx)(pins:List (ZE×Obj))(σ:St)(Q:Bool->Hp->Prop)(b:Bool)(s':R7):Prop
 |mk (H':_) (_:Inv X pins σ H' s') (_:Q b H')
inductive AP(X:Cx)(pins:List (ZE×Obj))(σ:St)(Q:List V->Hp->Prop)(us:List R8)(s':R7):Prop
 |mk (vs H':_) (_:Inv X pins σ H' s') (_:Vals vs us) (_:Q vs H')
inductive SN(X:Cx)(pins:List (ZE×Obj))(N:St->Hp->Prop)(s':R7):Prop
 |mk (σ':St) (H':Hp) (_:Inv X pins σ' H' s') (_:N σ' H')
inductive SR(X:Cx)(pins:List (ZE×Obj))(N:VK)(u:R8)(s':R7):Prop
 |mk (v:V) (σ':St) (H':Hp) (_:Inv X pins σ' H' s') (_:RelV v u) (_:N v H')
def SP(X:Cx)(pins:Ql (ZE×Obj))(D:Ends)(f:Flow)(s':R7):Prop:=match f with
 |.next=>SN X pins D.nx s'
 |.brk=>SN X pins D.bk s'
 |.cont=>SN X pins D.ct s'
 |.ret u=>SR X pins D.rt u s'
def PE(X:Cx)(e:ZG)(t:TE):Prop:=∀(pins:Ql (ZE×Obj)) (s:R7) (σ:St) (H:Hp) (Q:VK),Inv X pins σ H s->t σ H Q->wpAny (model X.prog X.w) X.A (eval e X.env) (EP X pins σ Q) X.xe s
def PT(X:Cx)(e:ZG)(t:TT):Prop:=∀(pins:Ql (ZE×Obj)) (s:R7) (σ:St) (H:Hp) (Q:Bool->Hp->Prop),Inv X pins σ H s->t σ H Q->wpAny (model X.prog X.w) X.A (isTrue e X.env (eval e X.env)) (TP X pins σ Q) X.xe s
def PW(X:Cx)(e:ZG)(t:TT):Prop:=∀(whole:Sem R8) (pins:Ql (ZE×Obj)) (s:R7) (σ:St) (H:Hp) (Q:Bool->Hp->Prop),Inv X pins σ H s->t σ H Q->wpAny (model X.prog X.w) X.A (isTrue e X.env whole) (TP X pins σ Q) X.xe s
def PW.pt(h:PW X e t):PT X e t:=h _
def PA(X:Cx)(es:Ql ZG)(t:TA):Prop:=∀(pos:Pos) (pins:Ql (ZE×Obj)) (s:R7) (σ:St) (H:Hp) (Q:Ql V->Hp->Prop),Inv X pins σ H s->t σ H Q->wpAny (model X.prog X.w) X.A (spliced (TV pos (RM es X.env))) (AP X pins σ Q) X.xe s
def PS(X:Cx)(st:ZH)(t:TS):Prop:=∀(pins:Ql (ZE×Obj)) (s:R7) (σ:St) (H:Hp) (D:Ends),Inv X pins σ H s->t D σ H->wpAny (model X.prog X.w) X.A (exec st X.env) (SP X pins D) X.xe s
def WH(X:Cx)(st:Ql ZH)(t:TS):Prop:=∀(pins:Ql (ZE×Obj)) (s:R7) (σ:St) (H:Hp) (D:Ends),Inv X pins σ H s->t D σ H->wpAny (model X.prog X.w) X.A (execs st X.env) (SP X pins D) X.xe s
def aF{M:Model}{A:Ua}{E:R8->R7->Prop}{s:R7}(h:wpAny M A t Q E s)(hQ:∀a s,Q a s->Q' a s):wpAny M A t Q' E s:=wpAny_mono h hQ λ_ _ x=>x
end L2
variable{te:L2.TE}
namespace L2
open PySem.Spec
section
variable {X:Cx}
def si(ha:PE X a ta)(hb:PE X b tb){σ:St}{R:V->V->Hp->Prop}(I:Inv X pins σ H s)(h:ta σ H λx H1=>tb σ H1 λy H2=>R x y H2){f:R8->R8->Sem α} (hf:∀v u s2 x y H2,Inv X pins σ H2 s2->RelV x v->RelV y u->R x y H2->wpAny (model X.prog X.w) X.A (f v u) Q X.xe s2):wpAny (model X.prog X.w) X.A (eval a X.env) (λv s₁=>wpAny (model X.prog X.w) X.A (eval b X.env) (λu s₂=>wpAny (model X.prog X.w) X.A (f v u) Q X.xe s₂) X.xe s₁) X.xe s:=by refine aF (ha _ s σ H _ I h) λv s1 ⟨x,H1,I1,r1,q1⟩=>?_;refine aF (hb _ _ σ _ _ I1 q1) λu s2 ⟨y,H2,I2,r2,q2⟩=>?_;exact hf v u _ x y _ I2 r1 r2 q2
def wO(i:Nat):TE:=λσ H Q=>∃v,σ[i]?=Qs (Qs v)/\Q v H
def tC(v:V):TE:=λ_ H Q=>Q v H
def dU (hN:X.N[i]?=Qs x)(hv:dD X.env.scope x)(hd:Xg x:=by decide)(W3:X4 x:=by decide):PE X (.Name x pos) (wO i):=by
 intro pins s σ H Q I h;obtain⟨v,e,h⟩:=h;obtain⟨m,hn,hl⟩:=I.loc;obtain⟨u,r,l⟩:=hl i x v hN e hv;have fin:EP X pins σ Q u s:=⟨v,H,I,r,h⟩;rcases l with⟨hk,hm⟩|⟨hk,c,hc,zgp⟩
 .exact wpAny_Name (wpAny_loadName_local I.ok.kind hk hn hm fin) hd
 .rcases hk with hk|hk
  .exact wpAny_Name (wpAny_loadName_cell I.ok.kind hk hc zgp fin) hd
  .exact wpAny_Name (wpAny_loadName_free I.ok.kind hk hc zgp fin W3) hd
def yR:PE X (.Constant (.int i) j pos) (tC (.int i)):=λ_ _ _ H _ I h=>wpAny_Constant_int ⟨.int i,H,I.tok _,⟨_,rfl⟩,h⟩
def Ml:PE X (.Constant (.bool b) j pos) (tC (.bl b)):=λ_ _ _ H _ I h=>Constant_bool ⟨.bl b,H,I,rfl,h⟩
def Md:PE X (.Constant .none j pos) (tC .Wj):=λ_ _ _ H _ I h=>Constant_none ⟨.Wj,H,I,rfl,h⟩
def Gl(X:Cx)(x:Str):Prop:=X.env.kindOf x=Qs .globalImplicit
def Fp{σ:St}(I:Inv X pins σ H s)(hg:Gl X x)(hm:X.mg x=Qs u)(h:Q u s) (hd:Xg x:=by decide):wpAny (model X.prog X.w) X.A (eval (.Name x pos) X.env) Q E s:=Calls.Name_function_global I.ok.kind hg (Calls.loadGlobal_global (by rw[I.ok.glob];exact I.mod.glob.keeps I.bk) hm h) hd
def jB{E:R8->R7->Prop}{σ:St}(I:Inv X pins σ H s)(hg:Gl X x)(hm:X.mg x=Qn)(hv:bootBuiltins x=Qs u)(h:Q u s) (hn:x≠"__name__":=by decide) (hd:Xg x:=by decide):wpAny (model X.prog X.w) X.A (eval (.Name x pos) X.env) Q E s:=by obtain⟨mb,h1,h2⟩:=I.mod.blt;exact Calls.Name_function_global I.ok.kind hg (Calls.loadGlobal_builtin (by rw[I.ok.glob];exact I.mod.glob.keeps I.bk) hm (by rw[I.ok.blt];exact h1.keeps I.bk) ((h2 x hn).trans hv) h) hd
def Mj (hg:Gl X x)(hm:X.mg x=Qn)(hv:bootBuiltins x=Qs u)(r:RelV v u)(hn:x≠"__name__":=by decide)(hd:Xg x:=by decide):PE X (.Name x pos) (tC v):=λ_ _ _ H _ I h=>jB I hg hm hv ⟨v,H,I,r,h⟩ hn hd
variable {a b:ZG}{ta tb:TE}
variable {tA tB':TT}
def zfq(t u:TT):TT:=λσ H Q=>t σ H λc H1=>if c=Qt then u σ H1 Q else Q Qf H1
def tOr(t u:TT):TT:=λσ H Q=>t σ H λc H1=>if c=Qt then Q Qt H1 else u σ H1 Q
def zfp(t:TT):TT:=λσ H Q=>t σ H λc H1=>Q (!c) H1
def Dj(ha:PT X a tA):PW X (.BoolOp .And [a] pos) tA:=by
 intro wh pins s σ H Q I h;refine isTrue_and (aF (ha _ s σ H Q I h) λc s1 e=>?_);cases c with
 |true=>exact isTrue_and_nil e
 |false=>assumption
def Dh(ha:PT X a tA):PW X (.BoolOp .Or [a] pos) tA:=by
 intro wh pins s σ H Q I h;refine isTrue_or (aF (ha _ s σ H Q I h) λc s1 e=>?_);cases c with
 |false=>exact isTrue_or_nil e
 |true=>assumption
def KZ(ha:PT X a tA)(hb:PW X (.BoolOp .And (b::rest) pos) tB'):PW X (.BoolOp .And (a::b::rest) pos) (zfq tA tB'):=by
 intro wh pins s σ H Q I h;refine isTrue_and (aF (ha _ s σ H _ I h) λc s1 ⟨H1,I1,q1⟩=>?_);cases c with
 |true=>exact hb _ _ _ σ _ Q I1 q1
 |false=>exact⟨H1,I1,q1⟩
def Di(ha:PT X a tA)(hb:PW X (.BoolOp .Or (b::rest) pos) tB'):PW X (.BoolOp .Or (a::b::rest) pos) (tOr tA tB'):=by
 intro wh pins s σ H Q I h;refine isTrue_or (aF (ha _ s σ H _ I h) λc s1 ⟨H1,I1,q1⟩=>?_);cases c with
 |true=>exact⟨H1,I1,q1⟩
 |false=>exact hb _ _ _ σ _ Q I1 q1
def Lb(ha:PT X a tA):PT X (.UnaryOp .Not a pos) (zfp tA):=by intro pins s σ H Q I h;exact isTrue_not (aF (ha _ s σ H _ I h) λc s1 ⟨H1,I1,q1⟩=>⟨H1,I1,q1⟩)
def JU(ta tb:TE):TE:=λσ H Q=>ta σ H λx H1=>∃c,x=.bl c/\if c=Qt then tb σ H1 Q else Q (.bl Qf) H1
def JA(ta:TE):TE:=λσ H Q=>ta σ H λx H1=>∃c,x=.bl c/\Q (.bl (!c)) H1
def Mb(h:PE X a t):PE X (.BoolOp op [a] pos) t:=λpins s σ H Q I hw=>BoolOp_one (h _ s σ H Q I hw)
def Mm(ha:PE X a ta)(hb:PE X (.BoolOp .And (b::rest) pos) tb):PE X (.BoolOp .And (a::b::rest) pos) (JU ta tb):=by
 intro pins s σ H Q I h;refine BoolOp_and (aF (ha _ s σ H _ I h) λv s1 ⟨x,H1,I1,r1,q1⟩=>?_);obtain⟨c,rfl,q1⟩:=q1;cases r1;refine wpAny_truthy_bool ?_;cases c with
 |true=>exact hb _ _ σ _ Q I1 q1
 |false=>exact⟨.bl _,H1,I1,rfl,q1⟩
def Mc(ha:PE X a ta):PE X (.UnaryOp .Not a pos) (JA ta):=by intro pins s σ H Q I h;refine UnaryOp_ (aF (ha _ s σ H _ I h) λv s1 ⟨x,H1,I1,r1,q1⟩=>?_);obtain⟨c,rfl,q1⟩:=q1;cases r1;exact not_of (wpAny_truthy_bool ⟨.bl _,H1,I1,rfl,q1⟩)
def JI(t:TT)(ta tb:TE):TE:=λσ H Q=>t σ H λc H1=>if c=Qt then ta σ H1 Q else tb σ H1 Q
def Mg(hc:PT X c tA)(ha:PE X a ta)(hb:PE X b tb):PE X (.IfExp c a b pos) (JI tA ta tb):=by
 intro pins s σ H Q I h;refine wpAny_IfExp (aF (hc _ s σ H _ I h) λd s1 ⟨H1,I1,q1⟩=>?_);cases d with
 |true=>exact ha _ _ σ _ Q I1 q1
 |false=>exact hb _ _ σ _ Q I1 q1
end
def V5(K:Rv)(H:Hp)(a:ZE)(xs:Ql V):Prop:=Rd H a (.lst xs) \/
  ∃(o:Obj) (VU:Array R8) (n:Nat),K.lookup a=Qs o/\o.cls=.type "list"/\o.dict=Qn/\o.data=.seq VU n/\VU.size<=Sf/\Vals xs VU.toList
def WG(K:Rv)(H:Hp)(a:ZE)(xs:Ql V):Prop:=H a=Qs (.tup xs)
noncomputable def Rg:R8->Qo V
 |.none=>Qs .Wj
 |.bool b=>Qs (.bl b)
 |.int i _=>Qs (.int i)
 |.str x _=>Qs (.str x)
 |.bytes b _=>Qs (.Y1 b)
 |.float b _=>Qs (.flt b)
 |.ref a=>Qs (.ref a)
 |.type n=>Qs (.ty n)
 |_=>Qn
def RelV.abs(r:RelV x u):Rg u=Qs x:=by
 cases x with
 |Wj=>cases r;rfl
 |bl _=>cases r;rfl
 |int _=>obtain⟨t,rfl⟩:=r;rfl
 |str _=>obtain⟨t,rfl⟩:=r;rfl
 |Y1 _=>obtain⟨t,rfl⟩:=r;rfl
 |flt _=>obtain⟨t,rfl⟩:=r;rfl
 |ref _=>cases r;rfl
 |ty _=>cases r;rfl
def RelV.inj(r:RelV x u)(q:RelV y u):x=y:=SX (r.abs.symm.trans q.abs)
theorem Vals.inj:∀{xs ys:Ql V}{us:Ql R8},Vals xs us->Vals ys us->xs=ys
 |_,_,_,.nil,.nil=>rfl
 |_,_,_,.cons r t,.cons r' t'=>by rw[r.inj r',Vals.inj t t']
section
variable {X:Cx}{pins:Ql (ZE×Obj)}{σ:St}{s:R7}{a:ZE}{xs ys:Ql V}
def V5.of (h:H a=Qs (.lst xs)):V5 K H a xs:=.inl (.inl h)
def WG.of (h:H a=Qs (.tup xs)):WG K H a xs:=h
def Inv.list(I:Inv X pins σ H s)(h:V5 X.K H a xs):∃VU:Ql R8,Vals xs VU/\PlainL s.heap a VU.toArray/\xs.length<=Sf:=by
 rcases h with h|⟨o,VU,n,hk,hc,hd,hs,hz,r⟩
 .obtain⟨z,VU,n,r,e⟩:=h.ok I.Wk;exact⟨VU,r,⟨_,n,e,rfl,rfl,rfl⟩,z⟩
 .refine⟨_,r,⟨o,n,I.WZ a o hk,hc,hd,hs⟩,?_⟩;have e:=r.length
  simp_all
def Inv.tuple(I:Inv X pins σ H s)(h:WG X.K H a xs):∃VU:Ql R8,Vals xs VU/\IsTup s.heap a VU.toArray/\xs.length<=Sf:=by obtain⟨z,VU,r,p⟩:=((I.Wk a _ h));exact⟨VU,r,p,z⟩
def Inv.zci(I:Inv X pins σ H s)(h:V5 X.K H a xs)(h':V5 X.K H a ys):xs=ys:=by
 obtain⟨VU,r,⟨o,n,e,_,_,d⟩,_⟩:=I.list h;obtain⟨XF,r',⟨o',n',e',_,_,d'⟩,_⟩:=I.list h';rw[e]at e';cases e';rw[d]at d';have:VU=XF:=by lia
 subst this;exact r.inj r'
def Inv.zfl(I:Inv X pins σ H s)(h:WG X.K H a xs)(h':WG X.K H a ys):xs=ys:=by
 obtain⟨VU,r,⟨o,e,_,n,d⟩,_⟩:=I.tuple h;obtain⟨XF,r',⟨o',e',_,n',d'⟩,_⟩:=I.tuple h';rw[e]at e';cases e';rw[d]at d';have:VU=XF:=by lia
 subst this;exact r.inj r'
end
noncomputable abbrev Cx.ZU(X:Cx)(E:R8->R7->Prop):Cx:={X with xe:=E}
abbrev Cx.ZI(X:Cx):Cx:=X.ZU λ_ _=>False
theorem Cx.Ok.ZU{X:Cx}(ok:X.Ok)(E:R8->R7->Prop):(X.ZU E).Ok:=⟨ok.mod,ok.kind,ok.glob,ok.blt,ok.above,ok.inj,ok.has,ok.cab,ok.hd,ok.frames,ok.stk,ok.exf,ok.bs,ok.Z8,ok.zby,ok.zcB,ok.Zc,ok.frf,ok.tabs⟩
def Cx.Ok.zaB{X:Cx}(ok:(X.ZU E).Ok):X.Ok:=⟨ok.mod,ok.kind,ok.glob,ok.blt,ok.above,ok.inj,ok.has,ok.cab,ok.hd,ok.frames,ok.stk,ok.exf,ok.bs,ok.Z8,ok.zby,ok.zcB,ok.Zc,ok.frf,ok.tabs⟩
section
variable {X:Cx}{pins:Ql (ZE×Obj)}{σ:St}{s:R7}{E:R8->R7->Prop}
theorem Inv.ZU(I:Inv X pins σ H s)(E:R8->R7->Prop):Inv (X.ZU E) pins σ H s:=⟨I.ok.ZU E,I.os,I.bare,I.base,I.loc,I.cell,I.free,I.ZQ,I.pin,I.Wk,I.len⟩
theorem Inv.zaB(I:Inv (X.ZU E) pins σ H s):Inv X pins σ H s:=⟨I.ok.zaB,I.os,I.bare,I.base,I.loc,I.cell,I.free,I.ZQ,I.pin,I.Wk,I.len⟩
theorem SP.zaB(h:SP (X.ZU E) pins D f s'):SP X pins D f s':=by
 cases f with
 |next=>obtain⟨σ',H',I,q⟩:=h;exact⟨σ',H',I.zaB,q⟩
 |brk=>obtain⟨σ',H',I,q⟩:=h;exact⟨σ',H',I.zaB,q⟩
 |cont=>obtain⟨σ',H',I,q⟩:=h;exact⟨σ',H',I.zaB,q⟩
 |ret u=>obtain⟨v,σ',H',I,r,q⟩:=h;exact⟨v,σ',H',I.zaB,r,q⟩
theorem WH.ZI{st:Ql ZH}(h:WH X.ZI st t):WH X st t:=λpins s σ H D I hw=>
 wpAny_mono (h _ s σ H D (I.ZU _) hw) (λ_ _ q=>q.zaB) λ_ _ z=>False.elim z
end
section
variable {X:Cx}{st:ZH}{t u:TS}{e:ZG}
def JB:TS:=λD σ H=>D.nx σ H
def Ju(t u:TS):TS:=λD σ H=>t {D with nx:=u D} σ H
def Dw:WH X [] JB:=λ_ _ σ H _ I h=>wpAny_execs_nil ⟨σ,H,I,h⟩
def yt(h1:PS X st t)(h2:WH X rest u):WH X (st::rest) (Ju t u):=by
 intro pins s σ H D I h;refine wpAny_execs_cons (aF (h1 _ s σ H _ I h) λf s1 q=>?_);cases f with
 |next=>obtain⟨σ',H',I',q⟩:=q;exact h2 _ _ _ _ D I' q
 |ret v=>assumption
 |brk=>assumption
 |cont=>assumption
def tT(h1:PS X st t):WH X [st] t:=by
 intro pins s σ H D I h;refine wpAny_execs_cons (aF (h1 _ s σ H D I h) λf s1 q=>?_);cases f with
 |next=>exact wpAny_execs_nil q
 |ret v=>assumption
 |brk=>assumption
 |cont=>assumption
def Inv.quiet{σ:St}(I:Inv X pins σ H s):interactive X.env=Qf:=by simp[interactive,I.ok.kind]
def JM(te:TE):TS:=λD σ H=>te σ H λ_ H1=>D.nx σ H1
def n6(he:PE X e te)(hs:swapsWith e Qn pos.line X.env=pure Qf:=by rfl):PS X (.Expr e pos) (JM te):=by intro pins s σ H D I h;exact wpAny_Expr_any (aF (he _ s σ H _ I h) λv s1 ⟨x,H1,I1,r1,q1⟩=>⟨σ,H1,I1,q1⟩) I.quiet hs
def Jv(te:TE):TS:=λD σ H=>te σ H D.rt
def tW(he:PE X e te):PS X (.Return (Qs e) pos) (Jv te):=by intro pins s σ H D I h;exact wpAny_Return_some (aF (he _ s σ H _ I h) λv s1 ⟨x,H1,I1,r1,q1⟩=>⟨x,σ,H1,I1,r1,q1⟩)
def JG(c:TT)(t u:TS):TS:=λD σ H=>c σ H λb H1=>if b=Qt then t D σ H1 else u D σ H1
def DB(hc:PT X c tc)(ha:WH X a t)(hb:WH X b u):PS X (.If c a b pos) (JG tc t u):=by
 intro pins s σ H D I h;refine wpAny_If (aF (hc _ s σ H _ I h) λd s1 ⟨H1,I1,q1⟩=>?_);cases d with
 |true=>exact ha _ _ σ _ D I1 q1
 |false=>exact hb _ _ σ _ D I1 q1
end
abbrev TG:=V->St->Hp->(St->Hp->Prop)->Prop
abbrev lK:=Ql V->St->Hp->(St->Hp->Prop)->Prop
def PG(X:Cx)(target:ZG)(t:TG):Prop:=∀(pins:Ql (ZE×Obj)) (s:R7) (σ:St) (H:Hp) (v:V) (u:R8) (Q:St->Hp->Prop),Inv X pins σ H s->RelV v u->t v σ H Q->wpAny (model X.prog X.w) X.A (assign target X.env u) (λ_ s'=>∃σ' H',Inv X pins σ' H' s'/\Q σ' H') X.xe s
def sx(X:Cx)(ts:Ql ZG)(t:lK):Prop:=∀(pins:Ql (ZE×Obj)) (s:R7) (σ:St) (H:Hp) (vs:Ql V) (us:Ql R8) (Q:St->Hp->Prop),Inv X pins σ H s->Vals vs us->t vs σ H Q->wpAny (model X.prog X.w) X.A (assignInOrder ((assignEach ts X.env).map (·.2)) us) (λ_ s'=>∃σ' H',Inv X pins σ' H' s'/\Q σ' H') X.xe s
abbrev BB:=V->V->V->Hp->(Hp->Prop)->Prop
def vX(X:Cx)(t:BB):Prop:=∀(pins:Ql (ZE×Obj)) (s:R7) (σ:St) (H:Hp) (o i v:V) (ov iv u:R8) (Q:Hp->Prop),Inv X pins σ H s->RelV o ov->RelV i iv->RelV v u->t o i v H Q->wpAny (model X.prog X.w) X.A (setItem ov iv u) (λ_ s'=>∃H',Inv X pins σ H' s'/\Q H') X.xe s
abbrev BC:=V->V->Hp->VK->Prop
def sv(X:Cx)(op:Operator)(t:BC):Prop:=∀(pins:Ql (ZE×Obj)) (s:R7) (σ:St) (H:Hp) (x y:V) (v u:R8) (Q:VK),Inv X pins σ H s->RelV x v->RelV y u->t x y H Q->wpAny (model X.prog X.w) X.A (inplaceOp op v u) (EP X pins σ Q) X.xe s
section
variable {X:Cx}
def gf(i:Nat):TG:=λv σ H Q=>Q (σ.set i (Qs v)) H
def ma(hN:X.N.Nodup)(hi:X.N[i]?=Qs x)(hx:Loc X.env.scope x)(hf:autoParam (X.fn x=Qt\/X.env.scope.names.lookup x=Qs .local) qzB._auto_1):PG X (.Name x pos) (gf i):=by intro pins s σ H v u Q I r h;exact wpAny_assign_Name (td I hN hi hx r (λs' I'=>⟨_,H,I',h⟩) hf)
def mN:lK:=λvs σ H Q=>vs=[]/\Q σ H
def ja(t:TG)(u:lK):lK:=λvs σ H Q=>∃v r,vs=v::r/\t v σ H λσ' H'=>u r σ' H' Q
def t9:sx X [] mN:=by intro pins s σ H vs us Q I r h;obtain⟨e,h⟩:=h;subst e;exact assignInOrder_nil ⟨σ,H,I,h⟩
def k8(h1:PG X e t)(h2:sx X es u) (hs:(assignEach (e::es) X.env).map (·.2)=assign e X.env::(assignEach es X.env).map (·.2):=by rfl):sx X (e::es) (ja t u):=by
 intro pins s σ H vs us Q I r h;obtain⟨v,vr,e1,h⟩:=h;subst e1;cases r with
 |cons r rr=>rw[hs];refine assignInOrder_cons (aF (h1 _ s σ H _ _ _ I r h) λ_ s1 ⟨σ1,H1,I1,q1⟩=>?_);exact h2 _ _ _ _ _ _ Q I1 rr q1
def rf(K:Rv)(n:Nat)(t:lK):TG:=λv σ H Q=>∃a xs,v=.ref a/\WG K H a xs/\xs.length=n/\t xs σ H Q
def yJ{k:Nat}(hc:X.calm=Qt)(h:sx X es t) (hn:(assignEach es X.env).length=n:=by rfl) (WY:(assignEach es X.env).findIdx? (·.1)=Qn:=by rfl):PG X (.Tuple es k pos) (rf X.K n t):=by intro pins s σ H v u Q I r hw;obtain⟨a,xs,e1,hq,hl,hw⟩:=hw;subst e1;cases r;obtain⟨VU,rv,ht,hz⟩:=I.tuple hq;refine assign_Tuple_tuple (I.ok.hd hc) ht (by simp[hn,<-hl,rv.length]) WY λh' hx=>?_;exact h _ _ σ H _ _ Q (I.kept (t':=s.toks) λb o e=>hx b o (So (RN e)) e) (rv) hw
def Ag(to ti:TE)(t:BB):TG:=λv σ H Q=>to σ H λo H1=>ti σ H1 λi H2=>t o i v H2 λH3=>Q σ H3
def yL(ho:PE X o to)(hi:PE X i ti)(hs:vX X t) (ha:∀v,assign (.Subscript o i pos) X.env v=(do
   let ov<-holding [v] (eval o X.env)
   let iv<-holding [v,ov] (eval i X.env)
   standAt pos
   holding [v,ov,iv] (setItem ov iv v)
   release [v,ov,iv] []):=by intro _;rfl):PG X (.Subscript o i pos) (Ag to ti t):=by intro pins s σ H v u Q I r h;refine RA (wpAny_holding (aF (ho _ s σ H _ I h) λov s1 ⟨x,H1,I1,r1,q1⟩=>?_));refine RA (wpAny_holding (aF (hi _ _ σ _ _ I1 q1) λiv s2 ⟨y,H2,I2,r2,q2⟩=>?_));refine RA (wpAny_standAt (RA (wpAny_holding (aF (hs _ _ σ _ x y v _ _ u _ I2 r1 r2 r q2) λ_ s3 ⟨H3,I3,q3⟩=>?_))));exact wpAny_release ⟨σ,H3,I3,q3⟩
def Ct(te:TE)(g:TG):TS:=λD σ H=>te σ H λx H1=>g x σ H1 D.nx
def tX(he:PE X e te)(hg:PG X tg g)(hs:swapsWithSole [tg] e pos.line X.env=pure Qf:=by rfl)(hw:swappedStores [tg] e X.env=pure Qn:=by rfl) (h1:(assignEach [tg] X.env).map (·.2)=[assign tg X.env]:=by rfl):PS X (.Assign [tg] e pos) (Ct te g):=by intro pins s σ H D I h;refine wpAny_Assign_stores (aF (he _ s σ H _ I h) λv s1 ⟨x,H1,I1,r1,q1⟩=>?_) hs hw;rw[h1];exact aF (hg _ _ σ _ x v _ I1 r1 q1) λ_ s2 ⟨σ',H',I',q⟩=>⟨σ',H',I',q⟩
def yz(hN:X.N.Nodup)(hi:X.N[i]?=Qs x)(hx:Loc X.env.scope x)(he:PE X e te)(hs:swapsWith e (Qs (.Name x pos')) pos.line X.env=pure Qf:=by rfl)(hf:autoParam (X.fn x=Qt\/X.env.scope.names.lookup x=Qs .local) qzB._auto_1):PS X (.Assign [.Name x pos'] e pos) (Ct te (gf i)):=by intro pins s σ H D I h;refine wpAny_Assign_Name (aF (he _ s σ H _ I h) λv s1 ⟨y,H1,I1,r1,q1⟩=>?_) hs;exact td I1 hN hi hx r1 (λs2 I2=>⟨_,H1,I2,q1⟩) hf
def Jw(i j:Nat)(ta:TA):TS:=λD σ H=>ta σ H λvs H1=>∃v w,vs=[v,w]/\D.nx ((σ.set i (Qs v)).set j (Qs w)) H1
def Lq(hc:X.calm=Qt)(hN:X.N.Nodup)(hi:X.N[i]?=Qs x)(hj:X.N[j]?=Qs y)(hij:i≠j) (hx:X.env.scope.names.lookup x=Qs .local) (hy:X.env.scope.names.lookup y=Qs .local) (ha:PA X [a,b] ta) (hw:swappedStores [.Tuple [.Name x px,.Name y py] kt pt] (.Tuple [a,b] k2 ZD) X.env=pure (Qs [x,y])) (hs:swapsWithSole [.Tuple [.Name x px,.Name y py] kt pt] (.Tuple [a,b] k2 ZD) pos.line X.env=pure Qf:=by rfl):PS X (.Assign [.Tuple [.Name x px,.Name y py] kt pt] (.Tuple [a,b] k2 ZD) pos) (Jw i j ta):=by
 intro pins s σ H D I h;refine RA (wpAny_standAt ?_);refine RA (RP ?_);refine RA (Tuple_ (aF (ha _ _ s σ H _ I h) λus s1 ⟨vs,H1,I1,r1,q1⟩=>?_));obtain⟨v,w,e1,q1⟩:=q1;subst e1;obtain⟨u1,u2,rfl,rv,YR⟩:∃u1 u2,us=[u1,u2]/\RelV v u1/\RelV w u2:=by
  cases r1 with
  |cons p q=>
   cases q with
   |cons p' q'=>cases q';exact⟨_,_,rfl,p,p'⟩
 refine wpAny_newObj_type ?_ (by show 2<=Sf;decide);rw[hw];show wpAny _ _ (do rule _;let items<-unpackItems _ 2 _;assignInOrder _ _;pure _) _ _ _;refine RA (wpAny_rule (RA (unpackItems_tuple (items:=#[u1,u2]) (I.ok.hd hc) (IsTup.new _ _) λh' hx'=>?_)));refine RA (assignInOrder_cons (wpAny_bindName (td ((I1.kept (t':=s1.toks) λb o e=>RC _ e).kept (h':=h') (t':=s1.toks) λb o e=>hx' b o (So (RN e)) e) hN hj (.inl hy) YR (λs2 I4=>?_) (.inr hy))));refine assignInOrder_cons (wpAny_bindName (td I4 hN hi (.inl hx) rv (λs3 I5=>assignInOrder_nil (RP ?_)) (.inr hx)));rw[List.set_comm _ _ (Ne.symm hij)]at I5;exact⟨_,H1,I5,q1⟩
def JS(to ti te:TE)(zdF:V->V->Hp->VK->Prop)(tip:BC)(zdD:BB):TS:=λD σ H=>to σ H λo H1=>ti σ H1 λi H2=>zdF o i H2 λx H3=>te σ H3 λy H4=>tip x y H4 λz H5=>zdD o i z H5 λH6=>D.nx σ H6
def Ij(X:Cx)(t:V->V->Hp->VK->Prop):Prop:=∀(pins:Ql (ZE×Obj)) (s:R7) (σ:St) (H:Hp) (o i:V) (ov iv:R8) (Q:VK),Inv X pins σ H s->RelV o ov->RelV i iv->t o i H Q->wpAny (model X.prog X.w) X.A (getItem ov iv) (EP X pins σ Q) X.xe s
def yB(ho:PE X o to)(hi:PE X i ti)(hg:Ij X zdF)(he:PE X e te)(hp:sv X op tip)(hs:vX X zdD) (ha:∀ov iv new,augStore i ov iv new=(do holding [new,ov,iv] (setItem ov iv new);release [new,ov,iv] [];pure .next):=by intros;rfl):PS X (.AugAssign (.Subscript o i X9) op e pos) (JS to ti te zdF tip zdD):=by intro pins s σ H D I h;refine wpAny_AugAssign_SubscriptAny (aF (ho _ s σ H _ I h) λov s1 ⟨x1,H1,I1,r1,q1⟩=>?_) ha;refine aF (hi _ _ σ _ _ I1 q1) λiv s2 ⟨x2,H2,I2,r2,q2⟩=>?_;refine aF (hg _ _ σ _ _ _ _ _ _ I2 r1 r2 q2) λold s3 ⟨x3,H3,I3,r3,q3⟩=>?_;refine aF (he _ _ σ _ _ I3 q3) λv s4 ⟨x4,H4,I4,r4,q4⟩=>?_;refine aF (hp _ _ σ _ _ _ _ v _ I4 r3 r4 q4) λnew s5 ⟨x5,H5,I5,r5,q5⟩=>?_;exact aF (hs _ _ σ _ _ _ _ _ _ _ _ I5 r1 r2 r5 q5) λ_ s6 ⟨H6,I6,q6⟩=>⟨σ,H6,I6,q6⟩
def uU(f:Int->Int->Int):BC:=λx y H Q=>∃i j,x=.int i/\y=.int j/\Q (.int (f i j)) H
def zM:sv X .Add (uU λi j=>i+j):=by intro pins s σ H x y v u Q I r1 r2 h;obtain⟨i,j,e1,e2,q⟩:=h;subst e1;subst e2;obtain⟨t,rfl⟩:=r1;obtain⟨t',rfl⟩:=r2;exact iadd_int ⟨.int _,H,I.tok _,⟨_,rfl⟩,q⟩
def OY:sv X .Sub (uU λi j=>i-j):=by intro pins s σ H x y v u Q I r1 r2 h;obtain⟨i,j,e1,e2,q⟩:=h;subst e1;subst e2;obtain⟨t,rfl⟩:=r1;obtain⟨t',rfl⟩:=r2;exact isub_int ⟨.int _,H,I.tok _,⟨_,rfl⟩,q⟩
end
section
variable {X:Cx}
def Jr(c:TT)(tb:TS):TS:=λD σ H=>∃W:Nat->St->Hp->Prop,(∃m,W m σ H)/\∀m σ H,W m σ H->c σ H λb H1=>if b=Qt then ∃N:St->Hp->Prop,(∀σ' H',N σ' H'->∃m',m'<m/\W m' σ' H')/\tb {D with nx:=N,ct:=N,bk:=D.nx} σ H1 else D.nx σ H1
def Lp(hp:PassesOwn (model X.prog X.w) X.A X.env X.xe)(hc:PT X c tc)(hb:WH X body tb):PS X (.While c body [] pos) (Jr tc tb):=by
 intro pins s σ H D I h;obtain⟨W,⟨m0,w0⟩,turn⟩:=h;refine wpAny_While (codeAny_whileLoop (λn s'=>∃σ' H',Inv X _ σ' H' s'/\W n σ' H') ?_ _ ⟨σ,H,I,w0⟩);rintro n s1 ⟨σ1,H1,I1,w1⟩;refine wpAny_passesOwn hp (aF (hc _ _ _ _ _ I1 (turn n _ _ w1)) λb s2 ⟨H2,I2,q2⟩=>?_);cases b with
 |true=>
  obtain⟨N,hN,q2⟩:=q2;refine wpAny_passesOwn hp (aF (hb _ _ _ _ _ I2 q2) λf s3 q3=>?_);cases f with
  |next=>obtain⟨σ3,H3,I3,n3⟩:=q3;obtain⟨m',hm,w3⟩:=hN _ _ n3;exact⟨m',hm,σ3,H3,I3,w3⟩
  |cont=>obtain⟨σ3,H3,I3,n3⟩:=q3;obtain⟨m',hm,w3⟩:=hN _ _ n3;exact⟨m',hm,σ3,H3,I3,w3⟩
  |brk=>assumption
  |ret v=>assumption
 |false=>exact wpAny_execs_nil ⟨σ1,H2,I2,q2⟩
end
structure It where
 go:Nat->Hp->Prop
 XH:Nat->Hp->V->Hp->Prop
 stop:Nat->Hp->Prop
def fJ(X:Cx)(pins:Ql (ZE×Obj))(H:Hp)(b:ZE):Prop:=H b=Qn/\b≠X.env.locals/\b∉X.fs/\(b∈X.ex\/X.s₀.heap.objs.size<=b)/\(∀x c,X.env.cells.lookup x=Qs c->c≠b)/\∀p∈X.pn++pins,p.1≠b
def Inv.zau{σ:St}{b:ZE}(I:Inv X pins σ H s)(hb:s.heap.objs.size<=b)(hn:H' b=Qn):fJ X pins H' b:=by
 refine⟨hn,Uh (RO I.lt hb),I.ziE hb,.inr (SH I.sz hb),λx c e z=>?_,λp hp z=>?_⟩
 .obtain⟨v,q⟩:=I.cell x c e;exact absurd (RO q.lt (by lia)) (T5 _)
 .exact absurd (RO (RN (I.pin p hp).1) (by lia)) (T5 _)
structure Turn(P:Te)(w:UX)(K:Rv)(tg:ZG)(J:It)(fp:List ZE)(it:ZE)(tn:Nat->ZF->Prop):Prop where
 mem:it∈fp
 obj:∀i h,tn i h->∀b∈fp,∃o,h.get? b=Qs o/\∀v,o.data≠.cell v
 keep:∀i h h',tn i h->(∀b∈fp,∀o,h.get? b=Qs o->h'.get? b=Qs o)->tn i h'
 item:∀(X:Cx),X.prog=P->X.w=w->X.K=K->X.calm=Qt->∀(i:Nat) (pins:List (ZE×Obj)) (s:R7) (σ:St) (H:Hp) (E:R8->R7->Prop),Inv X pins σ H s->(∀b∈fp,fJ X pins H b)->tn i s.heap->J.go i H->wpAny (model P w) X.A (pyNext (.ref it)) (λr s1=>∃u,r=Qs u/\wpAny (model P w) X.A (letOwnedTupleGo tg (.ref it) u) (λ_ s2=>∃x H',Inv X pins σ H' s2/\RelV x u/\J.XH i H x H'/\tn (i+1) s2.heap/\∀b∈fp,H' b=Qn) E s1) E s
 done:∀(X:Cx),X.prog=P->X.w=w->X.K=K->X.calm=Qt->∀(i:Nat) (pins:List (ZE×Obj)) (s:R7) (σ:St) (H:Hp) (E:R8->R7->Prop),Inv X pins σ H s->(∀b∈fp,fJ X pins H b)->tn i s.heap->J.stop i H->wpAny (model P w) X.A (pyNext (.ref it)) (λr s1=>r=Qn/\Inv X pins σ H s1) E s
 self:∀(A:Ua) (i:Nat) (s:R7) (Q:R8->R7->Prop) (E:R8->R7->Prop),tn i s.heap->Q (.ref it) s->wpAny (model P w) A (pyIter (.ref it)) Q E s
abbrev TI:=St->Hp->(It->Hp->Prop)->Prop
def vY(X:Cx)(pins:Ql (ZE×Obj))(σ:St)(tg:ZG)(R:It->Hp->Prop)(itv:R8)(s2:R7):Prop:=∃(it:ZE) (fp:Ql ZE) (tn:Nat->ZF->Prop) (J:It) (H':Hp),itv=.ref it/\Inv X pins σ H' s2/\Turn X.prog X.w X.K tg J fp it tn/\tn 0 s2.heap/\(∀b∈fp,fJ X pins H' b)/\R J H'
def PI(X:Cx)(tg iter:ZG)(wi:TI):Prop:=∀(pins:Ql (ZE×Obj)) (s:R7) (σ:St) (H:Hp) (R:It->Hp->Prop),Inv X pins σ H s->wi σ H R->wpAny (model X.prog X.w) X.A (eval iter X.env) (λv s1=>wpAny (model X.prog X.w) X.A (pyIter v) (vY X pins σ tg R) X.xe s1) X.xe s
def vb(ho:s.heap.get? it=Qs o)(hc:o.cls=.type n)(hd:o.data=.fields vs) (hn:["enumerate","zip","dict_itemiterator","dict_reverseitemiterator","odict_iterator","itertools.zip_longest","itertools.pairwise"].contains n=Qf) (hQ:Q () s):wpAny M A (letOwnedTupleGo tg (.ref it) u) Q E s:=by
 cases tg<;>first
  |exact RP _
  |(cases u<;>first
    |exact RP hQ
    |(refine RA (wpAny_load ho ?_)
      rw[hc,hd];show wpAny M A (if(["enumerate","zip","dict_itemiterator","dict_reverseitemiterator","odict_iterator","itertools.zip_longest","itertools.pairwise"].contains n&&vs[0]?==Qs _)=Qt then _ else _) Q E s;rw[Wh (by lia)];exact RP hQ))
def BH(K:Rv)(a:ZE):It:=⟨λi H=>∃xs x,V5 K H a xs/\xs[i]?=Qs x,λi H x H'=>H'=H/\∀xs,V5 K H a xs->xs[i]?=Qs x,λi H=>∃xs,V5 K H a xs/\xs.length<=i⟩
def BG(K:Rv)(a:ZE):It:=⟨λi H=>∃xs x,WG K H a xs/\xs[i]?=Qs x,λi H x H'=>H'=H/\∀xs,WG K H a xs->xs[i]?=Qs x,λi H=>∃xs,WG K H a xs/\xs.length<=i⟩
def lM(lo:Int)(n:Nat):It:=⟨λi _=>i<n,λi H x H'=>H'=H/\x=.int (lo+i),λi _=>n<=i⟩
def IY (a it:ZE):Turn P w K tg (BH K a) [it] it (λi h=>h.IsListIter it a i) where
 mem:=by simp
 obj:=λi h st b hb=>by
  have e:=by simpa using hb
  subst e;obtain⟨o,e,c,d⟩:=st
  simp_all
 keep:=λi h h' st k=>st.at λo e=>k _ (by simp) o e
 item:=by intro X hP hw hK hc i pins s σ H E I hf st hg;subst hP hw hK;obtain⟨xs,x,hq,hx⟩:=hg;obtain⟨VU,rv,p,hz⟩:=I.list hq;obtain⟨u,hu,ru⟩:=rv.get hx;obtain⟨f0,f1,f2,f3,f4,f5⟩:=hf it (by simp);refine wpAny_pyNext_list_item st p.isList (by simpa using hu) λh' Yx sb=>?_;obtain⟨o,e,c,d⟩:=id Yx;exact⟨u,rfl,vb e c d (rfl) ⟨x,H,(I.turned (t':=s.toks) (λb o hb e=>(sb.2 b hb).trans e) f0 f1 f3 f4 f5),ru,⟨rfl,λys hy=>by rw[I.zci hy hq];assumption⟩,Yx,λb hb=>(hf b hb).1⟩⟩
 done:=by intro X hP hw hK hc i pins s σ H E I hf st hg;subst hP hw hK;obtain⟨xs,hq,hx⟩:=hg;obtain⟨VU,rv,p,hz⟩:=I.list hq;obtain⟨f0,f1,f2,f3,f4,f5⟩:=hf it (by simp);have hl:=rv.length;exact wpAny_pyNext_list_end (I.ok.hd hc) st p.isList (by simp;lia) λh' eb=>⟨rfl,I.turned (λb o hb e=>eb b o hb e) f0 f1 f3 f4 f5⟩
 self:=λ_ _ _ _ _ st h=>wpAny_pyIter_listiter st h
def IW (a it:ZE):Turn P w K tg (BG K a) [it] it (λi h=>h.IsTupleIter it a i) where
 mem:=by simp
 obj:=λi h st b hb=>by
  have e:=by simpa using hb
  subst e;obtain⟨o,e,c,d⟩:=st
  simp_all
 keep:=λi h h' st k=>st.at λo e=>k _ (by simp) o e
 item:=by intro X hP hw hK hc i pins s σ H E I hf st hg;obtain⟨xs,x,hq,hx⟩:=hg;obtain⟨VU,rv,p,hz⟩:=I.tuple hq;obtain⟨u,hu,ru⟩:=rv.get hx;obtain⟨f0,f1,f2,f3,f4,f5⟩:=hf it (by simp);refine wpAny_pyNext_tuple_item st (p) (by simpa using hu) λh' Yx sb=>?_;obtain⟨o,e,c,d⟩:=id Yx;exact⟨u,rfl,vb e c d (rfl) ⟨x,H,(I.turned (t':=s.toks) (λb o hb e=>(sb.2 b hb).trans e) f0 f1 f3 f4 f5),ru,⟨rfl,λys hy=>by rw[I.zfl hy hq];assumption⟩,Yx,λb hb=>(hf b hb).1⟩⟩
 done:=by intro X hP hw hK hc i pins s σ H E I hf st hg;obtain⟨xs,hq,hx⟩:=hg;obtain⟨VU,rv,p,hz⟩:=I.tuple hq;obtain⟨f0,f1,f2,f3,f4,f5⟩:=hf it (by simp);have hl:=rv.length;exact wpAny_pyNext_tuple_end (I.ok.hd hc) st (p) (by simp;lia) λh' eb=>⟨rfl,I.turned (λb o hb e=>eb b o hb e) f0 f1 f3 f4 f5⟩
 self:=λ_ _ _ _ _ st h=>wpAny_pyIter_tupleiter st h
def IX (it:ZE)(lo:Int)(n:Nat):Turn P w K tg (lM lo n) [it] it (λi h=>IsRangeIter h it (lo+(i:Nat)*1) ((n:Int)-(i:Nat)) 1) where
 mem:=by simp
 obj:=λi h st b hb=>by
  simp_all
 keep:=λi h h' st k=>k _ (by simp) _ st
 item:=by intro X hP hw hK hc i pins s σ H E I hf st hg;subst hP hw hK;obtain⟨f0,f1,f2,f3,f4,f5⟩:=hf it (by simp);refine(Walks.range (prog:=X.prog) (w:=X.w) (I.ok.hd hc) it lo 1 n).item i s _ _ hg st λv h' tk hv Yx kk=>?_;obtain⟨t,rfl⟩:=hv;refine⟨_,rfl,vb Yx rfl rfl (rfl) ⟨.int _,H,(I.turned (λb o hb e=>kk b o (by simpa using hb) e) f0 f1 f3 f4 f5),⟨t,?_⟩,⟨rfl,rfl⟩,Yx,λb hb=>(hf b hb).1⟩⟩;rw[Xw]
 done:=by intro X hP hw hK hc i pins s σ H E I hf st hg;obtain⟨f0,f1,f2,f3,f4,f5⟩:=hf it (by simp);exact wpAny_pyNext_range_end (I.ok.hd hc) st (by have:n<=i:=hg;lia) λh' eb=>⟨rfl,I.turned (λb o hb e=>eb b o hb e) f0 f1 f3 f4 f5⟩
 self:=λ_ _ _ _ _ st h=>wpAny_pyIter_rangeiter st h
end L2
variable{gt:L2.TG}
namespace L2
open PySem.Spec
section
variable {X:Cx}{tg:ZG}
def Pd(K:Rv)(tl:TE):TI:=λσ H R=>tl σ H λx H1=>∃a,x=.ref a/\(∃xs,V5 K H1 a xs)/\R (BH K a) H1
def O8(K:Rv)(tl:TE):TI:=λσ H R=>tl σ H λx H1=>∃a,x=.ref a/\(∃xs,WG K H1 a xs)/\R (BG K a) H1
def t8(hl:PE X l tl):PI X tg l (Pd X.K tl):=by
 intro pins s σ H R I h;refine aF (hl _ s σ H _ I h) λv s1 ⟨x,H1,I1,r1,q1⟩=>?_;obtain⟨a,e,⟨xs,hq⟩,q⟩:=q1;subst e;cases r1;obtain⟨VU,rv,p,hz⟩:=I1.list hq;refine wpAny_pyIter_list p.isList ?_;refine⟨_,_,_,_,H1,rfl,I1.kept λb o e=>RC _ e,IY a _,⟨_,RV _ rfl,rfl,rfl⟩,λb hb=>?_,q⟩;have e:=by simpa using hb
 subst e;exact I1.zau (RL _) (I1.Wk.fresh (RL _))
def LV(hl:PE X l tl):PI X tg l (O8 X.K tl):=by
 intro pins s σ H R I h;refine aF (hl _ s σ H _ I h) λv s1 ⟨x,H1,I1,r1,q1⟩=>?_;obtain⟨a,e,⟨xs,hq⟩,q⟩:=q1;subst e;cases r1;obtain⟨VU,rv,p,hz⟩:=I1.tuple hq;refine wpAny_pyIter_tuple (p) ?_;refine⟨_,_,_,_,H1,rfl,I1.kept λb o e=>RC _ e,IW a _,⟨_,RV _ rfl,rfl,rfl⟩,λb hb=>?_,q⟩;have e:=by simpa using hb
 subst e;exact I1.zau (RL _) (I1.Wk.fresh (RL _))
def C7{σ:St}{hi:Int}(I:Inv X pins σ H s)(h1:-(2^62)<=lo)(h2:lo<2^62)(h3:-(2^62)<=hi)(h4:hi<2^62) (q:R (lM lo (hi-lo).toNat) H):wpAny (model X.prog X.w) X.A (pyIter (.ref s.heap.objs.size)) (vY X pins σ tg R) E {s with heap:=s.heap.push {cls:=.type "range",data:=.fields #[.int lo t,.int hi u,.int 1 v]},toks:=tk}:=by
 refine wpAny_pyIter_range (IsRange.new ..) (small_one h1 h2 h3 h4) ?_;have I1:Inv X pins σ H {s with heap:=s.heap.push {cls:=.type "range",data:=.fields #[.int lo t,.int hi u,.int 1 v]},toks:=tk}:=I.kept λb o e=>RC _ e;refine⟨(s.heap.push {cls:=.type "range",data:=.fields #[.int lo t,.int hi u,.int 1 v]}).objs.size,[(s.heap.push {cls:=.type "range",data:=.fields #[.int lo t,.int hi u,.int 1 v]}).objs.size],_,_,H,rfl,I1.kept (t':=tk) λb o e=>RC _ e,IX _ lo (hi-lo).toNat,?_,λb hb=>?_,q⟩
 .have e1:lo+((0:Nat))*1=lo:=by simp
  have e2:(((hi-lo).toNat):Int)-((0:Nat))=Builtin.Range.rangeSize lo hi 1:=by rw[rangeSize_one];split<;>lia
  rw[e1,e2];exact RV _ rfl
 .have e:b=(s.heap.push {cls:=.type "range",data:=.fields #[.int lo t,.int hi u,.int 1 v]}).objs.size:=by simpa using hb
  subst e;exact I1.zau (RL _) (I1.Wk.fresh (RL _))
def Pa(ta:TA):TI:=λσ H R=>ta σ H λvs H1=>∃j:Int,vs=[.int j]/\-(2^62)<=j/\j<2^62/\R (lM 0 j.toNat) H1
def O9(ta:TA):TI:=λσ H R=>ta σ H λvs H1=>∃i j:Int,vs=[.int i,.int j]/\(-(2^62)<=i/\i<2^62/\-(2^62)<=j/\j<2^62)/\R (lM i (j-i).toNat) H1
def yI(hg:Gl X "range")(hm:X.mg "range"=Qn)(ha:PA X [a] ta)(hs:RM [a] X.env=[(Qf,eval a X.env)]:=by rfl):PI X tg (.Call (.Name "range" p) [a] [] pos) (Pa ta):=by
 intro pins s σ H R I h;refine Call_ (jB I hg hm boot_range (PyProof.Rows.callWith_type1 (aF (ha _ _ s σ H _ I h) λus s1 ⟨vs,H1,I1,r1,q1⟩=>?_) hs rfl));obtain⟨j,e,q1,q2,q⟩:=q1;subst e;cases r1 with
 |cons r rr=>cases rr;obtain⟨t,rfl⟩:=r;exact call_range_1 (C7 I1 (by lia) (by lia) q1 q2 (by lia))
def LW{p:Pos}(hg:Gl X "range")(hm:X.mg "range"=Qn)(ha:PA X [a,b] ta)(hs:RM [a,b] X.env=[(Qf,eval a X.env),(Qf,eval b X.env)]:=by rfl)(Zr:RM [b] X.env=[(Qf,eval b X.env)]:=by rfl):PI X tg (.Call (.Name "range" p) [a,b] [] pos) (O9 ta):=by
 intro pins s σ H R I h;refine Call_ (jB I hg hm boot_range (PyProof.Rows.callWith_type1 (aF (ha _ _ s σ H _ I h) λus s1 ⟨vs,H1,I1,r1,q1⟩=>?_) (by lia) (by rw[Zr];rfl)));obtain⟨i,j,e,⟨q1,q2,q3,q4⟩,q⟩:=q1;subst e;cases r1 with
 |cons r rr=>
  cases rr with
  |cons r' rr=>cases rr;obtain⟨t,rfl⟩:=r;obtain⟨t',rfl⟩:=r';exact call_range_2 (C7 I1 q1 q2 q3 q4 q)
def JJ(wi:TI)(g:TG)(tb:TS):TS:=λD σ H=>wi σ H λJ H1=>∃W:Nat->Nat->St->Hp->Prop,(∃m,W 0 m σ H1)/\∀i m σ H,W i m σ H->(J.stop i H/\D.nx σ H)\/(J.go i H/\∃N:St->Hp->Prop,(∀σ' H',N σ' H'->∃m',m'<m/\W (i+1) m' σ' H')/\∀x H',J.XH i H x H'->g x σ H' λσ2 H2=>tb {D with nx:=N,ct:=N,bk:=D.nx} σ2 H2)
def oa(fp:Ql ZE)(h:ZF):Ql (ZE×Obj):=fp.filterMap λb=>(h.get? b).map λo=>(b,o)
def ot(hb:b∈fp)(e:h.get? b=Qs o):(b,o)∈oa fp h:=UZ.mpr ⟨b,hb,by rw[e];rfl⟩
def Nt(hp:p∈oa fp h):p.1∈fp/\h.get? p.1=Qs p.2:=by
 obtain⟨b,hb,e⟩:=UZ.mp hp;rcases q:h.get? b with _|o
 .rw[q]at e;cases e
 grind
def Inv.pinned{σ:St}(I:Inv X pins σ H s)(hf:∀b∈fp,fJ X pins H b)(ho:∀b∈fp,∃o,s.heap.get? b=Qs o/\∀v,o.data≠.cell v):Inv X (pins++oa fp s.heap) σ H s:=I.zfM λp hp=>(Ry.mp hp).elim (λz=>I.pin p (Ru _ z)) λz=>by
  obtain⟨hb,e⟩:=Nt z;obtain⟨f0,f1,f2,_⟩:=hf _ hb
  grind
def Inv.zbY{σ:St}(I:Inv X (pins++pl) σ H s):Inv X pins σ H s:=I.zfM λp hp=>I.pin p (Ru _ (Rw _ hp))
def kY(hp:PassesOwn (model X.prog X.w) X.A X.env X.xe)(hc:X.calm=Qt)(hi:PI X tg iter wi)(hg:PG X tg g)(hb:WH X body tb) (hs:∀x,foldedSetIterable iter X.env x=pure x:=by intro _;rfl):PS X (.For tg iter body [] pos) (JJ wi g tb):=by
 intro pins s σ H D I h;refine wpAny_For (aF (hi pins s σ H _ I h) λv s1 h1=>aF h1 λitv s2 h2=>?_) hs;obtain⟨it,fp,tn,J,H2,e,I2,T,Zk,f2,W,⟨m0,w0⟩,turn⟩:=h2;subst e
 -- zhM stays Qt of the znh objects through the loop
 have Zx:∀{H':Hp},(∀b∈fp,H' b=Qn)->∀b∈fp,fJ X pins H' b:=λhn b hb=>⟨hn b hb,(f2 b hb).2⟩;refine codeAny_forLoop_any (λn s'=>∃i σ' H',Inv X pins σ' H' s'/\tn i s'.heap/\(∀b∈fp,H' b=Qn)/\W i n σ' H') ?_ m0 ⟨0,σ,H2,I2,Zk,λb hb=>(f2 b hb).1,w0⟩;rintro n s3 ⟨i,σ3,H3,I3,st3,fr3,w3⟩;rcases turn i n σ3 H3 w3 with⟨stop,qn⟩|⟨go,N,hN,step⟩
 .refine wpAny_passesOwn hp (aF (T.done X rfl rfl rfl hc i _ _ _ _ _ I3 (Zx fr3) st3 stop) λr s4 ⟨hr,I4⟩=>?_);subst hr;exact wpAny_execs_nil ⟨σ3,H3,I4,qn⟩
 .refine wpAny_passesOwn hp (aF (T.item X rfl rfl rfl hc i _ _ _ _ _ I3 (Zx fr3) st3 go) λr s4 ⟨u,hr,h4⟩=>?_);subst hr;refine wpAny_passesOwn hp (aF h4 λ_ s5 ⟨x,H5,I5,r5,y5,Zy,fr5⟩=>?_);refine wpAny_passesOwn hp (aF (hg _ _ _ _ x u _ (I5.pinned (Zx fr5) (T.obj _ _ Zy)) r5 (step x _ y5)) λ_ s6 ⟨σ6,H6,I6,q6⟩=>?_);refine wpAny_passesOwn hp (aF (hb _ _ _ _ _ I6 q6) λf s7 q7=>?_);have again:∀{σ7:St}{H7:Hp},Inv X _ _ _ s7->N _ _->∃m,m<n/\∃i σ' H',Inv X pins σ' H' _/\tn i _/\(∀b∈fp,H' b=Qn)/\W i m σ' H':=λ{σ7 H7} I7 n7=>by obtain⟨m',hm,w7⟩:=hN _ _ n7;refine⟨m',hm,_,σ7,H7,I7.zbY,T.keep _ _ _ Zy λb hb o e=>(I7.pin _ (Ru _ (Ru _ (ot hb e)))).1,λb hb=>?_,w7⟩;obtain⟨o,e,d⟩:=T.obj _ _ Zy b hb;exact(I7.pin _ (Ru _ (Ru _ (ot hb e)))).2.1
  cases f with
  |next=>obtain⟨σ7,H7,I7,n7⟩:=q7;exact again I7 n7
  |cont=>obtain⟨σ7,H7,I7,n7⟩:=q7;exact again I7 n7
  |brk=>obtain⟨σ7,H7,I7,q7⟩:=q7;exact⟨σ7,H7,I7.zbY,q7⟩
  |ret v=>obtain⟨x7,σ7,H7,I7,r7,q7⟩:=q7;exact⟨x7,σ7,H7,I7.zbY,r7,q7⟩
end
abbrev R2:=V->V->Hp->VK->Prop
def e8(X:Cx)(f:R8->R8->Sem R8)(r:R2):Prop:=∀(pins:Ql (ZE×Obj)) (s:R7) (σ:St) (H:Hp) (x y:V) (v u:R8) (Q:VK),Inv X pins σ H s->RelV x v->RelV y u->r x y H Q->wpAny (model X.prog X.w) X.A (f v u) (EP X pins σ Q) X.xe s
def By(X:Cx)(f:R8->Sem R8)(r:V->Hp->VK->Prop):Prop:=∀(pins:Ql (ZE×Obj)) (s:R7) (σ:St) (H:Hp) (x:V) (v:R8) (Q:VK),Inv X pins σ H s->RelV x v->r x H Q->wpAny (model X.prog X.w) X.A (f v) (EP X pins σ Q) X.xe s
def gj(X:Cx)(f:R8)(r:Ql V->Hp->VK->Prop):Prop:=∀(pins:Ql (ZE×Obj)) (s:R7) (σ:St) (H:Hp) (xs:Ql V) (us:Ql R8) (Q:VK),Inv X pins σ H s->Vals xs us->r xs H Q->wpAny (model X.prog X.w) X.A (call f us) (EP X pins σ Q) X.xe s
def Rj(X:Cx)(r:V->Hp->(Bool->Hp->Prop)->Prop):Prop:=∀(pins:Ql (ZE×Obj)) (s:R7) (σ:St) (H:Hp) (x:V) (v:R8) (Q:Bool->Hp->Prop),Inv X pins σ H s->RelV x v->r x H Q->wpAny (model X.prog X.w) X.A (truthy v) (TP X pins σ Q) X.xe s
def Jz(r:R2)(ta tb:TE):TE:=λσ H Q=>ta σ H λx H1=>tb σ H1 λy H2=>r x y H2 Q
def Js(r:V->Hp->VK->Prop)(ta:TE):TE:=λσ H Q=>ta σ H λx H1=>r x H1 Q
def rI(C:Int->Int->Prop)(g:Int->Int->V):R2:=λx y H Q=>∃i j,x=.int i/\y=.int j/\C i j/\Q (g i j) H
def jZ(g:Int->Int->V):R2:=λx y H Q=>∃i j,x=.int i/\y=.int j/\Q (g i j) H
def rU(g:Int->V):V->Hp->VK->Prop:=λx H Q=>∃i,x=.int i/\Q (g i) H
section
variable {X:Cx}{a b c:ZG}{ta tb tc:TE}
def Q0(ha:PE X a ta)(hb:PE X b tb){σ:St}{R:V->V->Hp->Prop}(I:Inv X pins σ H s) (h:ta σ H λx H1=>tb σ H1 λy H2=>R x y H2){f:R8->R8->Sem R8} (hf:∀v u s2 x y H2,Inv X pins σ H2 s2->RelV x v->RelV y u->R x y H2->wpAny (model X.prog X.w) X.A (f v u) Q X.xe s2):wpAny (model X.prog X.w) X.A (eval a X.env) (λv s₁=>wpAny (model X.prog X.w) X.A (eval b X.env) (λu s₂=>wpAny (model X.prog X.w) X.A (f v u) Q X.xe s₂) X.xe s₁) X.xe s:=by refine aF (ha _ s σ H _ I h) λv s1 ⟨x,H1,I1,r1,q1⟩=>?_;refine aF (hb _ _ σ _ _ I1 q1) λu s2 ⟨y,H2,I2,r2,q2⟩=>?_;exact hf v u _ x y _ I2 r1 r2 q2
def Ma(ho:By X (unaryOp op) r)(ha:PE X a ta):PE X (.UnaryOp op a pos) (Js r ta):=by intro pins s σ H Q I h;exact UnaryOp_ (aF (ha _ s σ H _ I h) λv s1 ⟨x,H1,I1,r1,q1⟩=>ho _ _ σ _ x v Q I1 r1 q1)
def pT{g:Int->Int->Int}
  (rule:∀(i j:Int) (t u:Tok) (s:R7) (Q:R8->R7->Prop) (E:R8->R7->Prop),C i j->Q (.int (g i j) s.toks) { s with toks:=s.toks+1 }->wpAny (model X.prog X.w) X.A (f (.int i t) (.int j u)) Q E s) :e8 X f (rI C λi j=>.int (g i j)):=by intro pins s σ H x y v u Q I rx ry h;obtain⟨i,j,rfl,rfl,hc,q⟩:=h;obtain⟨t,rfl⟩:=rx;obtain⟨t',rfl⟩:=ry;exact rule i j t _ s _ _ hc ⟨.int _,H,I.tok _,⟨_,rfl⟩,q⟩
def D6{g:Int->Int->Int}
  (rule:∀(i j:Int) (t u:Tok) (s:R7) (Q:R8->R7->Prop) (E:R8->R7->Prop),Q (.int (g i j) s.toks) { s with toks:=s.toks+1 }->wpAny (model X.prog X.w) X.A (f (.int i t) (.int j u)) Q E s) :e8 X f (jZ λi j=>.int (g i j)):=by intro pins s σ H x y v u Q I rx ry h;obtain⟨i,j,rfl,rfl,q⟩:=h;obtain⟨t,rfl⟩:=rx;obtain⟨t',rfl⟩:=ry;exact rule i j t _ s _ _ ⟨.int _,H,I.tok _,⟨_,rfl⟩,q⟩
def uf{g:Int->Int->Bool} (rule:∀(i j:Int) (t u:Tok) (s:R7) (Q:R8->R7->Prop) (E:R8->R7->Prop),Q (.bool (g i j)) s->wpAny (model X.prog X.w) X.A (f (.int i t) (.int j u)) Q E s):e8 X f (jZ λi j=>.bl (g i j)):=by intro pins s σ H x y v u Q I rx ry h;obtain⟨i,j,rfl,rfl,q⟩:=h;obtain⟨t,rfl⟩:=rx;obtain⟨t',rfl⟩:=ry;exact rule i j t _ s _ _ ⟨.bl _,H,I,rfl,q⟩
def Rp(i j:Int):Prop:=0<=j/\j<=1000000/\i.natAbs<2^64
def ze5(i j:Int):Prop:=(-(2^64)<i/\i<2^64)\/(-(2^64)<j/\j<2^64)
def ze5.ok(h:ze5 i j):IntMulOk i j:=by
 rcases h with⟨h1,h2⟩|⟨h1,h2⟩
 .exact .of_left (intBits_le_64 h1 h2)
 .exact .of_right (intBits_le_64 h1 h2)
def ME:e8 X (binaryOp .Add) (jZ λi j=>.int (i+j)):=D6 λ_ _ _ _ _ _ _ q=>add_int q
def Mr:e8 X (binaryOp .Sub) (jZ λi j=>.int (i-j)):=D6 λ_ _ _ _ _ _ _ q=>sub_int q
def Mx:e8 X (binaryOp .Mod) (rI (λ_ j=>j≠0) λi j=>.int (i.fmod j)):=pT λ_ _ _ _ _ _ _ hc q=>mod_int' hc q
def Mt:e8 X (binaryOp .Pow) (rI Rp λi j=>.int (i^j.toNat)):=pT λ_ _ _ _ _ _ _ hc q=>pow_int_small hc.1 hc.2.1 hc.2.2 q
def OZ:e8 X (inplaceOp .Mult) (rI ze5 λi j=>.int (i*j)):=pT λ_ _ _ _ _ _ _ hc q=>imul_int q hc.ok
def IS{g:Int->Int}
  (rule:∀(i:Int) (t:Tok) (s:R7) (Q:R8->R7->Prop) (E:R8->R7->Prop),Q (.int (g i) s.toks) { s with toks:=s.toks+1 }->wpAny (model X.prog X.w) X.A (f (.int i t)) Q E s) :By X f (rU λi=>.int (g i)):=by intro pins s σ H x v Q I rx h;obtain⟨i,rfl,q⟩:=h;obtain⟨t,rfl⟩:=rx;exact rule i t s _ _ ⟨.int _,H,I.tok _,⟨_,rfl⟩,q⟩
def IQ:By X (unaryOp .USub) (rU λi=>.int (-i)):=IS λ_ _ _ _ _ q=>neg_int q
end
noncomputable def kP(x y:V):Bool:=match x with
 |.Wj=>(match y with|.Wj=>Qt|.int _=>Qt|.bl _=>Qt|.str _=>Qt|_=>Qf)
 |.bl _=>(match y with|.Wj=>Qt|.bl _=>Qt|.str _=>Qt|_=>Qf)
 |.int _=>(match y with|.Wj=>Qt|.int _=>Qt|.str _=>Qt|_=>Qf)
 |.str _=>(match y with|.Wj=>Qt|.int _=>Qt|.bl _=>Qt|.str _=>Qt|_=>Qf)
 |.Y1 _=>(match y with|.Y1 _=>Qt|_=>Qf)
 |_=>Qf
def KP:R2:=λx y H Q=>kP x y=Qt/\Q (.bl (decide (x=y))) H
def KO:R2:=λx y H Q=>kP x y=Qt/\Q (.bl (!decide (x=y))) H
def He:decide (V.int i=V.int j)=(i==j):=by lia
def Hg:decide (V.bl i=V.bl j)=(i==j):=by lia
def G9:decide (V.str i=V.str j)=(i==j):=by lia
def Hf:decide (V.Y1 i=V.Y1 j)=(i.toList==j.toList):=by rw[Vs];simp
section
variable {X:Cx}{a b c:ZG}{ta tb tc:TE}
def cO{σ:St}(I:Inv X pins σ H s)(q:Q (.bl k) H)(e:k=k'):EP X pins σ Q (.bool k') s:=by subst e;exact⟨.bl k,H,I,rfl,q⟩
def MD:e8 X (compareOp .Eq) KP:=by
 intro pins s σ H x y v u Q I rx ry h;obtain⟨hs,q⟩:=h;cases x with
 |Wj=>
  cases rx;cases y with
  |Wj=>cases ry;exact PySem.EqNone.eq_none_none (cO I q (by rfl))
  |bl j=>cases ry;exact PySem.EqNone.eq_none_bool (cO I q (by rfl))
  |int j=>obtain⟨t',rfl⟩:=ry;exact PySem.EqNone.eq_none_int (cO I q (by rfl))
  |str j=>obtain⟨t',rfl⟩:=ry;exact PySem.EqNone.eq_none_str (cO I q (by rfl))
  |_=>exact absurd (hs) RD
 |bl i=>
  cases rx;cases y with
  |Wj=>cases ry;exact PySem.EqNone.eq_bool_none (cO I q (by rfl))
  |bl j=>cases ry;exact eq_bool (cO I q Hg)
  |str j=>obtain⟨t',rfl⟩:=ry;exact PySem.EqMixed.eq_bool_str (cO I q (by simp))
  |_=>exact absurd (hs) RD
 |int i=>
  obtain⟨t,rfl⟩:=rx;cases y with
  |Wj=>cases ry;exact PySem.EqNone.eq_int_none (cO I q (by rfl))
  |int j=>obtain⟨t',rfl⟩:=ry;exact eq_int (cO I q He)
  |str j=>obtain⟨t',rfl⟩:=ry;exact PySem.EqMixed.eq_int_str (cO I q (by simp))
  |_=>exact absurd (hs) RD
 |str i=>
  obtain⟨t,rfl⟩:=rx;cases y with
  |Wj=>cases ry;exact PySem.EqNone.eq_str_none (cO I q (by rfl))
  |bl j=>cases ry;exact PySem.EqMixed.eq_str_bool (cO I q (by simp))
  |int j=>obtain⟨t',rfl⟩:=ry;exact PySem.EqMixed.eq_str_int (cO I q (by simp))
  |str j=>obtain⟨t',rfl⟩:=ry;exact eq_str (cO I q G9)
  |_=>exact absurd (show Qf=Qt from hs) RD
 |Y1 i=>
  obtain⟨t,rfl⟩:=rx;cases y with
  |Y1 j=>obtain⟨t',rfl⟩:=ry;exact PySem.W.eq_bytes (cO I q Hf)
  |_=>exact absurd (show Qf=Qt from hs) RD
 |_=>cases y<;>exact absurd (show Qf=Qt from hs) RD
def Mw:e8 X (compareOp .NotEq) KO:=by
 intro pins s σ H x y v u Q I rx ry h;obtain⟨hs,q⟩:=h;cases x with
 |Wj=>
  cases rx;cases y with
  |Wj=>cases ry;exact PySem.EqNone.ne_none_none (cO I q (by rfl))
  |bl j=>cases ry;exact PySem.EqNone.ne_none_bool (cO I q (by assumption))
  |int j=>obtain⟨t',rfl⟩:=ry;exact PySem.EqNone.ne_none_int (cO I q (by assumption))
  |str j=>obtain⟨t',rfl⟩:=ry;exact PySem.EqNone.ne_none_str (cO I q (by assumption))
  |_=>exact absurd (hs) RD
 |bl i=>
  cases rx;cases y with
  |Wj=>cases ry;exact PySem.EqNone.ne_bool_none (cO I q (by assumption))
  |bl j=>cases ry;exact ne_bool (cO I q (congrArg _ Hg))
  |str j=>obtain⟨t',rfl⟩:=ry;exact PySem.EqMixed.ne_bool_str (cO I q (by assumption))
  |_=>exact absurd (hs) RD
 |int i=>
  obtain⟨t,rfl⟩:=rx;cases y with
  |Wj=>cases ry;exact PySem.EqNone.ne_int_none (cO I q (by assumption))
  |int j=>obtain⟨t',rfl⟩:=ry;exact ne_int (cO I q (congrArg _ He))
  |str j=>obtain⟨t',rfl⟩:=ry;exact PySem.EqMixed.ne_int_str (cO I q (by assumption))
  |_=>exact absurd (hs) RD
 |str i=>
  obtain⟨t,rfl⟩:=rx;cases y with
  |Wj=>cases ry;exact PySem.EqNone.ne_str_none (cO I q (by assumption))
  |bl j=>cases ry;exact PySem.EqMixed.ne_str_bool (cO I q (by assumption))
  |int j=>obtain⟨t',rfl⟩:=ry;exact PySem.EqMixed.ne_str_int (cO I q (by simp))
  |str j=>obtain⟨t',rfl⟩:=ry;exact ne_str (cO I q (congrArg not G9))
  |_=>exact absurd (show Qf=Qt from hs) RD
 |Y1 i=>
  obtain⟨t,rfl⟩:=rx;cases y with
  |Y1 j=>obtain⟨t',rfl⟩:=ry;exact PySem.W.ne_bytes (cO I q (congrArg not Hf))
  |_=>exact absurd (show Qf=Qt from hs) RD
 |_=>cases y<;>exact absurd (show Qf=Qt from hs) RD
def My:e8 X (compareOp .Lt) (jZ λi j=>.bl (decide (i<j))):=uf λ_ _ _ _ _ _ _ q=>lt_int q
def Mz:e8 X (compareOp .LtE) (jZ λi j=>.bl (decide (i<=j))):=uf λ_ _ _ _ _ _ _ q=>le_int q
def MB:e8 X (compareOp .Gt) (jZ λi j=>.bl (decide (j<i))):=uf λ_ _ _ _ _ _ _ q=>gt_int q
def MC:e8 X (compareOp .GtE) (jZ λi j=>.bl (decide (j<=i))):=uf λ_ _ _ _ _ _ _ q=>ge_int q
def MA:e8 X (compareOp .Is) (λx y H Q=>y=.Wj/\Q (.bl (decide (x=.Wj))) H):=by
 intro pins s σ H x y v u Q I rx ry h;obtain⟨rfl,q⟩:=h;cases ry;refine is_none_gen (cO I q ?_);cases x<;>first
  |(cases rx;rfl)
  |(obtain⟨t,rfl⟩:=rx;rfl)
def Mu:e8 X (compareOp .IsNot) (λx y H Q=>y=.Wj/\Q (.bl (!decide (x=.Wj))) H):=by
 intro pins s σ H x y v u Q I rx ry h;obtain⟨rfl,q⟩:=h;cases ry;refine isnot_none_gen (cO I q ?_);cases x<;>first
  |(cases rx;rfl)
  |(obtain⟨t,rfl⟩:=rx;rfl)
def yZ(b:ZG)(h:op≠.In:=by decide)(h2:op≠.NotIn:=by decide):behindInMarks op b=Qf:=by
 have e1:(op==CmpOp.In)=Qf:=by lia
 have e2:(op==CmpOp.NotIn)=Qf:=by lia
 cases b<;>simp[behindInMarks,e1,e2]
def Bz(K:Rv)(x:V)(H:Hp)(k:Bool):Prop:=match x with
 |.Wj=>k=Qf
 |.bl b=>k=b
 |.int i=>k=(i !=0)
 |.str y=>y.length<=Sf/\k=((y.length:Int) !=0)
 |.Y1 y=>y.size<=Sf/\k=((y.size:Int) !=0)
 |.ref p=>(∃xs,V5 K H p xs/\k=!xs.isEmpty)\/(∃xs,WG K H p xs/\k=!xs.isEmpty)\/∃Wg,H p=Qs (.dK Wg)/\k=!Wg.isEmpty
 |_=>False
def FJ(r:KV Wg vs):(!vs.isEmpty)=!Wg.isEmpty:=by cases r<;>rfl
def FI(r:Vals xs VU):(!VU.toArray.isEmpty)=!xs.isEmpty:=by cases r<;>simp
def oz:(Sf:Nat)<2^63:=by decide
def Jg:Rj X (λx H Q=>∃k,Bz X.K x H k/\Q k H):=by
 intro pins s σ H x v Q I rx h;obtain⟨k,e,q⟩:=h;have hs:=sizeLine_eq;cases x with
 |Wj=>cases rx;subst e;exact truthy_none ⟨H,I,q⟩
 |bl b=>cases rx;subst e;exact wpAny_truthy_bool ⟨H,I,q⟩
 |int i=>obtain⟨t,rfl⟩:=rx;subst e;exact PySem.P.truthy_int ⟨H,I,q⟩
 |str y=>obtain⟨t,rfl⟩:=rx;obtain⟨hy,e'⟩:y.length<=Sf/\k=((y.length:Int) !=0):=e;subst e';exact PySem.P.truthy_str (by lia) ⟨H,I.tok _,q⟩
 |Y1 y=>obtain⟨t,rfl⟩:=rx;obtain⟨hy,e'⟩:y.size<=Sf/\k=((y.size:Int) !=0):=e;subst e';exact PySem.W.truthy_bytes (by lia) ⟨H,I.tok _,q⟩
 |ref p=>
  cases rx;have e':=e;rcases e' with⟨xs,hx,e'⟩|⟨xs,hx,e'⟩|⟨Wg,hx,e'⟩
  .subst e';obtain⟨VU,r,pl,hz⟩:=I.list hx;have hlen:=r.length;exact wpAny_truthy_list pl.isList (by simp;lia) ⟨H,I.tok _,by rw[FI r];assumption⟩
  .subst e';obtain⟨VU,r,pl,hz⟩:=I.tuple hx;have hlen:=r.length;exact truthy_tuple pl (by simp;lia) ⟨H,I.tok _,by rw[FI r];assumption⟩
  .subst e';obtain⟨hz,hS,vs,r,m⟩:Wg.length<=Sf/\(p==sysModules)=Qf/\∃vs,KV _ _/\s.heap.DictOf _ p _:=I.Wk p _ hx;have hlen:=Paired.length r;exact wpAny_truthy_dict hS m (by lia) ⟨H,I.tok _,by rw[FJ r];assumption⟩
 |_=>exact(show False from e).elim
def La(ha:PE X a ta)(he:∀whole,isTrue a X.env whole=(do let v<-whole;standAt a.pos;holding [v] (truthy v))):PT X a (λσ H Q=>ta σ H λx H'=>∃k,Bz X.K x H' k/\Q k H'):=by intro pins s σ H Q I h;exact isTrue_plain (aF (ha _ s σ H _ I h) λv s1 ⟨x,H1,I1,r1,q1⟩=>Jg _ _ σ _ x v Q I1 r1 q1) (he _)
def jT(r:Vals [x] us):∃u,us=[u]/\RelV x u:=by
 cases r with
 |cons r1 r2=>cases r2;exact⟨_,rfl,r1⟩
def wF(r:Vals [x,y] us):∃u w',us=[u,w']/\RelV x u/\RelV y w':=by
 cases r with
 |cons r1 r2=>
  cases r2 with
  |cons r3 r4=>cases r4;exact⟨_,_,rfl,r1,r3⟩
def QM:gj X (.builtin "abs") (λxs H Q=>∃i,xs=[.int i]/\Q (.int (if i<0 then-i else i)) H):=by intro pins s σ H xs us Q I r h;obtain⟨i,rfl,q⟩:=h;obtain⟨u,rfl,t,rfl⟩:=jT r;exact call_abs_int λu tk=>⟨.int _,H,I.tok _,⟨_,rfl⟩,q⟩
def QJ(hc:X.calm=Qt):gj X (.builtin "max") (λxs H Q=>∃i j,xs=[.int i,.int j]/\Q (.int (if j>i then j else i)) H):=by
 intro pins s σ H xs us Q I r h;obtain⟨i,j,rfl,q⟩:=h;obtain⟨u,w',rfl,⟨t,rfl⟩,⟨t',rfl⟩⟩:=wF r;refine max_two_ints (I.ok.hd hc) λh' tk k=>⟨_,H,I.kept k,?_,q⟩;by_cases hj:j>i
 .rw[V4 hj,V4 hj];exact⟨_,rfl⟩
 .rw[Wh hj,Wh hj];exact⟨_,rfl⟩
def QI(hc:X.calm=Qt):gj X (.builtin "min") (λxs H Q=>∃i j,xs=[.int i,.int j]/\Q (.int (if j<i then j else i)) H):=by
 intro pins s σ H xs us Q I r h;obtain⟨i,j,rfl,q⟩:=h;obtain⟨u,w',rfl,⟨t,rfl⟩,⟨t',rfl⟩⟩:=wF r;refine min_two_ints (I.ok.hd hc) λh' tk k=>⟨_,H,I.kept k,?_,q⟩;by_cases hj:j<i
 .rw[V4 hj,V4 hj];exact⟨_,rfl⟩
 .rw[Wh hj,Wh hj];exact⟨_,rfl⟩
end
structure zbm(h:ZF)(x dx C:ZE)(mA:Str->Option R8):Prop where
 obj:h.get? x=Qs (TZ C dx)
 ns:h.Ns1 dx mA
 ne:dx≠x
def N9{h:ZF}(n:h.Ns1 dx mA):∃od,h.get? dx=Qs od/\∀name,U2 name od=Qs (mA name):=by
 obtain⟨o,es,ep,ho,hd,hk,_,hm⟩:=n;refine⟨o,ho,λname=>?_⟩;have e:=hm name;unfold nsFind findBy at e;rw[<-Array.find?_toList]at e;unfold U2;rw[hd];dsimp only;split
 .simp_all
 .rename_i q;rw[q]at e;have a:es.toList.any (·.refKey)=Qf:=by rw[VL];intro y hy;obtain⟨z,t,zjF⟩:=hk y (Array.mem_toList_iff.mp hy);simp[DictEntry.refKey,zjF]
  simp_all
def zbm.look(I:zbm h x dx C mA):∃od,PySem.W.InstAt h x (TZ C dx) C (Qs od)/\∀name,U2 name od=Qs (mA name):=let ⟨od,ho,hl⟩:=N9 I.ns
 ⟨od,⟨I.obj,rfl,rfl,ho⟩,hl⟩
section
variable {prog:Te}{w:UX}{A:Ua}{E:R8->R7->Prop}{s:R7}{x dx C f:ZE}{mA:Str->Qo R8}{v:R8}
def get_map(X:K.In s.heap)(I:zbm s.heap x dx C mA)(hg:Ub K C name=Qt)(hh:Uo K C=Qt) (ha:S8 K (.ref C) name=Qs Qn) (hv:mA name=Qs v) (hv':VW v=Qt) (h:Q v {s with toks:=s.toks+1}):wpAny (model prog w) A (getAttr (.ref x) name expr) Q E s:=by obtain⟨od,J,hl⟩:=I.look;exact PySem.W.get_value X J (UK hg).1 (PySem.W.findObj_own hh ha rfl (by rw[hl,hv])) hv' h
def Pr(X:K.In s.heap)(I:zbm s.heap x dx C mA)(hg:Ub K C name=Qt) (hf:S8 K (.ref C) name=Qs (Qs (.ref f))) (ht:Vv K (.ref f)=Qt) (hv:mA name=Qn) (h:Q (.ref f,[.ref x]) s):wpAny (model prog w) A (getMethod (.ref x) name pl) Q E s:=by obtain⟨od,J,hl⟩:=I.look;exact PySem.W.method_fn X J (UK hg).1 (UK hg).2 hf (beq_iff_eq.mp ht) (by show(U2 _ _).map _=Qs _;rw[hl,hv];rfl) h
def J7(X:K.In s.heap)(I:zbm s.heap x dx C mA)
  (hs:S8 K (.ref C) "__setattr__"=Qs (Qs (.builtin "object.__setattr__"))) (hp:U7 K C=Qt) (ht:Vt K C name=Qs Qn) (hh:Uo K C=Qt)
  (hw:PySem.Within mA ns) (hsz:ns.length<=Sf)
  (h:∀h',zbm h' x dx C (λy=>if y=name then Qs v else mA y)->Heap.SameBut dx s.heap h'->Q () { s with heap:=h',toks:=s.toks+2 }) :wpAny (model prog w) A (setAttr (.ref x) name v) Q E s:=by obtain⟨od,J,hl⟩:=I.look;refine PySem.W.set_plain X J hs (PySem.W.osa_open X J hp ht λb=>?_);obtain⟨cd,hc,YA⟩:=PySem.W.any_some hh;refine RA (RP (RA (RA (wpAny_loadPart I.obj (RA (PySem.W.Looks.here (PySem.W.looks_clsIn X hc) ?_))))));rw[YA];refine RP (RA (RP (RA ?_)));refine wpAny_nsSet1 I.ns λh' hn2 Zr=>?_;obtain⟨oD,esD,epD,hoD,hdD,hcD⟩:=hn2.count (PySem.Within.cons _ v hw);refine RA (wpAny_lookBehind hoD (by rw[hdD];exact pastItsLine_dict (SH hcD (by rw[Su];lia))) ?_);exact RP (h _ ⟨(Zr.2 _ (Ne.symm I.ne)).trans I.obj,hn2,I.ne⟩ Zr)
def N0(X:K.In s.heap)(hm:UO K C=Qt) (hi:S8 K (.ref C) "__init__"=Qs (Qs (.ref f))) (hf:PySem.W.typeIn K (.ref f)=Qs (.type "function")) (h:codeAny (model prog w) (A.under (.builtin "type.__call__" ⟨.ref C::vs,kw⟩)) (.call (.ref f) ⟨.ref (s.heap.objs.size+1)::vs,kw⟩) (PySem.W.InitBack (s.heap.objs.size+1) R)
   {s with heap:=(s.heap.push TK).push (TZ C s.heap.objs.size)}):codeAny (model prog w) A (.call (.ref C) ⟨vs,kw⟩) R s:=by exact PySem.W.make_core (PySem.W.makes_of X hm) (PySem.W.looks_findIn X hi) (λself=>PySem.W.bind_fn X _ hf) (.inl rfl) h
end
def dH(f:Str)(v:V):Ql (Str×V)->Ql (Str×V)
 |[]=>[(f,v)]
 |(g,x)::r=>if g=f then(g,v)::r else(g,x)::dH f v r
theorem Fd(f g:Str)(v:V):∀fs:Ql (Str×V),(dH f v fs).lookup g=if g=f then Qs v else fs.lookup g
 |[]=>by
  show VD g [(f,v)]=_;by_cases h:g=f
  .simp_all
  .simp_all
 |(k,x)::r=>by
  have ih:=Fd f g v r;rw[show dH f v ((k,x)::r)=(if k=f then(k,v)::r else(k,x)::dH f v r) from rfl];by_cases hk:k=f
  .by_cases h:g=k
   .simp_all
   .grind
  .rw[Wh hk];by_cases h:g=k
   .simp_all
   .simp only[VD,(beq_eq_false_iff_ne.mpr h)];assumption
theorem zx(f:Str)(v:V):∀fs:Ql (Str×V),f∈(dH f v fs).map (·.1)/\∀g,g∈fs.map (·.1)->g∈(dH f v fs).map (·.1)
 |[]=>⟨by simp[dH],λg h=>by simp at h⟩
 |(k,x)::r=>by
  obtain⟨i1,i2⟩:=zx f v r;rw[show dH f v ((k,x)::r)=(if k=f then(k,v)::r else(k,x)::dH f v r) from rfl];by_cases hk:k=f
  .rw[V4 hk];subst hk;exact⟨by simp,λg h=>h⟩
  .grind
theorem Fj(f:Str)(v:V):∀fs:Ql (Str×V),(dH f v fs).length<=fs.length+1
 |[]=>by simp[dH]
 |(k,x)::r=>by
  have ih:=Fj f v r;rw[show dH f v _=(if k=f then(k,v)::r else(k,x)::dH f v r) from rfl];by_cases hk:k=f
  .simp_all
  .simp_all
def Zf.some_of(r:Zf (Qs v) o):∃u,o=Qs u/\RelV v u:=by
 cases o with
 |none=>exact(r).elim
 |some u=>exact⟨u,rfl,r⟩
def Zf.none_of(r:Zf Qn o):o=Qn:=by
 cases o with
 |none=>rfl
 |some u=>exact(r).elim
def Pk(r:RelV v u):VW u=Qt:=by
 cases v with
 |Wj=>cases(r);rfl
 |bl b=>cases(r);rfl
 |int i=>obtain⟨t,e⟩:=(r);cases e;rfl
 |str x=>obtain⟨t,e⟩:=(r);cases e;rfl
 |Y1 b=>obtain⟨t,e⟩:=(r);cases e;rfl
 |flt b=>obtain⟨t,e⟩:=(r);cases e;rfl
 |ref a=>cases(r);rfl
 |ty n=>cases(r);rfl
section
variable {P:Te}{w:UX}{h h':ZF}{a C dx:ZE}{fs fs':Ql (Str×V)}
def zO(Wk:XE P w H h)(e:H a=Qs (.ins C dx fs)):∃mA,zbm h a dx C mA/\(∀f,Zf (fs.lookup f) (mA f))/\PySem.Within mA (fs.map (·.1))/\fs.length<=1000/\H dx=Qs (.own a):=by obtain⟨d,z,ne,ob,mA,n,r,q⟩:=((Wk a _ e));exact⟨mA,⟨ob,n,ne⟩,r,q,z,d⟩
end
structure Xb(K:Rv)(C:ZE):Prop where
 pg:Ub K C Str.empty=Qt
 hd:Uo K C=Qt
 po:U7 K C=Qt
 sa:S8 K (.ref C) "__setattr__"=Qs (Qs (.builtin "object.__setattr__"))
def Xb.get (c:Xb K C)(f:Str):Ub K C f=Qt:=c.pg
def Wx(K:Rv)(C:ZE)(f:Str):Prop:=S8 K (.ref C) f=Qs Qn
def Wx.zhZ (n:Wx K C f):Vt K C f=Qs Qn:=by unfold Vt;rw[n];rfl
structure Meth(K:Rv)(C:ZE)(m:Str)(f:ZE):Prop where
 at_:S8 K (.ref C) m=Qs (Qs (.ref f))
 fn:Vv K (.ref f)=Qt
 kp:S0 K (.ref f)=Qt
section
variable {X:Cx}{pins:Ql (ZE×Obj)}{σ:St}{s:R7}{a C dx:ZE}{fs:Ql (Str×V)}{f:Str}{v:V}{A:Ua}{E:R8->R7->Prop}
def FY(I:Inv X pins σ H s)(e:H a=Qs (.ins C dx fs))(c:Xb X.K C)(n:Wx X.K C f)(l:fs.lookup f=Qs v) (h:∀u s',Inv X pins σ H s'->RelV v u->Q u s'):wpAny (model X.prog X.w) A (getAttr (.ref a) f b) Q E s:=by obtain⟨mA,O,r,_,_,_⟩:=zO I.Wk e;obtain⟨u,hu,ru⟩:=Zf.some_of (by rw[<-l];exact r f);exact get_map I.WZ O (c.get f) c.hd n hu (Pk ru) (h u _ (I.tok _) ru)
def FX(I:Inv X pins σ H s)(e:H a=Qs (.ins C dx fs))(c:Xb X.K C)(k:Meth X.K C m g)(l:fs.lookup m=Qn) (h:Q (.ref g,[.ref a]) s):wpAny (model X.prog X.w) A (getMethod (.ref a) m pl) Q E s:=by obtain⟨mA,O,r,_,_,_⟩:=zO I.Wk e;exact Pr I.WZ O (c.get m) k.at_ k.fn (Zf.none_of (by rw[<-l];exact r m)) h
def CG(I:Inv X pins σ H s)(e:H a=Qs (.ins C dx fs))(c:Xb X.K C)(n:Wx X.K C f)(hl:fs.length<1000)(ry:RelV y u) (h:∀s',Inv X pins σ (upd H a (.ins C dx (dH f y fs))) s'->Q () s'):wpAny (model X.prog X.w) A (setAttr (.ref a) f u) Q E s:=by
 obtain⟨mA,O,r,wi,_,ho⟩:=zO I.Wk e;have hz:(fs.map (·.1)).length<=Sf:=by rw[RE,sizeLine_eq];lia
 refine J7 I.WZ O c.sa c.po n.zhZ c.hd wi hz λh' O' sb=>h _ ?_;have hd:∃o,h'.get? dx=Qs o:=let ⟨o,_,_,e',_⟩:=O'.ns;⟨o,e'⟩
 refine I.write (x:=a) (e:=dx) (by rw[e];exact True.intro) (.inr ho) (λb q hb z=>(sb.2 b hb).trans z) hd ?_;refine⟨by rw[aY O.ne];assumption,?_,O.ne,O'.obj,_,O'.ns,λg=>?_,λg hg=>?_⟩
 .have:=Fj f y fs;lia
 .rw[Fd];by_cases q:g=f
  .rw[V4 q,V4 q];assumption
  .rw[Wh q,Wh q];exact r g
 .by_cases q:g=f
  .rw[q];exact(zx f y _).1
  .refine(zx f y _).2 g (wi g λz=>hg ?_);lia
def Inv.made(I:Inv X pins σ H s):Inv X pins σ (upd (upd H s.heap.objs.size (.own (s.heap.objs.size+1))) (s.heap.objs.size+1) (.ins C s.heap.objs.size []))
  {s with heap:=(s.heap.push TK).push (TZ C s.heap.objs.size)}:=by
 have e1:(s.heap.push _).get? _=Qs TK:=RV _ rfl;refine(I.laid (a:=s.heap.objs.size) (o:=.own (s.heap.objs.size+1)) (h':=s.heap.push TK) (t':=s.toks) (λb u q=>RC _ q) (RL _) ⟨_,e1⟩).laid (λb u q=>RC _ q) (Xc (Uc _ _)) ?_;have ne:s.heap.objs.size≠s.heap.objs.size+1:=So (SO _);refine⟨by rw[aY ne,bK],Ui _,ne,(by
  have:=RV (s.heap.push TK) (o:=TZ C s.heap.objs.size) rfl
  rwa [Uc]at this),_,(Heap.Ns1.of_empty (⟨TK,#[],_,e1,rfl,(λe he=>absurd he (by simp)),λ_=>rfl⟩)).at λo q=>RC _ q,λ_=>True.intro,λy hy=>absurd rfl hy⟩
def Q4(hb:attributeBase e f env (eval e env)=eval e env) (h:wpAny (model prog w) A (eval e env) (λo s₁=>wpAny (model prog w) A (getAttr o f Qt) Q E s₁) E s):wpAny (model prog w) A (eval (.Attribute e f pos) env) Q E s:=Attribute_any_ h (by rw[arm_eval_Attribute,hb])
end
def JK(K:Rv)(ta:TE)(f:Str):TE:=λσ H Q=>ta σ H λx H1=>∃a C dx fs v,x=.ref a/\H1 a=Qs (.ins C dx fs)/\Xb K C/\Wx K C f/\fs.lookup f=Qs v/\Q v H1
def Kp(K:Rv)(ta tv:TE)(f:Str):TS:=λD σ H=>tv σ H λy H1=>ta σ H1 λx H2=>∃a C dx fs,x=.ref a/\H2 a=Qs (.ins C dx fs)/\Xb K C/\Wx K C f/\fs.length<1000/\D.nx σ (upd H2 a (.ins C dx (dH f y fs)))
def Im(X:Cx)(op:Operator)(rd:V->V->Hp->VK->Prop):Prop:=∀(pins:Ql (ZE×Obj)) (s:R7) (σ:St) (H:Hp) (x y:V) (u v:R8) (Q:VK),Inv X pins σ H s->RelV x u->RelV y v->rd x y H Q->wpAny (model X.prog X.w) X.A (inplaceOp op u v) (EP X pins σ Q) X.xe s
def Ko(K:Rv)(ta tv:TE)(rd:V->V->Hp->VK->Prop)(f:Str):TS:=λD σ H=>ta σ H λx H1=>∃a C dx fs v,x=.ref a/\H1 a=Qs (.ins C dx fs)/\Xb K C/\Wx K C f/\fs.lookup f=Qs v/\tv σ H1 λy H2=>rd v y H2 λz H3=>∃dx' fs',H3 a=Qs (.ins C dx' fs')/\fs'.length<1000/\D.nx σ (upd H3 a (.ins C dx' (dH f z fs')))
section
variable {X:Cx}{o e value:ZG}{f:Str}{ta tv:TE}
def mh(he:PE X e ta)(hb:attributeBase e f X.env (eval e X.env)=eval e X.env):PE X (.Attribute e f pos) (JK X.K ta f):=by intro pins s σ H Q I h;refine Q4 hb (aF (he _ s σ H _ I h) λu s1 ⟨x,H1,I1,rx,a,C,dx,fs,v,ex,ea,c,n,l,q⟩=>?_);subst ex;obtain rfl:u=SA a:=rx;exact FY I1 ea c n l λu' s2 I2 ru=>⟨v,H1,I2,ru,q⟩
def Ls(ha:PE X o ta)(hv:PE X value tv)(hs:swapsWith value (Qs (.Attribute o f pos')) pos.line X.env=pure Qf):PS X (.Assign [.Attribute o f pos'] value pos) (Kp X.K ta tv f):=by intro pins s σ H D I h;refine plainObj_wpAny_Assign_Attribute (aF (hv _ s σ H _ I h) λu s1 ⟨y,H1,I1,ry,q⟩=>aF (ha _ _ σ _ _ I1 q) λov s2 ⟨x,H2,I2,rx,a,C,dx,fs,ex,ea,c,n,l,q2⟩=>?_) hs;subst ex;obtain rfl:ov=SA a:=rx;exact CG I2 ea c n l ry λs3 I3=>⟨σ,_,I3,q2⟩
def Lr(ha:PE X o ta)(hv:PE X value tv)(hop:Im X op rd):PS X (.AugAssign (.Attribute o f X9) op value pos) (Ko X.K ta tv rd f):=by intro pins s σ H D I h;refine wpAny_AugAssign_AttributeAny (aF (ha _ s σ H _ I h) λov s1 ⟨x,H1,I1,rx,a,C,dx,fs,v,ex,ea,c,n,l,q⟩=>?_);subst ex;obtain rfl:ov=SA a:=rx;refine FY I1 ea c n l λu s2 I2 ru=>aF (hv _ _ σ _ _ I2 q) λw3 s3 ⟨y,H2,I3,ry,q3⟩=>aF (hop _ _ σ _ v y u _ _ I3 ru ry q3) λw4 s4 ⟨z,H3,I4,rz,dx',fs',ea',l',q4⟩=>?_;exact CG I4 ea' c n l' rz λs5 I5=>⟨σ,_,I5,q4⟩
end
structure Xa(k:Nat)(A:Ua):Prop where
 hd:A.handled=Qn
 dp:A.depth+3*k+5<recursionLimit
 un:A.units+16*k+200<cLine
def Xa.mono(r:Xa k A)(h:j<=k:=by decide):Xa j A:=⟨r.hd,by have:=r.dp;lia,by have:=r.un;lia⟩
theorem Xa.deeper(r:Xa (k+1) A)(env:Env):Xa k (A.deeper env):=⟨r.hd,by have:=r.dp;show A.depth+1+3*k+5<_;lia,by have:=r.un;show A.units+3+16*k+200<_;lia⟩
def N1{A:Ua}:(A.under (.builtin "type.__call__" ⟨.ref C::us,kw⟩)).depth=A.depth+1:=rfl
def NZ{A:Ua}:(A.under (.builtin "type.__call__" ⟨.ref C::us,kw⟩)).units=A.units+1:=rfl
def Xa.make(r:Xa (k+1) A)(C:ZE)(us:Ql R8)(kw:Ql (Str×R8)):Xa k (A.under (.builtin "type.__call__" ⟨.ref C::us,kw⟩)):=⟨r.hd,by have:=r.dp;rw[N1];lia,by have:=r.un;rw[NZ];lia⟩
theorem Xa.depth(r:Xa k A):A.depth<recursionLimit:=by have:=r.dp;lia
theorem Xa.units(r:Xa k A):A.units+64<cLine:=by have:=r.un;lia
def Co:TA:=λ_ H Q=>Q [] H
def JO(ta:TE)(tr:TA):TA:=λσ H Q=>ta σ H λx H1=>tr σ H1 λxs H2=>Q (x::xs) H2
section
variable {X:Cx}{e:ZG}{es:Ql ZG}{t:TA}
def gx:PA X [] Co:=λ_ _ _ _ H Q I h=>Calls.spliced_nil ⟨[],H,I,.nil,h⟩
def fG(ha:PE X e te)(hr:PA X es t)(hs:RM (e::es) X.env=(Qf,eval e X.env)::RM es X.env:=by rfl):PA X (e::es) (JO te t):=by intro pos pins s σ H Q I h;rw[hs];refine Calls.spliced_cons (aF (ha _ s σ H _ I h) λu s1 ⟨x,H1,I1,r1,q1⟩=>?_);exact aF (hr _ _ _ σ _ _ I1 q1) λus s2 ⟨xs,H2,I2,r2,q2⟩=>⟨_,H2,I2,.cons r1 r2,q2⟩
def Jt(t:TA):TE:=λσ H Q=>t σ H λxs H1=>xs.length<=Sf/\∀p,H1 p=Qn->Q (.ref p) (upd H1 p (.tup xs))
def JF(t:TA):TE:=λσ H Q=>t σ H λxs H1=>xs.length<=Sf/\∀p,H1 p=Qn->Q (.ref p) (upd H1 p (.lst xs))
def ud(h:PA X es t):PE X (.Tuple es x1 pos) (Jt t):=by intro pins s σ H Q I hq;refine wpAny_Tuple_spliced (aF (h _ _ s σ H _ I hq) λus s1 ⟨xs,H1,I1,r,z,q⟩=>⟨by rw[<-r.length];assumption,?_⟩);refine⟨.ref _,_,I1.laid (λb u e=>RC _ e) (RL _) ?_,rfl,q _ (I1.Wk.fresh (RL _))⟩;exact⟨z,us,r,⟨_,RV _ rfl,rfl,_,rfl⟩⟩
def Mf(h:PA X es t):PE X (.List es pos) (JF t):=by intro pins s σ H Q I hq;refine wpAny_List_spliced (aF (h _ _ s σ H _ I hq) λus s1 ⟨xs,H1,I1,r,z,q⟩=>⟨by rw[<-r.length];assumption,?_⟩);refine⟨.ref _,_,I1.laid (λb u e=>RC _ e) (RL _) ?_,rfl,q _ (I1.Wk.fresh (RL _))⟩;exact⟨z,us,0,r,RV _ rfl⟩
end
abbrev Sp:=Ql V->Hp->VK->XK->Prop
abbrev nj:=Ql Env->Hp->R7->XK->R8->R7->Prop
structure zbp(P:Te)(w:UX)(K:Rv)(mg:Str->Option R8)(base:Yp)(A:Ua)(outer:List Env)(s:R7)(H:Hp):Prop where
 frames:A.frames=Qs outer
 mod:Mod K mg base
 bs:∀b o,base.get? b=Qs o->s.heap.get? b=Qs o/\H b=Qn
 Z8:base.objs.size<=s.heap.objs.size
 Zc:s.heap.FunFrames base outer
 frf:∀b∈jH outer,H b=Qn
 Wk:XE P w H s.heap
 bare:AllBare s.gens
 tabs:∀p∈base.tabs,H p.1=Qs (.YE p.2)
inductive CE(outer:List Env)(P:Te)(w:UX)(H:Hp)(s:R7)(Q:VK)(u:R8)(s':R7):Prop
 |mk (v:V) (H':Hp) (_:s'.os=s.os) (_:AllBare s'.gens) (_:Un (jH outer) [] H H' s.heap s'.heap) (_:XE P w H' s'.heap) (_:RelV v u) (_:Q v H')
def CR(CX:nj)(outer:Ql Env)(P:Te)(w:UX)(H:Hp)(s:R7)(Q:VK)(E:XK)(r:Result)(s':R7):Prop:=match r with
 |.ok (.ret u)=>CE outer P w H s Q u s'
 |.ok _=>False
 |.error e=>CX outer H s E e s'
structure XC(P:Te)(w:UX)(K:Rv)(mg:Str->Option R8)(base:Yp)(CX:nj)(k:Nat)(f:ZE)(fd:Ud)(ps:List Str)(sp:Sp):Prop where
 len:∀vs H Q E,sp vs H Q E->vs.length=ps.length
 run:∀(A:Ua) (outer:List Env) (s:R7) (H:Hp) (args:Args) (us:List R8) (vs:List V) (Q:VK) (E:XK),Xa k A->zbp P w K mg base A outer s H->BindsTo s fd args (ps.zip us)->Vals vs us->sp vs H Q E->codeAny (model P w) A (.call (.ref f) args) (CR CX outer P w H s Q E) s
def XC.imp (F:XC P w K mg base CX k f fd ps sp) (h:∀vs H Q E,sp' vs H Q E->sp vs H Q E):XC P w K mg base CX k f fd ps sp':=⟨λvs H Q E q=>F.len _ H Q E (h _ _ _ _ q),λA outer s H args us vs Q E hr he hb hv hs=>F.run A _ s H _ _ _ Q E hr he hb hv (h _ _ _ _ hs)⟩
def zbp.make (e:zbp P w K mg base A outer s H)(C:ZE)(us:Ql R8)(kw:Ql (Str×R8)):zbp P w K mg base (A.under (.builtin "type.__call__" ⟨.ref C::us,kw⟩)) outer s H:=⟨by first|exact e.frames|(simpa[pushEnvs] using e.frames),e.mod,e.bs,e.Z8,e.Zc,e.frf,e.Wk,e.bare,e.tabs⟩
section
variable {X:Cx}{pins:Ql (ZE×Obj)}{σ:St}{s s':R7}
def Inv.zgO(I:Inv X pins σ H s):zbp X.prog X.w X.K X.mg X.base X.A X.stack s H:=⟨I.ok.frames,I.ok.mod,I.bs,SH I.ok.Z8 I.sz,I.stack,I.zft,I.Wk,I.bare,λp hp=>I.base.Y4 _ _ (I.ok.tabs p hp)⟩
def Inv.after(I:Inv X pins σ H s)(h:CE X.stack X.prog X.w H s Q u s'):EP X pins σ Q u s':=by obtain⟨v,H',os,bare,un,Wk,r,q⟩:=h;obtain⟨hh,g,d,t,os'⟩:=s';obtain rfl:os'=s.os:=os;exact⟨v,H',I.call un Wk bare (λb z=>absurd z (by simp)),r,q⟩
end
def JP(sp:Sp)(Yn:Ql V)(E:XK)(t:TA):TE:=λσ H Q=>t σ H λvs H1=>sp (vs++Yn) H1 Q E
def sU(C:ZE)(m:Str)(sp:Sp)(Yn:Ql V)(E:XK)(ta:TE)(t:TA):TE:=λσ H Q=>ta σ H λx H1=>∃a dx fs,x=.ref a/\H1 a=Qs (.ins C dx fs)/\fs.lookup m=Qn/\t σ H1 λvs H2=>sp (x::(vs++Yn)) H2 Q E
def JC(C:ZE)(sp:Sp)(Yn:Ql V)(E:XK)(t:TA):TE:=λσ H Q=>t σ H λvs H1=>∀x dx,H1 x=Qn->H1 dx=Qn->dx≠x->sp (.ref x::(vs++Yn)) (upd (upd H1 dx (.own x)) x (.ins C dx [])) (λv H2=>v=.Wj/\Q (.ref x) H2) E
def Binds(K:Rv)(fd:Ud)(ps:Ql Str)(ds:Ql R8):Prop:=∀(s:R7) (us:Ql R8),K.In s.heap->(us++ds).length=ps.length->BindsTo s fd ⟨us,[]⟩ (ps.zip (us++ds))
def Binds.all (h:∀us:Ql R8,us.length=ps.length->bindArgs fd ⟨us,[]⟩=pure (ps.zip us)):Binds K fd ps []:=λs us _ hl=>by rw[SE]at hl ⊢;exact .of_eq (h _ hl)
def m4(CX:nj)(X:Cx)(E:XK):Prop:=∀(pins:Ql (ZE×Obj)) (σ:St) (H:Hp) (s:R7) (e:R8) (s':R7),Inv X pins σ H s->CX X.stack H s E e s'->X.xe e s'
section
variable {X:Cx}{CX:nj}{k:Nat}{f C:ZE}{fd:Ud}{ps:Ql Str}{sp:Sp}{Yn:Ql V}{ds:Ql R8}{E:XK}{x m:Str}{p:Pos}{e o:ZG}{es:Ql ZG}{ta:TE}{t:TA}
def yb{σ:St}(F:XC X.prog X.w X.K X.mg X.base CX k f fd ps sp)(hr:Xa k X.A)(hb:Binds X.K fd ps ds)(hd:Vals Yn ds)(hx:m4 CX X E) (I:Inv X pins σ H s) (r:Vals vs us) (h:sp (vs++Yn) H Q E):wpAny (model X.prog X.w) X.A (call (.ref f) us) (EP X pins σ Q) X.xe s:=by
 have r2:=r.append hd;refine wpAny_call (codeAny_mono (F.run _ _ s H _ _ _ Q E hr I.zgO (hb s _ I.WZ (by rw[<-r2.length];exact F.len _ _ _ _ h)) r2 h) λr s' hq=>?_);cases r with
 |error e=>exact hx _ σ H s e _ I hq
 |ok fl=>
  cases fl with
  |ret u=>exact I.after hq
  |next=>assumption
  |brk=>assumption
  |cont=>assumption
def D0(F:XC X.prog X.w X.K X.mg X.base CX k f fd ps sp)(hr:Xa k X.A)(hg:Gl X x)(hm:X.mg x=Qs (.ref f))(hk:S0 X.K (.ref f)=Qt)(hb:Binds X.K fd ps ds)(hd:Vals Yn ds)(hx:m4 CX X E) (ha:PA X (e::es) t) (Yv:Xg x:=by decide) (he:RM (e::es) X.env=(Qf,eval e X.env)::RM es X.env:=by rfl) (XX:(TV pos (RM es X.env)).any (·.1)=Qf:=by rfl):PE X (.Call (.Name x p) (e::es) [] pos) (JP sp Yn E t):=by intro pins s σ H Q I h;refine wpAny_Call_Name_kw (Fp I hg hm ?_ Yv);refine U0 I.ok.mod.kin hk (aF (ha _ _ s σ H _ I h) λus s1 ⟨vs,H1,I1,r,q⟩=>⟨I1.WZ,?_⟩) he XX;exact yb F hr hb hd hx I1 r q
def DY{pl:Sem Bool}(he:PE X o ta)(c:Xb X.K C)(hm:Meth X.K C m f)(F:XC X.prog X.w X.K X.mg X.base CX k f fd ps sp)(hr:Xa k X.A)(hb:Binds X.K fd ps ds)(hd:Vals Yn ds)(hx:m4 CX X E)(ha:PA X (e::es) t) (WY:RM (e::es) X.env=(Qf,eval e X.env)::RM es X.env:=by rfl) (XX:(TV pos (RM es X.env)).any (·.1)=Qf:=by rfl) (ht:eval (.Call (.Attribute o m apos) (e::es) [] pos) X.env=(do
   let ov<-eval o X.env
   standAt apos.atName
   let (f,first)<-holding [ov] (getMethod ov m pl)
   callWith pos f first (TV pos (RM (e::es) X.env)) (backToKw pos (keywordEach [] X.env))):=by rfl):PE X (.Call (.Attribute o m apos) (e::es) [] pos) (sU C m sp Yn E ta t):=by intro pins s σ H Q I h;refine Vo (aF (he _ s σ H _ I h) λu s1 ⟨x,H1,I1,rx,a,dx,fs,ex,ea,l,q⟩=>?_) ht;subst ex;obtain rfl:u=SA a:=rx;refine FX I1 ea c hm l ?_;refine U0 I.ok.mod.kin hm.kp (aF (ha _ _ _ σ _ _ I1 q) λus s2 ⟨vs,H2,I2,r,q2⟩=>⟨I2.WZ,?_⟩) WY XX;exact yb (vs:=.ref a::vs) F hr hb hd hx I2 (.cons rfl r) q2
def DX(he:PE X o ta)(c:Xb X.K C)(hm:Meth X.K C m f)(F:XC X.prog X.w X.K X.mg X.base CX k f fd ps sp)(hr:Xa k X.A)(hb:Binds X.K fd ps ds)(hd:Vals Yn ds)(hx:m4 CX X E) (ht:eval (.Call (.Attribute o m apos) [] [] pos) X.env=(do
   let ov<-eval o X.env
   standAt apos.atName
   let (f,first)<-holding [ov] (getMethod ov m pl)
   callWith pos f first (TV pos (RM [] X.env)) (backToKw pos (keywordEach [] X.env))):=by rfl):PE X (.Call (.Attribute o m apos) [] [] pos) (sU C m sp Yn E ta Co):=by intro pins s σ H Q I h;refine Vo (aF (he _ s σ H _ I h) λu s1 ⟨x,H1,I1,rx,a,dx,fs,ex,ea,l,q⟩=>?_) ht;subst ex;obtain rfl:u=SA a:=rx;refine FX I1 ea c hm l ?_;exact PySem.W.callWith_K0 I1.WZ hm.kp (yb (vs:=[.ref a]) F hr hb hd hx I1 (.cons rfl .nil) q)
structure Mk(K:Rv)(C f:ZE):Prop where
 makes:UO K C=Qt
 init:S8 K (.ref C) "__init__"=Qs (Qs (.ref f))
 fn:Vv K (.ref f)=Qt
 kp:S0 K (.ref C)=Qt
def Kq{σ:St}(M:Mk X.K C f)(F:XC X.prog X.w X.K X.mg X.base CX k f fd ps sp)(hr:Xa (k+1) X.A)(hb:Binds X.K fd ps ds)(hd:Vals Yn ds) (hx:m4 CX X E) (I:Inv X pins σ H s) (r:Vals vs us) (h:∀x dx,H x=Qn->H dx=Qn->dx≠x->sp (.ref x::(vs++Yn)) (upd (upd H dx (.own x)) x (.ins C dx [])) (λv H2=>v=.Wj/\Q (.ref x) H2) E):wpAny (model X.prog X.w) X.A (call (.ref C) us) (EP X pins σ Q) X.xe s:=by
 have hq:=h _ _ (I.Wk.fresh (VE _)) (I.Wk.fresh (RL _)) (So (SO _));have I2:=Inv.made (C:=C) I;have r2:Vals (V.ref (s.heap.objs.size+1)::(vs++Yn)) _:=.cons rfl (r.append hd);refine wpAny_call (N0 I.WZ M.makes M.init (beq_iff_eq.mp M.fn) (codeAny_mono (F.run _ _ _ _ _ _ _ _ E (hr.make C _ _) (I2.zgO.make C _ _) (hb _ _ I2.WZ (by
  have e:=r2.length;rw[F.len _ _ _ _ hq]at e;exact e.symm)) r2 hq) λr s' hq'=>?_))
 cases r with
 |error e=>exact hx _ σ _ _ e _ I2 hq'
 |ok fl=>
  cases fl with
  |ret u=>obtain⟨v,H',I3,rv,ev,q3⟩:=I2.after hq';subst ev;exact⟨rv,⟨V.ref _,H',I3,rfl,q3⟩⟩
  |next=>assumption
  |brk=>assumption
  |cont=>assumption
def Me(M:Mk X.K C f)(F:XC X.prog X.w X.K X.mg X.base CX k f fd ps sp)(hr:Xa (k+1) X.A)(hg:Gl X x)(hm:X.mg x=Qs (.ref C))(hb:Binds X.K fd ps ds)(hd:Vals Yn ds)(hx:m4 CX X E) (ha:PA X (e::es) t) (Yv:Xg x:=by decide) (he:RM (e::es) X.env=(Qf,eval e X.env)::RM es X.env:=by rfl) (XX:(TV pos (RM es X.env)).any (·.1)=Qf:=by rfl):PE X (.Call (.Name x p) (e::es) [] pos) (JC C sp Yn E t):=by intro pins s σ H Q I h;refine wpAny_Call_Name_kw (Fp I hg hm ?_ Yv);refine U0 I.ok.mod.kin M.kp (aF (ha _ _ s σ H _ I h) λus s1 ⟨vs,H1,I1,r,q⟩=>⟨I1.WZ,?_⟩) he XX;exact Kq M F hr hb hd hx I1 r q
end
structure WJ(N P:List Str)(sc:XW):Prop where
 kind:sc.kind=.function
 co:sc.isCoroutine=Qf
 gen:sc.isGenerator=Qf
 nd:N.Nodup
 pre:N.take P.length=P
 par:∀x∈P,sc.names.lookup x=Qs .local\/sc.names.lookup x=Qs .cell
 ziF:∀y∈sc.names,y.2≠.free
theorem HM{kindOf:Str->Qo Tz}:∀{binds:Ql (Str×R8)}{m:Str->Qo R8},(∀v,(x,v)∉binds)->bindL kindOf binds m x=m x
 |[],_,_=>rfl
 |(n,v)::r,m,h=>by
  unfold bindL;rw[HM λw hw=>h w (Rx _ hw)];split
  .grind
  rfl
theorem HP{kindOf:Str->Qo Tz}:∀{binds:Ql (Str×R8)}{m:Str->Qo R8},(∀v,(x,v)∉binds)->bindC kindOf binds m x=m x
 |[],_,_=>rfl
 |(n,v)::r,m,h=>by
  unfold bindC;rw[HP λw hw=>h w (Rx _ hw)];split
  .rfl
  .grind
theorem HN{kindOf:Str->Qo Tz}:∀{P:Ql Str}{vs:Ql R8}{i:Nat}{m:Str->Qo R8},P.Nodup->P[i]?=Qs x->vs[i]?=Qs v->kindOf x=Qs .local->bindL kindOf (P.zip vs) m x=Qs v
 |[],_,_,_,_,h,_,_=>by simp at h
 |_::_,[],_,_,_,_,h,_=>by simp at h
 |p::P,w::vs,0,m,nd,h1,h2,hk=>by simp at h1 h2;subst h1;subst h2;show bindL _ ((p,w)::P.zip _) m p=_;unfold bindL;rw[HM λv hv=>(RQ.mp nd).1 (Vu hv).1,V4 hk];simp
 |p::P,w::vs,i+1,m,nd,h1,h2,hk=>by unfold bindL;exact HN (RQ.mp nd).2 (h1) (h2) hk
theorem HQ{kindOf:Str->Qo Tz}:∀{P:Ql Str}{vs:Ql R8}{i:Nat}{m:Str->Qo R8},P.Nodup->P[i]?=Qs x->vs[i]?=Qs v->kindOf x≠Qs .local->bindC kindOf (P.zip vs) m x=Qs v
 |[],_,_,_,_,h,_,_=>by simp at h
 |_::_,[],_,_,_,_,h,_=>by simp at h
 |p::P,w::vs,0,m,nd,h1,h2,hk=>by simp at h1 h2;subst h1;subst h2;show bindC _ ((p,w)::P.zip _) m p=_;unfold bindC;rw[HP λv hv=>(RQ.mp nd).1 (Vu hv).1,Wh hk];simp
 |p::P,w::vs,i+1,m,nd,h1,h2,hk=>by unfold bindC;exact HQ (RQ.mp nd).2 (h1) (h2) hk
def start(N:Ql Str)(vs:Ql V):St:=vs.map Qs++RT (N.length-vs.length) Qn
def iT(CX:nj)(P:Te)(w:UX)(K:Rv)(mg:Str->Qo R8)(base:Yp)(N:Ql Str)(qual:Str)(scope:XW)(f:ZE)(cd:R8)(A:Ua)(outer:Ql Env)(s:R7)(H:Hp)(E:XK):Cx where
 prog:=P
 w:=w
 K:=K
 mg:=mg
 base:=base
 A:=A.deeper (envOfC qual scope s.heap.objs.size f cd)
 N:=N
 s₀:=s
 H₀:=H
 env:=envOfC qual scope s.heap.objs.size f cd
 outer:=outer
 stack:=envOfC qual scope s.heap.objs.size f cd::outer
 ex:=[]
 calm:=Qt
 fn:=λ_=>Qt
 pn:=[]
 xe:=λe s'=>wpAny (model P w) (A.deeper (envOfC qual scope s.heap.objs.size f cd)) (leaving (envOfC qual scope s.heap.objs.size f cd) e) (λ_ s''=>CX outer H s E e s'') (λe' s''=>CX outer H s E e' s'') s'
def HA{sc:XW}(h:sc.names.lookup x=Qs .cell):∃c,(cellsFrom n sc.names []).lookup x=Qs c:=by exact Option.isSome_iff_exists.mp (Vf sc.names n [] (.inl h))
def O0 
  (S:WJ N ps scope) (hd:A.handled=Qn) (e0:zbp P w K mg base A outer s H) (hl:vs.length=ps.length) (r:Vals vs us) (x:InCallC s s.heap.objs.size (bindL (envOfC qual scope s.heap.objs.size f cd).kindOf (ps.zip us) λ_=>Qn) (cellsFrom (s.heap.objs.size+1) scope.names []) (bindC (envOfC qual scope s.heap.objs.size f cd).kindOf (ps.zip us) λ_=>Qn) s1):Inv (iT CX P w K mg base N qual scope f cd A outer s H E) [] (start N vs) H s1:=by
 have XX:ps.length<=N.length:=by have:=congrArg List.length S.pre;rw[List.length_take]at this;lia
 obtain⟨h1,tk,rfl,hk⟩:=x.done;have noA:∀b:ZE,b∉(iT CX P w K mg base N qual scope f cd A outer s H E).ex:=λb z=>absurd (show b∈([]:Ql ZE) from z) (by simp);refine⟨⟨e0.mod,S.kind,rfl,rfl,RL _,λy z c h1 h2=>?_,λy hy=>?_,λy c _ h=>?_,λ_=>hd,Around.frames_deeper e0.frames,.inr ⟨rfl,rfl⟩,λb z=>absurd z (noA b),e0.bs,e0.Z8,λb _ _=>noA b,λb z=>absurd z (noA b),e0.Zc,e0.frf,e0.tabs⟩,rfl,e0.bare,Un.kept hk,⟨_,x.toInCall.ns,λi y v h1 h2 h3=>?_⟩,λy c h=>⟨_,x.cell y c h⟩,e0.Wk.fresh (RL _),λy c h=>?_,λp hp=>absurd (show p∈([]:Ql (ZE×Obj)) from hp) (by simp),e0.Wk.kept hk,?_⟩
 .exact name_of_addr x.apart (PySem.mem_of_lookup h1) (PySem.mem_of_lookup h2)
 .rcases hy with hy|hy
  .exact HA hy
  .exact absurd rfl (S.ziF _ (PySem.mem_of_lookup hy))
 .exact Uz (x.above y c (PySem.mem_of_lookup h))
 .have hi:i<vs.length:=by
   unfold start at h2;by_cases hi:i<vs.length
   .assumption
   .rw[T1 (by simpa using hi)]at h2;rw[Ug]at h2;split at h2<;>cases h2
  have ha:vs[i]?=Qs v:=by
   unfold start at h2;rw[Ta (by simpa using hi),Se]at h2
   simp_all
  obtain⟨u,hu,rv⟩:=r.get ha;have hp:ps[i]?=Qs y:=by rw[<-S.pre,List.getElem?_take_of_lt (by lia)];assumption
  have ndP:ps.Nodup:=by rw[<-S.pre];exact S.nd.sublist (List.take_sublist _ _)
  refine⟨u,rv,?_⟩;rcases S.par y (UA hp) with k|k
  .exact .inl ⟨k,HN ndP hp hu k⟩
  .obtain⟨c,e⟩:=HA (n:=s.heap.objs.size+1) k;refine .inr ⟨.inl k,c,e,?_⟩;have q:=x.cell y c e;rw[HQ ndP hp hu (by show scope.names.lookup y≠_;lia)]at q;assumption
 .exact e0.Wk.fresh (Uz (x.above y c (PySem.mem_of_lookup h)))
 .unfold start;show _=N.length
  simp_all
def PY{dV kV doc pm Wu ct oc:R8}(lk:K.lookup f=Qs ⟨oc,od,.func (SV name qual params body scope dV kV doc pm an Wu ct),osl⟩)(W3:Uw K Wu qual=Qt)(S:WJ N ps scope) (len:∀vs H Q E,sp vs H Q E->vs.length=ps.length) (ZM:∀(A:Ua) (outer:Ql Env) (s:R7) (H:Hp) (vs:Ql V) (Q:VK) (E:XK),Xa k (A.deeper (envOfC qual scope s.heap.objs.size f Wu))->sp vs H Q E->∃t,WH (iT CX P w K mg base N qual scope f Wu A outer s H E) body t/\t {nx:=λ_ H'=>Q .Wj H',rt:=Q} (start N vs) H):XC P w K mg base CX (k+1) f (SV name qual params body scope dV kV doc pm an Wu ct) ps sp:=by
 refine⟨len,λA outer s H args us vs Q E hr e0 hb r hsp=>?_⟩;have KX:=e0.mod.kin.keeps λb o e=>(e0.bs b o e).1;refine codeAny_call_function hr.depth (KX _ _ lk) rfl S.co S.gen rfl (PySem.W.codeRec_of KX W3) (hb _ _ _ _ ?_);refine wpAny_newFunctionEnv_cells S.kind (λ⟨n,v⟩ hy=>by
  rcases S.par n (Vu hy).1 with q|q
  .exact .inl q
  .exact .inr ⟨q,Vf _ _ _ (.inl q)⟩) λenv he s1 x=>?_
 subst he;refine⟨(e0.mod.nolimit.keeps λb o e=>(e0.bs b o e).1).keeps x.toInCall.keep,codeAny_func ?_⟩;obtain⟨t,ht,hq⟩:=ZM A outer s H _ Q E (hr.deeper _) hsp;refine wpAny_mono (ht _ _ _ H _ (O0 S hr.hd e0 (len _ _ _ _ hsp) r x) hq) (λfl s' hs=>?_) λe s' hs=>hs;have fin:∀{σ':St}{H':Hp}{v:V}{u:R8},Inv (iT CX P w K mg base N qual scope f Wu A _ s H E) [] σ' _ s'->RelV v u->Q v _->CE outer P w H s Q u _:=λ{σ' H' v u} J rv q=>⟨v,H',J.os,J.bare,J.base,J.Wk,rv,q⟩
 cases fl with
 |ret u=>obtain⟨v,σ',H',J,rv,q⟩:=hs;exact fin J rv q
 |next=>obtain⟨σ',H',J,q⟩:=hs;exact fin (v:=V.Wj) J rfl q
 |brk=>obtain⟨_,_,_,q⟩:=hs;exact False.elim q
 |cont=>obtain⟨_,_,_,q⟩:=hs;exact False.elim q
section
variable {X:Cx}{x:Str}{p:Pos}{e:ZG}{es:Ql ZG}{t:TA}{id:String}{r:Ql V->Hp->VK->Prop}
def JQ(r:Ql V->Hp->VK->Prop)(t:TA):TE:=λσ H Q=>t σ H λvs H1=>r vs H1 Q
def Mi(hc:gj X (.builtin id) r)(hg:Gl X x)(hm:X.mg x=Qn)(hv:bootBuiltins x=Qs (.builtin id))(ha:PA X (e::es) t)(hn:x≠"__name__":=by decide)(Yv:Xg x:=by decide) (he:RM (e::es) X.env=(Qf,eval e X.env)::RM es X.env:=by rfl) (XX:(TV pos (RM es X.env)).any (·.1)=Qf:=by rfl):PE X (.Call (.Name x p) (e::es) [] pos) (JQ r t):=by intro pins s σ H Q I h;refine wpAny_Call_Name_kw (jB I hg hm hv ?_ hn Yv);exact PyProof.Rows.callWith_builtin1 (aF (ha _ _ s σ H _ I h) λus s1 ⟨vs,H1,I1,r1,q1⟩=>hc _ _ σ _ _ _ Q I1 r1 q1) he XX
end
abbrev TO:=St->Hp->(Qo Int->Hp->Prop)->Prop
def oN:∀{us:Ql R8},Vals (ns.map V.int) us->IntsAre us ns:=by
 induction ns with
 |nil=>intro us r;cases r;exact .nil
 |cons n ns ih=>
  intro us r;cases r with
  |cons r1 r2=>obtain⟨t,e⟩:=r1;subst e;exact .cons n t (ih r2)
noncomputable def XD(n:Nat)(i:Int):Qo Nat:=if 0<=i then(if i<n then Qs i.toNat else Qn) else if-(n:Int)<=i then Qs (i+n).toNat else Qn
def W7{α:Type}(xs:Ql α)(i:Int):Qo α:=(XD xs.length i).bind λj=>xs[j]?
def FF(h:XD n i=Qs j):seqIndex? i n=Qs j/\j<n/\-(n:Int)<=i/\i<n:=by
 unfold XD at h;by_cases h0:0<=i
 .rw[V4 h0]at h;by_cases h1:i<n
  .rw[V4 h1]at h;have e:=SX h;exact⟨by rw[seqIndex_of h0 h1,e],by lia,by lia,h1⟩
  .rw[Wh h1]at h;cases h
 .rw[Wh h0]at h;by_cases h1:-(n:Int)<=i
  .rw[V4 h1]at h;have e:=SX h;exact⟨by rw[seqIndex_neg (by lia) h1,e],by lia,h1,by lia⟩
  .rw[Wh h1]at h;cases h
def Bp(h:W7 xs i=Qs v):∃j,seqIndex? i xs.length=Qs j/\xs[j]?=Qs v/\j<xs.length/\-(xs.length:Int)<=i/\i<xs.length:=by
 unfold W7 at h;rcases e:XD _ i with _|j
 .rw[e]at h;cases h
 rw[e]at h;obtain⟨h1,h2,h3,h4⟩:=FF e;exact⟨j,h1,h,h2,h3,h4⟩
def o5(b:ZG):Prop:=∀o i,subscripted b Qf o i=operate [o,i] (getItem o i)
def IxR(X:Cx)(r:R2):Prop:=∀(value slice:ZG) (pins:Ql (ZE×Obj)) (s:R7) (σ:St) (H:Hp) (x y:V) (v u:R8) (Q:VK),Inv X pins σ H s->RelV x v->RelV y u->r x y H Q->subscripted slice Qf v u=operate [v,u] (getItem v u)->wpAny (model X.prog X.w) X.A (subscriptTail value slice v u) (EP X pins σ Q) X.xe s
def Rk(X:Cx)(id:String)(r:V->Ql V->Hp->VK->Prop):Prop:=∀(pins:Ql (ZE×Obj)) (s:R7) (σ:St) (H:Hp) (x:V) (xs:Ql V) (v:R8) (us:Ql R8) (Q:VK),Inv X pins σ H s->RelV x v->Vals xs us->r x xs H Q->wpAny (model X.prog X.w) X.A (call (.builtin id) (v::us)) (EP X pins σ Q) X.xe s
section
variable {X:Cx}{a b:ZG}{ta tb:TE}
def IxR.or(h:IxR X r)(h':IxR X r'):IxR X (λx y H Q=>r x y H Q\/r' x y H Q):=by
 intro value slice pins s σ H x y v u Q I rx ry q hs;rcases q with q|q
 .exact h _ _ _ s σ H x y v u Q I rx ry q hs
 .exact h' _ _ _ s σ H x y v u Q I rx ry q hs
def pS(hr:IxR X r)(ha:PE X a ta)(hb:PE X b tb)(hs:o5 b):PE X (.Subscript a b pos) (Jz r ta tb):=by intro pins s σ H Q I h;exact Subscript_ (Q0 ha hb I h λv u s2 x y H2 I2 rx ry q=>hr a b _ _ σ _ x y v u Q I2 rx ry q (hs _ _))
def pN(K:Rv):R2:=λx y H Q=>∃p xs i v,x=.ref p/\y=.int i/\V5 K H p xs/\W7 xs i=Qs v/\Q v H
def tO(K:Rv):R2:=λx y H Q=>∃p xs i v,x=.ref p/\y=.int i/\WG K H p xs/\W7 xs i=Qs v/\Q v H
def zck:IxR X (pN X.K):=by
 intro value slice pins s σ H x y v u Q I rx ry h hs;obtain⟨p,xs,i,z,rfl,rfl,hq,he,q⟩:=h;cases rx;obtain⟨t,rfl⟩:=ry;obtain⟨VU,r,pl,hz⟩:=I.list hq;obtain⟨j,h1,h2,h3,h4,h5⟩:=Bp he;obtain⟨w,ew,YR⟩:=r.get h2;have hl:=r.length;have hn:=oz;have fin:EP X pins σ Q w s:=⟨z,H,I,YR,q⟩;by_cases h0:0<=i
 .have hj:=by rw[seqIndex_of h0 h5]at h1;exact SX h1
  exact item_listR pl.isList h0 (by lia) (by rw[hj];simpa using ew) fin hs
 .have hj:(i+VU.toArray.size).toNat=j:=by
   rw[seqIndex_neg (by lia) h4]at h1
   simp_all
  exact subscriptTail_builtinR pl.isList.typeIs slot_list_getitem.lookup (wpAny_getItem_list_neg pl.isList (by lia) (by rw[R9]<;>lia) (by lia) (by rw[hj];simpa using ew) ⟨rfl,fin⟩) hs
def uS:IxR X (tO X.K):=by
 intro value slice pins s σ H x y v u Q I rx ry h hs;obtain⟨p,xs,i,z,rfl,rfl,hq,he,q⟩:=h;cases rx;obtain⟨t,rfl⟩:=ry;obtain⟨VU,r,pl,hz⟩:=I.tuple hq;obtain⟨j,h1,h2,h3,h4,h5⟩:=Bp he;obtain⟨w,ew,YR⟩:=r.get h2;have hn:=oz;exact subscriptTail_builtinR pl.typeIs slot_tuple_getitem.lookup (getItem_tuple pl (by lia) (by lia) (by rw[R9,<-r.length];assumption) (by simpa using ew) ⟨rfl,(⟨z,H,I,YR,q⟩)⟩) hs
def NY(VU:Ql R8)(n j:Nat)(u:R8):Obj.mapSeq (·.setIfInBounds j u) { cls:=.type "list",data:=.seq VU.toArray n }={ cls:=.type "list",data:=.seq (VU.set j u).toArray n }:=by simp[Obj.mapSeq]
theorem Inv.lst{σ:St}{H:Hp}{s:R7}{p:ZE}{xs:Ql V}(I:Inv X pins σ H s)(h:H p=Qs (.lst xs)):∃(VU:Ql R8) (n:Nat),Vals xs VU/\s.heap.get? p=Qs {cls:=.type "list",data:=.seq VU.toArray n}/\xs.length<=Sf:=by obtain⟨z,VU,n,r,e⟩:=I.Wk p _ h;exact⟨VU,n,r,e,z⟩
def Inv.ziW{σ:St}{VU XF:Ql R8}(I:Inv X pins σ H s)(h:H p=Qs (.lst xs))
  (ho:s.heap.get? p=Qs { cls:=.type "list",data:=.seq VU.toArray n }) (hf:f { cls:=.type "list",data:=.seq VU.toArray n }={ cls:=.type "list",data:=.seq XF.toArray n' }) (r:Vals ys XF) (hz:ys.length<=Sf) (t:Nat) :Inv X pins σ (upd H p (.lst ys)) { s with heap:=s.heap.update p f,toks:=t }:=by
 have e:(s.heap.update p f).get? p=Qs { cls:=.type "list",data:=.seq XF.toArray n' }:=by rw[Uv f ho (by rw[hf]<;>rfl),hf]
 refine I.write (by rw[h];trivial) (.inl rfl) (λb u hb q=>(S9 _ _ (Ne.symm hb)).trans q) ⟨_,e⟩ ?_;exact⟨hz,XF,n',r,e⟩
def KL:V->V->V->Hp->(Hp->Prop)->Prop:=λo i v H Q=>∃p xs k j,o=.ref p/\i=.int k/\H p=Qs (.lst xs)/\XD xs.length k=Qs j/\Q (upd H p (.lst (xs.set j v)))
def pL:vX X KL:=by
 intro pins s σ H o i v ov iv u Q I ro ri rv h;obtain⟨p,xs,k,j,rfl,rfl,hp,hj,q⟩:=h;cases ro;obtain⟨t,rfl⟩:=ri;obtain⟨VU,n,r,ho,hz⟩:=I.lst hp;obtain⟨h1,h2,h3,h4⟩:=FF hj;have hl:=r.length;have hn:=oz;have I':Inv X pins σ (upd H p (.lst (xs.set j v))) { s with heap:=s.heap.update p (Obj.mapSeq (·.setIfInBounds j u)) } :=I.ziW hp ho (NY VU n j u) (r.set rv j) (by rw[UP];assumption) s.toks
 by_cases h0:0<=k
 .have hk:=by rw[seqIndex_of h0 h4]at h1;exact SX h1
  exact PySem.W.ki_setAt ho h0 (by lia) (by rw[R9, <-hl];assumption) (by rw[hk];exact⟨_,I',q⟩)
 .have hk:(k+VU.toArray.size).toNat=j:=by
   rw[seqIndex_neg (by lia) h3]at h1
   simp_all
  exact PySem.W.ki_setBack ho (by lia) (by rw[R9, <-hl];assumption) (by lia) (by rw[hk];exact⟨_,I',q⟩)
def eA:V->Bool
 |.Wj=>Qt
 |.bl _=>Qt
 |.int _=>Qt
 |.str _=>Qt
 |_=>Qf
noncomputable def g7(x y:V):Bool:=match x with
 |.Wj=>(match y with|.Wj=>Qt|_=>Qf)
 |.bl a=>(match y with|.bl b=>a==b|.int b=>(if a then 1 else 0)==b|_=>Qf)
 |.int a=>(match y with|.bl b=>a==(if b then 1 else 0)|.int b=>a==b|_=>Qf)
 |.str a=>(match y with|.str b=>a==b|_=>Qf)
 |_=>Qf
def Au(ry:RelV y u)(rx:RelV x v)(fy:eA y=Qt)(fx:eA x=Qt):SeqAt.EqAt A s u v (g7 y x):=by
 cases y with
 |Wj=>
  cases ry;cases x with
  |Wj=>cases rx;exact SeqAt.EqAt.same _
  |bl b=>cases rx;exact SeqAt.EqAt.none_bool b
  |int b=>obtain⟨t,rfl⟩:=rx;exact SeqAt.EqAt.none_int b t
  |str b=>obtain⟨t,rfl⟩:=rx;exact SeqAt.EqAt.none_str b t
  |_=>exact absurd (fx) RD
 |bl a=>
  cases ry;cases x with
  |Wj=>cases rx;exact SeqAt.EqAt.bool_none a
  |bl b=>cases rx;exact SeqAt.EqAt.bool_bool a b
  |int b=>obtain⟨t,rfl⟩:=rx;exact SeqAt.EqAt.bool_int a b t
  |str b=>obtain⟨t,rfl⟩:=rx;exact SeqAt.EqAt.bool_str a b t
  |_=>exact absurd (fx) RD
 |int a=>
  obtain⟨t',rfl⟩:=ry;cases x with
  |Wj=>cases rx;exact SeqAt.EqAt.int_none a _
  |bl b=>cases rx;exact SeqAt.EqAt.int_bool a _ b
  |int b=>obtain⟨t,rfl⟩:=rx;exact SeqAt.EqAt.int_int a _ b t
  |str b=>obtain⟨t,rfl⟩:=rx;exact SeqAt.EqAt.int_str a _ b t
  |_=>exact absurd (fx) RD
 |str a=>
  obtain⟨t',rfl⟩:=ry;cases x with
  |Wj=>cases rx;exact SeqAt.EqAt.str_none a _
  |bl b=>cases rx;exact SeqAt.EqAt.str_bool a _ b
  |int b=>obtain⟨t,rfl⟩:=rx;exact SeqAt.EqAt.str_int a _ b t
  |str b=>obtain⟨t,rfl⟩:=rx;exact SeqAt.EqAt.str_str a _ b t
  |_=>exact absurd (fx) RD
 |_=>exact absurd (fy) RD
def mQ(x:V)(u:R8):Bool:=match u with
 |.none=>g7 .Wj x
 |.bool b=>g7 (.bl b) x
 |.int i _=>g7 (.int i) x
 |.str z _=>g7 (.str z) x
 |_=>Qf
def GX(r:RelV y u)(f:eA y=Qt):mQ x u=g7 y x:=by
 cases y with
 |Wj=>cases r;rfl
 |bl b=>cases r;rfl
 |int i=>obtain⟨t,rfl⟩:=r;rfl
 |str z=>obtain⟨t,rfl⟩:=r;rfl
 |_=>exact absurd (f) RD
theorem sj:∀{xs:Ql V}{us:Ql R8},Vals xs us->xs.all eA=Qt->us.any (mQ x)=xs.any λy=>g7 y x
 |_,_,.nil,_=>rfl
 |y::xs,u::us,.cons r t,f=>by rw[SK,RJ]at f;rw[T6,T6,GX r f.1,sj t f.2]
theorem ql(rx:RelV x v)(fx:eA x=Qt):∀{xs:Ql V}{us:Ql R8},Vals xs us->xs.all eA=Qt->∀u∈us,SeqAt.EqAt A s u v (mQ x u)
 |_,_,.nil,_=>λu hu=>by cases hu
 |y::xs,u::us,.cons r t,f=>λu' hu=>by
  rw[SK,RJ]at f;rcases RB.mp hu with rfl|hu
  .rw[GX r f.1];exact Au r rx f.1 fx
  .exact ql rx fx t f.2 _ hu
def mG(x:V)(xs:Ql V):Bool:=xs.any λy=>g7 y x
def C8(K:Rv)(neg:Bool):R2:=λx y H Q=>∃p xs,y=.ref p/\(V5 K H p xs\/WG K H p xs)/\eA x=Qt/\xs.all eA=Qt/\Q (.bl (if neg then !mG x xs else mG x xs)) H
def D5:e8 X (compareOp .In) (C8 X.K Qf):=by
 intro pins s σ H x y v u Q I rx ry h;obtain⟨p,xs,rfl,hq,fx,fs,q⟩:=h;cases ry;rcases hq with hq|hq
 .obtain⟨VU,r,pl,hz⟩:=I.list hq;refine SeqAt.in_listAt _ pl.isList (λw hw=>ql rx fx r fs w (by simpa using hw)) ⟨.bl _,H,I,rfl,?_⟩;rw[show VU.toArray.any _=VU.any (mQ x) by simp,sj r fs];assumption
 .obtain⟨VU,r,pl,hz⟩:=I.tuple hq;refine SeqAt.in_tupleAt _ pl (λw hw=>ql rx fx r fs w (by simpa using hw)) ⟨.bl _,H,I,rfl,?_⟩;rw[show VU.toArray.any _=VU.any (mQ x) by simp,sj r fs];assumption
def D4:e8 X (compareOp .NotIn) (C8 X.K Qt):=by
 intro pins s σ H x y v u Q I rx ry h;obtain⟨p,xs,rfl,hq,fx,fs,q⟩:=h;cases ry;rcases hq with hq|hq
 .obtain⟨VU,r,pl,hz⟩:=I.list hq;refine SeqAt.notIn_listAt _ pl.isList (λw hw=>ql rx fx r fs w (by simpa using hw)) ⟨.bl _,H,I,rfl,?_⟩;rw[show VU.toArray.any _=VU.any (mQ x) by simp,sj r fs];assumption
 .obtain⟨VU,r,pl,hz⟩:=I.tuple hq;refine SeqAt.notIn_tupleAt _ pl (λw hw=>ql rx fx r fs w (by simpa using hw)) ⟨.bl _,H,I,rfl,?_⟩;rw[show VU.toArray.any _=VU.any (mQ x) by simp,sj r fs];assumption
def QL:gj X (.builtin "len") (λxs H Q=>∃p ys,xs=[.ref p]/\(V5 X.K H p ys\/WG X.K H p ys)/\Q (.int ys.length) H):=by
 intro pins s σ H xs us Q I r h;obtain⟨p,ys,rfl,hq,q⟩:=h;obtain⟨u,rfl,rx⟩:=jT r;cases rx;have hn:=oz;rcases hq with hq|hq
 .obtain⟨VU,r',pl,hz⟩:=I.list hq;have hlen:=r'.length;exact Calls.call_len_list pl.isList (by simp<;>lia) ⟨.int _,H,I.tok _,⟨_,by rw[R9,hlen]⟩,q⟩
 .obtain⟨VU,r',pl,hz⟩:=I.tuple hq;have hlen:=r'.length;exact len_tuple pl (by simp<;>lia) ⟨.int _,H,I.tok _,⟨_,by rw[R9,hlen]⟩,q⟩
def QK:gj X (.type "list") (λxs H Q => ∃p ys,xs=[.ref p]/\(V5 X.K H p ys\/WG X.K H p ys)/\∀l,H l=Qn->Q (.ref l) (upd H l (.lst ys))):=by
 intro pins s σ H xs us Q I r h;obtain⟨p,ys,rfl,hq,q⟩:=h;obtain⟨u,rfl,rx⟩:=jT r;cases rx;have fin:∀(VU:Ql R8),Vals ys VU->ys.length<=Sf->∀(h':ZF) (c':Nat),(∀b o',s.heap.get? b=Qs o'->h'.get? b=Qs o') ->h'.get? s.heap.objs.size=Qs { cls:=.type "list",dict:=Qn,data:=.seq VU.toArray c',slots := #[] }->EP X pins σ Q (.ref s.heap.objs.size) { s with heap:=h' }:=λVU r' hz h' c' kp e =>
  ⟨.ref s.heap.objs.size,_,I.laid (t':=s.toks) kp (RL _) (show Yc X.prog X.w _ h' _ (.lst ys) from⟨hz,VU,c',r',e⟩),rfl,q _ (I.Wk.fresh (RL _))⟩
 rcases hq with hq | hq
 .obtain⟨VU,r',pl,hz⟩:=I.list hq;have hlen:=r'.length;obtain⟨o,ho,hc,n,hd⟩:=pl.isList;exact call_list_seq p (.inl rfl) ho hc hd (λh' c' kp e=>fin _ r' hz _ _ kp e) (by simp_all)
 .obtain⟨VU,r',pl,hz⟩:=I.tuple hq;have hlen:=r'.length;obtain⟨o,ho,hc,n,hd⟩:=pl;exact call_list_seq p (.inr rfl) ho hc hd (λh' c' kp e=>fin _ r' hz _ _ kp e) (by simp_all)
def Ca(K:Rv)(T:String)(x:V)(H:Hp):Prop:=match x with
 |.str _=>T= "str"
 |.int _=>T= "int"
 |.ref p=>(T= "list"/\∃xs,V5 K H p xs)\/(T= "tuple"/\∃o,K.lookup p=Qs o/\o.cls=.type "tuple"/\o.dict=Qn) \/ (T= "dict"/\((∃Wg,H p=Qs (.dK Wg))\/∃Wg,H p=Qs (.dT Wg)))\/(T= "set"/\∃S n,H p=Qs (.set S n))
 |_=>False
def IT{σ:St}(I:Inv X pins σ H s)(r:RelV x v)(ty:Ca X.K T x H):s.TypeIs v T/\∀a,v=.ref a->∃ob,s.heap.get? a=Qs ob/\ob.dict=Qn:=by
 cases x with
 |str z=>obtain⟨t,rfl⟩:=r;cases(ty);exact⟨typeIs_str s z t,λ_ e=>nomatch e⟩
 |int i=>obtain⟨t,rfl⟩:=r;cases(ty);exact⟨typeIs_int s i t,λ_ e=>nomatch e⟩
 |ref p=>
  cases r;rcases ty with⟨rfl,xs,hq⟩|⟨rfl,o,hk,hc,hd⟩|⟨rfl,hk⟩|⟨rfl,S,n,hk⟩
  .obtain⟨VU,_,pl,_⟩:=I.list hq;refine⟨pl.isList.typeIs,λa e=>?_⟩;cases e;obtain⟨o,n,e,c,hd,_⟩:=pl;exact⟨o,e,hd⟩
  .refine⟨⟨o,I.WZ p o hk,hc⟩,λa e=>?_⟩;cases e;exact⟨o,I.WZ _ o hk,hd⟩
  .have z:∃o,s.heap.get? p=Qs o/\o.ExactDict:=by
    rcases hk with⟨Wg,hk⟩|⟨Wg,hk⟩
    .obtain⟨_,_,_,_,o,_,_,e,ex,_⟩:=I.Wk p _ hk;exact⟨o,e,ex⟩
    .obtain⟨_,_,_,_,o,_,_,e,ex,_⟩:=I.Wk p _ hk;exact⟨o,e,ex⟩
   obtain⟨o,e,ex⟩:=z;refine⟨⟨o,e,ex.1⟩,λa e2=>?_⟩;cases e2;exact⟨o,e,ex.2.1⟩
  .obtain⟨o,_,_,_,e,ex,_⟩:=I.Wk p _ hk;refine⟨⟨o,e,ex.1⟩,λa e2=>?_⟩;cases e2;exact⟨o,e,ex.2.1⟩
 |_=>exact False.elim ty
def JR(K:Rv)(T:String)(r:V->Ql V->Hp->VK->Prop)(to:TE)(t:TA):TE:=λσ H Q=>to σ H λx H1=>Ca K T x H1/\t σ H1 λxs H2=>r x xs H2 Q
variable {o e:ZG}{es:Ql ZG}{to:TE}{t:TA}{id:String}{r:V->Ql V->Hp->VK->Prop}
def ue(pa:PlainAttrs T)(slot:Slot T name id)(hty:typeOf (.builtin id)=pure (.type "method_descriptor"))(hm:Rk X id r)(ho:PE X o to)(ha:PA X (e::es) t) (zaq:attributeBase o name X.env (eval o X.env)=eval o X.env:=by rfl) (zao:((TV W5 (RM (e::es) X.env)).all (λx=>!x.1)&&(backToKw W5 (keywordEach [] X.env)).all (λx=>x.1.isSome)
   && decide ((e::es).length+([]:Ql Vz).length+(if([]:Ql Vz).isEmpty then 0 else 1)<30))=Qt:=by rfl) (zam:(apos.endLine==W5.line)=Qt:=by rfl) (hs:RM (e::es) X.env=(Qf,eval e X.env)::RM es X.env:=by rfl) (zaJ:(TV W5 (RM es X.env)).any (·.1)=Qf:=by rfl):PE X (.Call (.Attribute o name apos) (e::es) [] W5) (JR X.K T r to t):=by intro pins s σ H Q I h;refine wpAny_Call_method_late zaq zao zam rfl (aF (ho _ s σ H _ I h) λv s1 ⟨x,H1,I1,r1,ty,q1⟩=>?_);obtain⟨h1,h2⟩:=IT I1 r1 ty;refine⟨T,id,pa,slot,hty,h1,h2,?_⟩;have hA:=ha W5 _ _ σ _ _ I1 q1;rw[hs]at hA ⊢;refine Calls.callWith_builtin (‹_›) (Calls.evalArgs_plain ?_);exact aF hA λus s2 ⟨vs,H2,I2,r2,q2⟩=>hm _ _ σ _ x _ v _ Q I2 r1 r2 q2
end
def Rl(X:Cx)(id:String)(r:V->Ql V->Hp->VK->Prop):Prop:=∀(pins:Ql (ZE×Obj)) (s:R7) (σ:St) (H:Hp) (x:V) (xs:Ql V) (v:R8) (us:Ql R8) (Q:VK),Inv X pins σ H s->RelV x v->Vals xs us->r x xs H Q->wpAny (model X.prog X.w) X.A (call (.builtin id) (v::us)) (EP X pins σ Q) X.xe s
def Vals.one:∀{x:V}{us:Ql R8},Vals [x] us->∃u,us=[u]/\RelV x u
 |_,_,.cons r .nil=>⟨_,rfl,r⟩
def Vals.two:∀{x y:V}{us:Ql R8},Vals [x,y] us->∃u v,us=[u,v]/\RelV x u/\RelV y v
 |_,_,_,.cons r (.cons q .nil)=>⟨_,_,rfl,r,q⟩
theorem Vals.reverse(h:Vals xs us):Vals xs.reverse us.reverse:=by
 induction h with
 |nil=>exact .nil
 |cons r t ih=>rw[Uq,Uq];exact Vals.append ih (.cons r .nil)
theorem Vals.rep(h:Vals xs us):∀k:Nat,Vals (RT k xs).flatten (RT k us).flatten
 |0=>.nil
 |k+1=>by exact Vals.append h (Vals.rep h k)
theorem GR(VU:Ql R8):∀(k:Nat) (acc:Ql R8),Yo (λx1 x2=>x1++x2) acc.toArray (RT k VU.toArray)=(acc++(RT k VU).flatten).toArray
 |0,acc=>by simp
 |k+1,acc=>by
  have e:acc.toArray++VU.toArray=(acc++VU).toArray:=by simp
  have e2:(acc++VU)++(RT k VU).flatten=acc++(RT (k+1) VU).flatten:=by rw[UL,List.flatten_cons,SI]
  rw[<-e2,<-GR _ k _,<-e,UL,UQ]
section
variable {X:Cx}{pins:Ql (ZE×Obj)}{σ:St}{s:R7}{l b:ZE}{xs ys zs:Ql V}
def Inv.ziX{VU XF:Ql R8}(I:Inv X pins σ H s)(hH:H l=Qs (.lst xs))
  (e:s.heap.get? l=Qs { cls:=.type "list",data:=.seq VU.toArray n }) (hf:f VU.toArray=XF.toArray) (hv:Vals ys XF) (hz:ys.length<=Sf) :Inv X pins σ (upd H l (.lst ys)) { s with heap:=s.heap.update l (Obj.mapSeq f),toks:=t' }:=by have q:=PySem.IsL.update e f;rw[hf]at q;refine I.write (by rw[hH];exact trivial) (.inl rfl) (λb' u hb hu=>(S9 _ _ (Ne.symm hb)).trans hu) ⟨_,q⟩ ?_;exact⟨hz,XF,_,hv,q⟩
def Inv.zd7(I:Inv X pins σ H s)(hv:Vals ys VU)(hz:ys.length<=Sf) :Inv X pins σ (upd H s.heap.objs.size (.lst ys)) { s with heap:=s.heap.push { cls:=.type "list",data:=.seq VU.toArray },toks:=t' } :=I.laid (λ_ _ q=>RC _ q) (RL _) ⟨hz,VU,0,hv,RV _ rfl⟩
theorem Inv.fresh(I:Inv X pins σ H s):H s.heap.objs.size=Qn:=I.Wk.fresh (RL _)
def Inv.zf4(I:Inv X pins σ H s)(hH:H l=Qs (.lst xs)):xs.length<=Sf/\∃(VU:Ql R8) (n:Nat),Vals xs VU/\xs.length=VU.length/\s.heap.get? l=Qs {cls:=.type "list",data:=.seq VU.toArray n}:=by obtain⟨z,VU,n,r,e⟩:=I.Wk l _ hH;exact⟨z,VU,n,r,r.length,e⟩
def NG(h:n<=Sf):Builtin.List.listTooLong n=Qf:=by exact Xt (by lia)
end
section
variable {X:Cx}
def KQ:V->Ql V->Hp->VK->Prop:=λx vs H Q=>∃l xs y,x=.ref l/\vs=[y]/\H l=Qs (.lst xs)/\xs.length<Sf/\Q .Wj (upd H l (.lst (xs++[y])))
def pX:Rl X "list.append" KQ:=by intro pins s σ H x vs v us Q I rx rv h;obtain⟨l,xs,y,rfl,rfl,hH,hz,q⟩:=h;cases rx;obtain⟨u,rfl,ru⟩:=rv.one;obtain⟨z,VU,n,r,hl,e⟩:=I.zf4 hH;refine call_meets Ti ⟨_,e,rfl⟩ PySem.F.entry_list_append (PySem.F.args_list_append_2 _ _) (PySem.list_append l _ n u (by rw[R9];lia)) ⟨e,?_⟩;refine⟨.Wj,_,I.ziX hH e (by simp) (r.append (.cons ru .nil)) ?_,rfl,q⟩;rw[SD,Tf];assumption
def KN:R2:=λx y H Q=>∃l k xs,x=.ref l/\y=.int k/\H l=Qs (.lst xs)/\-(2^63)<=k/\k<2^63/\xs.length*k.toNat<=Sf/\∀p,H p=Qn->Q (.ref p) (upd H p (.lst (RT k.toNat xs).flatten))
def Og{α:Type}(xs:Ql α)(k:Nat):(RT k xs).flatten.length=k*xs.length:=by simp
def Ms:e8 X (binaryOp .Mult) KN:=by
 intro pins s σ H x y v u Q I rx ry h;obtain⟨l,k,xs,rfl,rfl,hH,h1,h2,hz,q⟩:=h;cases rx;obtain⟨t,rfl⟩:=ry;obtain⟨z,VU,n,r,hl,e⟩:=I.zf4 hH;have hlen:VU.toArray.size*k.toNat<=Sf:=by rw[R9,<-hl];assumption
 have zju:Yo (λx1 x2=>x1++x2) #[] (RT (if VU.toArray.isEmpty=Qt then 0 else k.toNat) VU.toArray)=(RT k.toNat VU).flatten.toArray:=by
  have f0:=λm=>by have:=GR VU m [];assumption
  rw[f0];cases VU with
  |nil=>simp
  |cons a r'=>rfl
 refine wpAny_binaryOp_repeat_ref (rfl) ⟨_,e,rfl⟩ (λs'=>typeIs_int _ k t) noFill_list_mul PySem.F.fills_int_mul Vp repeat_list PySem.F.slot_int_index.lookup (call_meets Vp (typeIs_int s k t) PySem.F.entry_int_rmul (PySem.F.args_int_rmul_2 _ _) (int___rmul___int_list k t l _ n)
   ⟨e,rfl,⟨_,e,rfl⟩,call_meets PySem.F.slot_list_mul ⟨_,e,rfl⟩ PySem.F.entry_list_mul (PySem.F.args_list_mul_2 _ _) (AutoListH.list___mul___list_int_3 l _ n k t (by
  rw[fitsIndex_both h1 h2];lia) (by
  have:Sf<=(2^63-1)/8:=by decide
  lia) (by
  rw[NG hlen];simp)) ⟨e,?_⟩⟩)
 rw[zju];exact⟨.ref _,_,I.zd7 (r.rep _) (by rw[Og,U3];assumption),rfl,q _ I.fresh⟩
end
end L2
namespace Att
open PySem.W PySem.Calls
theorem O1:∀(ns:Ql Int) (vs:Ql R8),WellAll P h vs (ns.map WData.int)->IntsAre vs ns:=by
 intro ns
 induction ns with
 |nil=>intro vs w;cases w;exact .nil
 |cons n ns ih=>
  intro vs w;cases w with
  |cons a b=>cases a;exact .cons _ _ (ih _ b)
theorem zh9{l:OpenLaw}(hn:l.most=Qs n) (zdk:l.row.toRowW.claim.pre args=Qt) (hwl:WellAll P h vals args):∃a vs ns,vals=[SA a]/\args=[WData.list (ns.map WData.int)]/\h.get? a=Qs {cls:=.type "list",data:=.seq vs.toArray}/\IntsAre vs ns/\ns.length<=n:=by
 have hc:=(pre_splitW zdk).2;obtain⟨d,r,rfl,h1,h2⟩:=hasAllW_cons ((pre_splitW zdk).1);obtain rfl:=hasAllW_nil h2;obtain⟨xs,rfl,h3⟩:=hasW_list h1;obtain⟨ns,rfl⟩:=items_int h3;cases hwl with
 |cons w1 w2=>
  cases w2;cases w1 with
  |list ho zbL=>exact⟨_,_,ns,rfl,rfl,ho,O1 _ _ zbL,(by
  have h5:=condW_of (by
   have h4:=(holds_andW hc).1;rw[hn]at h4;assumption) (w_not (w_lt w_lit (w_len_list (w_arg rfl))))
  simp_all)⟩
theorem ziv(l:OpenLaw)(args:Ql WData):l.row.toRowW.claim.post args (.bool Qt) args=Qt:=postW_of (show WShape.has _ _ _=Qt by rfl) ((w_eq_bool (w_res rfl) w_lit)) rfl
end Att
namespace L2
open PySem.Spec
theorem wC:∀{vs:Ql R8}{ns:Ql Int},IntsAre vs ns->Vals (ns.map V.int) vs
 |_,_,.nil=>.nil
 |_,_,.cons n t h=>.cons ⟨t,rfl⟩ (wC h)
def gK(s:ZH):Arguments:=match s with
 |.FunctionDef _ a _ _ _ _ _ _ _ _=>a
 |_=>{posonlyargs:=[],args:=[],vararg:=Qn,kwonlyargs:=[],kw_defaults:=[],kwarg:=Qn,defaults:=[]}
def eE(s:ZH):Ql ZH:=match s with
 |.FunctionDef _ _ b _ _ _ _ _ _ _=>b
 |_=>[]
def aN(s:ZH):XW:=match s with
 |.FunctionDef _ _ _ _ _ _ sc _ _ _=>sc
 |_=>{kind:=.function,names:=[],isGenerator:=Qf,isCoroutine:=Qf}
abbrev dk:nj:=λ_ _ _ _ _ _=>False
abbrev E0:XK:=λ_ _ _=>False
def mi:m4 dk X E0:=λ_ _ _ _ _ _ _ h=>h.elim
structure Wy(K:Rv)(x qual:Str)(st:ZH)(f:ZE)(fd:Ud):Prop where
 ex:∃(oc:R8) (od:Option ZE) (kV doc pm:R8) (an:Option ZE) (Wu ct:R8) (osl:Array (Option R8)),fd=SV x qual (gK st) (eE st) (aN st) .none kV doc pm an Wu ct/\K.lookup f=Qs ⟨oc,od,.func fd,osl⟩/\Uw K Wu qual=Qt
 kp:S0 K (.ref f)=Qt
section
variable {P:Te}{w:UX}{mg:Str->Qo R8}{base:Yp}
def Wy.ok{st:ZH}(F:Wy K x qual st f fd)(S:WJ N ps (aN st))(len:∀vs H Q E,sp vs H Q E->vs.length=ps.length) (ZM:∀(Wu:R8) (A:Ua) (outer:Ql Env) (s:R7) (H:Hp) (vs:Ql V) (Q:VK) (E:XK),Xa k (A.deeper (envOfC qual (aN st) s.heap.objs.size f Wu))->sp vs H Q E->∃t,WH (iT dk P w K mg base N qual (aN st) f Wu A outer s H E).ZI (eE st) t/\t {nx:=λ_ H'=>Q .Wj H',rt:=Q} (start N vs) H):XC P w K mg base dk (k+1) f fd ps sp:=by obtain⟨oc,od,kV,doc,pm,an,Wu,ct,osl,rfl,lk,W3⟩:=F.ex;refine PY lk W3 S len λA outer s H vs Q E hr hsp=>?_;obtain⟨t,h,q⟩:=ZM _ A outer s H _ Q E hr hsp;exact⟨t,h.ZI,q⟩
def Wy.binds{st:ZH}(F:Wy K x qual st f fd) (h:∀(kV doc pm:R8) (an:Qo ZE) (Wu ct:R8) (us:Ql R8),us.length=ps.length->bindArgs (SV x qual (gK st) (eE st) (aN st) .none kV doc pm an Wu ct) ⟨us,[]⟩=pure (ps.zip us)):Binds K fd ps []:=by obtain⟨oc,od,kV,doc,pm,an,Wu,ct,osl,rfl,lk,W3⟩:=F.ex;exact .all (h _ _ _ _ _ _)
def GJ{st:ZH}{kV doc pm Wu ct:R8}(l:K.lookup f=Qs ⟨oc,od,.func (SV x qual (gK st) (eE st) (aN st) .none kV doc pm an Wu ct),osl⟩) (c:Uw K Wu qual=Qt) (k:S0 K (.ref f)=Qt):Wy K x qual st f (SV x qual (gK st) (eE st) (aN st) .none kV doc pm an Wu ct):=⟨⟨oc,od,kV,doc,pm,an,Wu,ct,osl,rfl,l,c⟩,k⟩
end
def mF{A B:Prop}(h:B):if Qf=Qt then A else B:=‹_›
def mE{A B:Prop}(h:A):if Qt=Qt then A else B:=‹_›
def VJ(H H':Hp):Prop:=∀b o,H b=Qs o->H' b=Qs o
def VJ.refl(H:Hp):VJ H H:=λ_ _ h=>h
def VJ.trans(a:VJ H H1)(b:VJ H1 H2):VJ H H2:=λc o h=>b c o (a c o h)
def VJ.free(e:VJ H H')(h:H' l=XA):H l=XA:=by
 cases q:H l with
 |none=>rfl
 |some o=>rw[e l o q]at h;assumption
def VJ.seq (e:VJ H H')(h:V5 K H a xs):V5 K H' a xs:=by
 rcases h with(h|⟨o,h⟩)|h
 .exact .inl (.inl (e _ _ h))
 .exact .inl (.inr ⟨o,e _ _ h⟩)
 .exact .inr h
end L2
set_option maxHeartbeats 4000000
namespace L2
open PySem.Spec
section
variable {κ:Type}[DecidableEq κ]
def ie(Wg:Ql (κ×V))(k:κ):Qo V:=(Wg.find? λkv=>decide (kv.1=k)).map (·.2)
def fY(Wg:Ql (κ×V))(k:κ)(v:V):Ql (κ×V):=if(Wg.any λkv=>decide (kv.1=k))=Qt then Wg.map (λkv=>if kv.1=k then(kv.1,v) else kv) else Wg++[(k,v)]
def pw{k:κ}(e:p.1=k):ie (p::r) k=Qs p.2:=by simp[ie,TL,e]
def pB{k:κ}(e:¬p.1=k):ie (p::r) k=ie r k:=by simp[ie,TL,e]
theorem sO(k:κ):∀Wg:Ql (κ×V),(Wg.any λkv=>decide (kv.1=k))=(ie Wg k).isSome
 |[]=>rfl
 |p::r=>by
  rw[T6];by_cases e:p.1=k
  .simp only[pw e,Ww e,UB,VF]
  .rw[pB e,Xt e];exact sO k r
def zo(Wg:Ql (κ×V))(k:κ)(v:V):(fY Wg k v).length<=Wg.length+1:=by
 unfold fY;split
 .simp
 .simp
def Zf.zea(r:Zf o u):o.isSome=u.isSome:=by
 cases o with
 |none=>cases u with
  |none=>rfl
  |some _=>exact(r).elim
 |some _=>cases u with
  |none=>exact(r).elim
  |some _=>rfl
def KV.val(r:KV Wg vs)(k:κ):Zf (ie Wg k) (valueAt vs k):=by
 induction r with
 |nil=>exact True.intro
 |@cons p q ps qs h t ih=>
  obtain⟨h1,h2⟩:=h;by_cases e:p.1=k
  .have b:valueAt (q::qs) k=Qs q.2:=by simp[valueAt,TL,(h1.symm.trans e)]
   rw[pw e,b];assumption
  .have e':¬q.1=k:=λz=>e (h1.trans z);have b:valueAt (q::qs) k=valueAt qs k:=by simp[valueAt,TL,e']
   rw[pB e,b];assumption
theorem KV.any(r:KV Wg vs)(k:κ):(Wg.any λkv=>decide (kv.1=k))=vs.any λkv=>decide (kv.1=k):=by
 induction r with
 |nil=>rfl
 |cons h t ih=>rw[T6,T6,ih,h.1]
def KV.zdW(r:KV Wg vs)(k:κ)(ry:RelV y u):KV (Wg.map λkv=>if kv.1=k then(kv.1,y) else kv) (vs.map λkv=>if kv.1=k then(kv.1,u) else kv):=by
 induction r with
 |nil=>exact .nil
 |@cons p q ps qs h t ih=>refine .cons ?_ ih;lia
def KV.put(r:KV Wg vs)(k:κ)(ry:RelV y u):KV (fY Wg k y) (stored vs k u):=by
 unfold fY stored;rw[r.any k];by_cases e:(vs.any λkv=>decide (kv.1=k))=Qt
 .rw[V4 e,V4 e];exact r.zdW k ry
 .rw[Wh e,Wh e];exact Paired.snoc r ⟨rfl,ry⟩
theorem KV.length{vs:Ql (κ×R8)}(r:KV Wg vs):Wg.length=vs.length:=Paired.length r
end
def uK(r:RelV (kV k) u):(gJ P w).is k u=Qt:=by
 cases k with
 |inl i=>obtain⟨t,e⟩:=(r);subst e;exact NW P w i t
 |inr x=>obtain⟨t,e⟩:=(r);subst e;exact NU P w x t
theorem FG:∀{ks:Ql bQ}{us:Ql R8},Vals (ks.map kV) us->ItemsAre (gJ P w) ks us
 |[],_,r=>by cases r;exact .nil
 |k::ks,_,r=>by
  cases r with
  |cons h t=>exact .cons (uK h) (FG t)
abbrev KT(H:Hp):Ql (Ql bQ×V)->Ql (Ql bQ×ZE×R8)->Prop:=Paired λp q=>p.1=q.1/\H q.2.1=Qs (.tup (p.1.map kV))/\RelV p.2 q.2.2
def KT.val(r:KT H Wg xs)(k:Ql bQ):Zf (ie Wg k) ((atKey xs k).map (·.2)):=by
 induction r with
 |nil=>exact True.intro
 |@cons p q ps qs h t ih=>
  obtain⟨h1,_,h2⟩:=h;by_cases e:p.1=k
  .have b:atKey (q::qs) k=Qs q.2:=by simp[atKey,TL,(h1.symm.trans e)]
   rw[pw e,b];assumption
  .have e':¬q.1=k:=λz=>e (h1.trans z);have b:atKey (q::qs) k=atKey qs k:=by simp[atKey,TL,e']
   rw[pB e,b];assumption
def KT.zdW(r:KT H Wg xs)(k:Ql bQ)(ry:RelV y u):KT H (Wg.map λkv=>if kv.1=k then(kv.1,y) else kv) (xs.map (putAt k u)):=by
 induction r with
 |nil=>exact .nil
 |@cons p q ps qs h t ih=>
  refine .cons ?_ ih;unfold putAt;by_cases e:p.1=k
  .simp_all
  .simp_all
def KT.put(r:KT H Wg xs)(k:Ql bQ)(hb:H b=Qs (.tup (k.map kV)))(ry:RelV y u):KT H (fY Wg k y) (storedH xs k b u):=by
 have e:(Wg.any λkv=>decide (kv.1=k))=(atKey xs k).isSome:=by rw[sO,(r.val k).zea,VM]
 unfold fY storedH;rw[e];by_cases q:(atKey xs k).isSome=Qt
 .rw[V4 q,V4 q];exact r.zdW k ry
 .rw[Wh q,Wh q];exact Paired.snoc r ⟨rfl,hb,ry⟩
def KT.keeps(r:KT H Wg xs)(ht:∀b ys,H b=Qs (.tup ys)->H' b=Qs (.tup ys)):KT H' Wg xs:=Paired.zd6 r λ_ _ z=>⟨z.1,ht _ _ z.2.1,z.2.2⟩
section
variable {P:Te}{w:UX}{h:ZF}{a:ZE}
def C4(ok:XE P w H h)(e:Rd H a u):Yc P w H h a u:=e.ok ok
def Ay(ok:XE P w H h)(e:Rd H a (.dK Wg)):Wg.length<=Sf/\(a==sysModules)=Qf/\∃vs,KV Wg vs/\h.DictOf (gJ P w) a vs:=(C4 ok e)
def G5(ok:XE P w H h)(e:H a=Qs (.dK Wg)):Wg.length<=Sf/\(a==sysModules)=Qf/\∃vs,KV Wg vs/\h.DictOf (gJ P w) a vs:=Ay ok (.inl e)
def zB(ok:XE P w H h)(e:H a=Qs (.tup (ks.map kV))):(tupleKind (gJ P w)).is h ks a:=by obtain⟨_,VU,r,o,h1,h2,n,h3⟩:=((ok a _ e));exact⟨o,_,n,h1,h2,h3,(FG r)⟩
def G2(ok:XE P w H h)(e:Rd H a (.dT Wg)):Wg.length<=Sf/\(a==sysModules)=Qf/\∃xs,KT H Wg xs/\h.DictOfH (tupleKind (gJ P w)) a xs:=by
 obtain⟨z,y,xs,r,o,es,ep,h1,h2,h3,h4,h5⟩:=((C4 ok e));refine⟨z,y,xs,r,o,es,ep,h1,h2,h3,h4,λx hx=>?_,h5⟩;have all:∀{l:Ql _}{m:Ql _},KT H l m->∀x∈m,(tupleKind (gJ P w)).is h x.1 x.2.1:=by
  intro l m q
  induction q with
  |nil=>simp
  |@cons p q ps qs hq t ih=>
   intro x hx;rcases RB.mp hx with e|hx
   .subst e;exact zB ok (by lia)
   .exact ih x hx
 exact all r x hx
def Qh(ok:XE P w H h)(e:H a=Qs (.dT Wg)):Wg.length<=Sf/\(a==sysModules)=Qf/\∃xs,KT H Wg xs/\h.DictOfH (tupleKind (gJ P w)) a xs:=G2 ok (.inl e)
end
def zdA(H:Hp)(a:ZE)(y:V)(r:Qo V):Prop:=(∃Wg k,Rd H a (.dK Wg)/\y=kV k/\r=ie Wg k)\/∃Wg k b,Rd H a (.dT Wg)/\y=.ref b/\H b=Qs (.tup (k.map kV))/\r=ie Wg k
def zcN(H:Hp)(a:ZE)(y v:V)(H':Hp):Prop:=(∃Wg k,H a=Qs (.dK Wg)/\y=kV k/\Wg.length<Sf/\H'=upd H a (.dK (fY Wg k v))) \/
 ∃Wg k b,H a=Qs (.dT Wg)/\y=.ref b/\H b=Qs (.tup (k.map kV))/\Wg.length<Sf/\H'=upd H a (.dT (fY Wg k v))
theorem zdA.k{k:bQ}(e:H a=Qs (.dK Wg)):zdA H a (kV k) (ie Wg k):=.inl ⟨Wg,k,.inl e,rfl,rfl⟩
theorem zcN.k{k:bQ}(e:H a=Qs (.dK Wg))(hl:Wg.length<Sf):zcN H a (kV k) v (upd H a (.dK (fY Wg k v))):=.inl ⟨Wg,k,e,rfl,hl,rfl⟩
section
variable {X:Cx}{pins:Ql (ZE×Obj)}{σ:St}{s:R7}{a:ZE}{y v:V}{u r:R8}{o:Qo V}{A:Ua}{E:R8->R7->Prop}
def Inv.big(I:Inv X pins σ H s):sysModules<s.heap.objs.size:=by exact U4 (by decide) ((I.mod.glob.keeps I.bk).lt)
def Hh(hu:A.units+1<cLine)(I:Inv X pins σ H s)(g:zdA H a y o)(ry:RelV y u)(h:∀s',Inv X pins σ H s'->Q (.bool o.isSome) s'):wpAny (model X.prog X.w) A (compareOp .In u (.ref a)) Q E s:=by
 rcases g with⟨Wg,k,e,ey,l⟩|⟨Wg,k,b,e,ey,eb,l⟩
 .subst ey;obtain⟨z,hd,vs,rel,dd⟩:=Ay I.Wk e;refine wpAny_in_of (uK ry) hd dd.mapOf ?_;rw[<-(rel.val k).zea,<-l];exact h _ (I.tok _)
 .subst ey;cases(ry);obtain⟨z,hd,xs,rel,dd⟩:=G2 I.Wk e;refine wpAny_in_heap (tupleKind_room_in1 hu) (zB I.Wk eb) hd dd ?_;have q:=(rel.val k).zea;rw[VM]at q;rw[<-q,<-l];exact h _ (I.tok _)
def Az(I:Inv X pins σ H s)(mu:sy (H a))(hs:Heap.SameBut a s.heap h')(he:∃q,h'.get? a=Qs q)(new:Yc X.prog X.w (upd H a ob) h' a ob) :Inv X pins σ (upd H a ob) { s with heap:=h',toks:=t' } :=I.write mu (.inl rfl) (λb q hb z=>(hs.2 b hb).trans z) he new
def G6(z:Wg.length<=Sf)(hd:(a==sysModules)=Qf)(rel:KV Wg vs)(dd:h'.DictOf (gJ P w) a vs):Yc P w H' h' a (.dK Wg):=⟨z,hd,vs,rel,dd⟩
def Qj(hu:A.units+1<cLine)(I:Inv X pins σ H s)(g:zcN H a y v H')(ry:RelV y u)(rv:RelV v r)(h:∀s',Inv X pins σ H' s'->Q () s'):wpAny (model X.prog X.w) A (setItem (.ref a) u r) Q E s:=by
 rcases g with⟨Wg,k,e,ey,l,eH⟩|⟨Wg,k,b,e,ey,eb,l,eH⟩
 .subst ey eH;obtain⟨z,hd,vs,rel,dd⟩:=G5 I.Wk e;refine wpAny_setItem_pairs (hsz:=(by rw[<-rel.length];assumption)) (uK ry) dd λh' dd' hs=>h _ ?_;exact Az I (by rw[e];exact True.intro) hs (let ⟨q,_,_,hq,_⟩:=dd';⟨q,hq⟩) (G6 (by have:=zo Wg k v;lia) hd (rel.put k rv) dd')
 .subst ey eH;cases(ry);obtain⟨z,hd,xs,rel,dd⟩:=Qh I.Wk e;refine wpAny_setItem_heap (hsz:=(by rw[<-Paired.length rel];assumption)) (tupleKind_room_in1 hu) (zB I.Wk eb) dd λh' dd' hs=>h _ ?_;obtain⟨q,es,ep,hq,h2,h3,h4,_,h5⟩:=dd';refine Az I (by rw[e];exact True.intro) hs ⟨q,hq⟩ ⟨(by have:=zo Wg k v;lia),hd,_,(rel.put k eb rv).keeps λc ys ec=>?_,q,es,ep,hq,h2,h3,h4,h5⟩;rw[aY (uq ec e (λz=>nomatch z))];assumption
end
def G7(h:ZF)(hb:sysModules<h.objs.size):Yc P w H (h.push {cls:=.type "dict",data:=.dict #[]}) h.objs.size (.dK []):=⟨Ui _,beq_eq_false_iff_ne.mpr (Ne.symm (So hb)),[],.nil,Heap.DictOf.new h⟩
def JN:TE:=λ_ H Q=>∀p,H p=Qn->Q (.ref p) (upd H p (.dK []))
section
variable {X:Cx}
def Mh:PE X (.Dict [] [] pos) JN:=λpins s σ H Q I h=>
 wpAny_Dict_empty ⟨.ref _,_,I.laid (λ_ _ q=>RC _ q) (RL _) (G7 _ I.big),rfl,h _ (I.Wk.fresh (RL _))⟩
end
end L2
namespace DL
open PySem.Spec L2
def aA{α β:Type}{x:Qo α}{f:α->Qo β}{r:β}{G:Prop}(e:x.bind f=Qs r)(h:∀a,x=Qs a->f a=Qs r->G):G:=by
 cases x with
 |none=>cases e
 |some a=>exact h a rfl e
def cH[Decidable c]{β:Type}{x:Qo β}{r:β}{G:Prop}(e:(if c then x else Qn)=Qs r)(h:c->x=Qs r->G):G:=by lia
inductive D where
 |Wj|bl (b:Bool)|int (i:Int)|str (x:Str)|tup (xs:List D)|lst (xs:List D)|WR (ks:List bQ) (ds:List D)|Xy (ps:List (List Int×Int))|Ym (ps:List (List Int×Int))|adr (p:ZE)|obj (C:ZE) (ns:List Str) (ds:List D)|WB (ks:List Int)
def df(ks:Ql bQ)(vs:Ql V):Ql (bQ×V):=ks.zip vs
def yE(ps:Ql (Ql Int×Int)):Ql (Ql bQ×V):=ps.map λq=>(q.1.map Sum.inl,V.int q.2)
def YW(ks:Ql Int):Ql (bQ×V):=ks.map λk=>(Sum.inl k,V.bl Qt)
mutual
inductive Rep(K:Rv)(H:Hp):D->V->Prop
 |Wj:Rep K H .Wj .Wj
 |bl (b:Bool):Rep K H (.bl b) (.bl b)
 |int (i:Int):Rep K H (.int i) (.int i)
 |str (x:Str):Rep K H (.str x) (.str x)
 |tup {ds:List D}{p:ZE}{vs:List V}:WG K H p vs->VQ K H ds vs->Rep K H (.tup ds) (.ref p)
 |lst {ds:List D}{p:ZE}{vs:List V}:V5 K H p vs->VQ K H ds vs->Rep K H (.lst ds) (.ref p)
 |WR {ks:List bQ}{ds:List D}{p:ZE}{vs:List V}:ks.length=vs.length->H p=Qs (.dK (df ks vs))->VQ K H ds vs->Rep K H (.WR ks ds) (.ref p)
 |Xy {ps:List (List Int×Int)}{p:ZE}:H p=Qs (.dT (yE ps))->Rep K H (.Xy ps) (.ref p)
 |Ym {ps:List (List Int×Int)}{p:ZE}{o:Obj}:H p=Qs (.XS o (.dT (yE ps)))->Rep K H (.Ym ps) (.ref p)
 |adr (p:ZE):Rep K H (.adr p) (.ref p)
 |WB {ks:List Int}{p:ZE}{o:Obj}:H p=Qs (.XS o (.dK (YW ks)))->Rep K H (.WB ks) (.ref p)
 |obj {C dx:ZE}{ns:List Str}{ds:List D}{p:ZE}{vs:List V}:ns.length=vs.length->H p=Qs (.ins C dx (ns.zip vs))->VQ K H ds vs->Rep K H (.obj C ns ds) (.ref p)
inductive VQ(K:Rv)(H:Hp):List D->List V->Prop
 |nil:VQ K H [] []
 |cons {d:D}{v:V}{ds:List D}{vs:List V}:Rep K H d v->VQ K H ds vs->VQ K H (d::ds) (v::vs)
end
def V5.mono (e:VJ H H')(h:V5 K H a xs):V5 K H' a xs:=e.seq h
def WG.mono (e:VJ H H')(h:WG K H a xs):WG K H' a xs:=by exact e _ _ h
mutual
theorem Rep.mono{K:Rv}{H H':Hp}(e:VJ H H'):∀{d:D}{v:V},Rep K H d v->Rep K H' d v
 |_,_,.Wj=>.Wj
 |_,_,.bl b=>.bl b
 |_,_,.int i=>.int i
 |_,_,.str x=>.str x
 |_,_,.tup h r=>.tup (WG.mono e h) (VQ.mono e r)
 |_,_,.lst h r=>.lst (V5.mono e h) (VQ.mono e r)
 |_,_,.WR l h r=>.WR l (e _ _ h) (VQ.mono e r)
 |_,_,.Xy h=>.Xy (e _ _ h)
 |_,_,.Ym h=>.Ym (e _ _ h)
 |_,_,.adr p=>.adr p
 |_,_,.WB h=>.WB (e _ _ h)
 |_,_,.obj l h r=>.obj l (e _ _ h) (VQ.mono e r)
theorem VQ.mono{K:Rv}{H H':Hp}(e:VJ H H'):∀{ds:List D}{vs:List V},VQ K H ds vs->VQ K H' ds vs
 |_,_,.nil=>.nil
 |_,_,.cons h r=>.cons (Rep.mono e h) (VQ.mono e r)
end
theorem VQ.length{K:Rv}:∀{ds:Ql D}{vs:Ql V},VQ K H ds vs->vs.length=ds.length
 |_,_,.nil=>rfl
 |_,_,.cons _ r=>by simp[VQ.length r]
theorem VQ.get{K:Rv}:∀{ds:Ql D}{vs:Ql V},VQ K H ds vs->∀{i:Nat}{d:D},ds[i]?=Qs d->∃v,vs[i]?=Qs v/\Rep K H d v
 |_,_,.nil,i,d,e=>by simp at e
 |_,_,.cons h r,0,d,e=>by simp_all
 |_,_,.cons h r,i+1,d,e=>by obtain⟨v,a,b⟩:=VQ.get r (e);exact⟨v,a,b⟩
theorem VQ.YM{K:Rv}:∀{ds:Ql D}{vs:Ql V},VQ K H ds vs->∀{i:Nat}{v:V},vs[i]?=Qs v->∃d,ds[i]?=Qs d/\Rep K H d v
 |_,_,.nil,i,d,e=>by simp at e
 |_,_,.cons h r,0,v,e=>by simp_all
 |_,_,.cons h r,i+1,v,e=>by obtain⟨d,a,b⟩:=VQ.YM r (e);exact⟨d,a,b⟩
theorem VQ.app{K:Rv}:∀{ds:Ql D}{vs:Ql V}{es:Ql D}{us:Ql V},VQ K H ds vs->VQ K H es us->VQ K H (ds++es) (vs++us)
 |_,_,_,_,.nil,r=>r
 |_,_,_,_,.cons h r,q=>.cons h (VQ.app r q)
theorem VQ.set{K:Rv}(h:Rep K H d v):∀{ds:Ql D}{vs:Ql V} (i:Nat),VQ K H ds vs->VQ K H (ds.set i d) (vs.set i v)
 |_,_,_,.nil=>.nil
 |_,_,0,.cons _ r=>.cons h r
 |_,_,i+1,.cons q r=>.cons q (VQ.set h i r)
def VQ.one (h:Rep K H d v):VQ K H [d] [v]:=.cons h .nil
theorem VQ.ints{K:Rv}:∀ns:Ql Int,VQ K H (ns.map D.int) (ns.map V.int)
 |[]=>.nil
 |n::ns=>.cons (.int n) (VQ.ints _)
mutual
noncomputable def flat:D->Bool
 |.lst _=>Qf
 |.WR _ _=>Qf
 |.Xy _=>Qf
 |.obj _ _ _=>Qf
 |.tup xs=>Wv xs
 |_=>Qt
noncomputable def Wv:List D->Bool
 |[]=>Qt
 |d::ds=>flat d&&Wv ds
end
def aj(P:Ql ZE)(H:Hp):Hp:=λa=>if a∈P then Qn else H a
def aR(P:Ql ZE)(H:Hp):VJ (aj P H) H:=λb o e=>by unfold aj at e;lia
def bH(h:H a=Qs o)(n:a∉P):aj P H a=Qs o:=by unfold aj;rw[Wh n];assumption
def cN(h:aj P H a=Qs o):a∉P/\H a=Qs o:=by unfold aj at h;lia
def Ph(H:Hp):aj [] H=H:=rfl
def bE(H:Hp)(h:∀a∈P',a∈P):VJ (aj P H) (aj P' H):=λb o e=>by obtain⟨n,e⟩:=cN e;exact bH e λz=>n (h b z)
def Et:HO->Bool
 |.lst _=>Qt
 |.dK _=>Qt
 |.dT _=>Qt
 |.ins _ _ _=>Qt
 |.own _=>Qt
 |_=>Qf
abbrev MO:={o:HO//Et o=Qt}
def mL(vs:Ql V):MO:=⟨.lst vs,rfl⟩
def mD(Wg:Ql (bQ×V)):MO:=⟨.dK Wg,rfl⟩
def mI(C dx:ZE)(fs:Ql (Str×V)):MO:=⟨.ins C dx fs,rfl⟩
def mT(Wg:Ql (Ql bQ×V)):MO:=⟨.dT Wg,rfl⟩
def WM(H:Hp)(P:Ql ZE):Prop:=∀p∈P,∃o:MO,H p=Qs o.1
def WM.mono(h:WM H P)(e:VJ H H'):WM H' P:=λp hp=>let ⟨vs,q⟩:=h p hp;⟨vs,e _ _ q⟩
def WG.W2 (m:WM H P)(h:WG K H a xs):WG K (aj P H) a xs:=by have h:H a=Qs _:=h;exact bH h λz=>by obtain⟨⟨vs,w⟩,q⟩:=m _ z;rw[q]at h;cases h;cases w
mutual
theorem Rep.W2{K:Rv}{H:Hp}{P:List ZE}(m:WM H P):∀{d:D}{v:V},flat d=Qt->Rep K H d v->Rep K (aj P H) d v
 |_,_,_,.Wj=>.Wj
 |_,_,_,.bl b=>.bl b
 |_,_,_,.int i=>.int i
 |_,_,_,.str x=>.str x
 |_,_,f,.tup h r=>.tup (WG.W2 m h) (VQ.W2 m (by assumption) r)
 |_,_,f,.lst h r=>by simp[flat]at f
 |_,_,f,.WR _ h r=>by simp[flat]at f
 |_,_,f,.Xy h=>by simp[flat]at f
 |_,_,f,.obj _ h r=>by simp[flat]at f
 |_,_,_,.adr p=>.adr p
 |_,_,_,.WB h=>.WB (bH h λz=>by obtain⟨⟨vs,w⟩,q⟩:=m _ z;rw[q]at h;cases h;cases w)
 |_,_,_,.Ym h=>.Ym (bH h λz=>by obtain⟨⟨vs,w⟩,q⟩:=m _ z;rw[q]at h;cases h;cases w)
theorem VQ.W2{K:Rv}{H:Hp}{P:List ZE}(m:WM H P):∀{ds:List D}{vs:List V},Wv ds=Qt->VQ K H ds vs->VQ K (aj P H) ds vs
 |_,_,_,.nil=>.nil
 |_,_,f,.cons h r=>by simp[Wv]at f;exact .cons (Rep.W2 m f.1 h) (VQ.W2 m f.2 r)
end
mutual
inductive Wn(K:Rv)(H0 H:Hp):D->V->List ZE->Prop
 |flat {d:D}{v:V}:flat d=Qt->Rep K H0 d v->Wn K H0 H d v []
 |tup {ds:List D}{p:ZE}{vs:List V}{B:List ZE}:WG K H0 p vs->Wf K H0 H ds vs B->Wn K H0 H (.tup ds) (.ref p) B
 |lst {ds:List D}{p:ZE}{vs:List V}{B:List ZE}:H p=Qs (.lst vs)->Wf K H0 H ds vs B->Wn K H0 H (.lst ds) (.ref p) (p::B)
 |WR {ks:List bQ}{ds:List D}{p:ZE}{vs:List V}{B:List ZE}:ks.length=vs.length->H p=Qs (.dK (df ks vs))->Wf K H0 H ds vs B->Wn K H0 H (.WR ks ds) (.ref p) (p::B)
 |Xy {ps:List (List Int×Int)}{p:ZE}:H p=Qs (.dT (yE ps))->Wn K H0 H (.Xy ps) (.ref p) [p]
 |obj {C dx:ZE}{ns:List Str}{ds:List D}{p:ZE}{vs:List V}{B:List ZE}:ns.length=vs.length->H p=Qs (.ins C dx (ns.zip vs))->Wf K H0 H ds vs B->Wn K H0 H (.obj C ns ds) (.ref p) (p::B)
inductive Wf(K:Rv)(H0 H:Hp):List D->List V->List ZE->Prop
 |nil:Wf K H0 H [] [] []
 |cons {d:D}{v:V}{ds:List D}{vs:List V}{B C:List ZE}:Wn K H0 H d v B->Wf K H0 H ds vs C->Wf K H0 H (d::ds) (v::vs) (B++C)
end
mutual
theorem Wn.mono{K:Rv}{H0 H Xe H':Hp}(e:VJ H0 Xe):∀{d:D}{v:V}{B:List ZE},Wn K H0 H d v B->(∀p∈B,∀o,H p=Qs o->H' p=Qs o)->Wn K Xe H' d v B
 |_,_,_,.flat f r,_=>.flat f (Rep.mono e r)
 |_,_,_,.tup h r,k=>.tup (WG.mono e h) (Wf.mono e r k)
 |_,_,_,.lst h r,k=>.lst (k _ (Rz ..) _ h) (Wf.mono e r λp hp=>k p (Rx _ hp))
 |_,_,_,.WR l h r,k=>.WR l (k _ (Rz ..) _ h) (Wf.mono e r λp hp=>k p (Rx _ hp))
 |_,_,_,.obj l h r,k=>.obj l (k _ (Rz ..) _ h) (Wf.mono e r λp hp=>k p (Rx _ hp))
 |_,_,_,.Xy h,k=>.Xy (k _ (Rz ..) _ h)
theorem Wf.mono{K:Rv}{H0 H Xe H':Hp}(e:VJ H0 Xe):∀{ds:List D}{vs:List V}{B:List ZE},Wf K H0 H ds vs B->(∀p∈B,∀o,H p=Qs o->H' p=Qs o)->Wf K Xe H' ds vs B
 |_,_,_,.nil,_=>.nil
 |_,_,_,.cons h r,k=>.cons (Wn.mono e h λp hp=>k p (Rw _ hp)) (Wf.mono e r λp hp=>k p (Ru _ hp))
end
mutual
theorem Wn.rep{K:Rv}{H0 H H1:Hp}(e:VJ H0 H1):∀{d:D}{v:V}{B:List ZE},Wn K H0 H d v B->(∀p∈B,∀o,H p=Qs o->H1 p=Qs o)->Rep K H1 d v
 |_,_,_,.flat f r,_=>Rep.mono e r
 |_,_,_,.tup h r,k=>.tup (WG.mono e h) (Wf.rep e r k)
 |_,_,_,.lst h r,k=>.lst (V5.of (k _ (Rz ..) _ h)) (Wf.rep e r λp hp=>k p (Rx _ hp))
 |_,_,_,.WR l h r,k=>.WR l (k _ (Rz ..) _ h) (Wf.rep e r λp hp=>k p (Rx _ hp))
 |_,_,_,.obj l h r,k=>.obj l (k _ (Rz ..) _ h) (Wf.rep e r λp hp=>k p (Rx _ hp))
 |_,_,_,.Xy h,k=>.Xy (k _ (Rz ..) _ h)
theorem Wf.rep{K:Rv}{H0 H H1:Hp}(e:VJ H0 H1):∀{ds:List D}{vs:List V}{B:List ZE},Wf K H0 H ds vs B->(∀p∈B,∀o,H p=Qs o->H1 p=Qs o)->VQ K H1 ds vs
 |_,_,_,.nil,_=>.nil
 |_,_,_,.cons h r,k=>.cons (Wn.rep e h λp hp=>k p (Rw _ hp)) (Wf.rep e r λp hp=>k p (Ru _ hp))
end
mutual
theorem Wn.lists{K:Rv}{H0 H:Hp}:∀{d:D}{v:V}{B:List ZE},Wn K H0 H d v B->WM H B
 |_,_,_,.flat f r=>λp hp=>by cases hp
 |_,_,_,.tup h r=>Wf.lists r
 |_,_,_,.lst h r=>λp hp=>by
  rcases RB.mp hp with rfl|hp
  .exact⟨mL _,h⟩
  .exact Wf.lists r p hp
 |_,_,_,.obj _ h r=>λp hp=>by
  rcases RB.mp hp with rfl|hp
  .exact⟨mI _ _ _,h⟩
  .exact Wf.lists r p hp
 |_,_,_,.WR _ h r=>λp hp=>by
  rcases RB.mp hp with rfl|hp
  .exact⟨mD _,h⟩
  .exact Wf.lists r p hp
 |_,_,_,.Xy h=>λp hp=>by rw[RG]at hp;subst hp;exact⟨mT _,h⟩
theorem Wf.lists{K:Rv}{H0 H:Hp}:∀{ds:List D}{vs:List V}{B:List ZE},Wf K H0 H ds vs B->WM H B
 |_,_,_,.nil=>λp hp=>by cases hp
 |_,_,_,.cons h r=>λp hp=>(Ry.mp hp).elim (Wn.lists h p) (Wf.lists r p)
end
mutual
theorem Wn.W2{K:Rv}{H0 H:Hp}{P:List ZE}(m:WM H P)(e:VJ H0 H):∀{d:D}{v:V}{B:List ZE},Wn K H0 H d v B->Wn K (aj P H) H d v B
 |_,_,_,.flat f r=>.flat f (Rep.W2 m f (Rep.mono e r))
 |_,_,_,.tup h r=>.tup (WG.W2 m (WG.mono e h)) (Wf.W2 m e r)
 |_,_,_,.lst h r=>.lst h (Wf.W2 m e r)
 |_,_,_,.WR l h r=>.WR l h (Wf.W2 m e r)
 |_,_,_,.obj l h r=>.obj l h (Wf.W2 m e r)
 |_,_,_,.Xy h=>.Xy h
theorem Wf.W2{K:Rv}{H0 H:Hp}{P:List ZE}(m:WM H P)(e:VJ H0 H):∀{ds:List D}{vs:List V}{B:List ZE},Wf K H0 H ds vs B->Wf K (aj P H) H ds vs B
 |_,_,_,.nil=>.nil
 |_,_,_,.cons h r=>.cons (Wn.W2 m e h) (Wf.W2 m e r)
end
theorem Wf.za7{K:Rv}:∀{ds:Ql D}{vs:Ql V},Wv ds=Qt->VQ K H0 ds vs->Wf K H0 H ds vs []
 |_,_,_,.nil=>.nil
 |_,_,f,.cons h r=>by simp[Wv]at f;exact .cons (.flat f.1 h) (Wf.za7 f.2 r)
def WM.app(h:WM H P)(k:WM H Q):WM H (P++Q):=λp hp=>(Ry.mp hp).elim (h p) (k p)
inductive Ev where
 |cl (d:D)|tm (d:D)|nw (xs:List D)|dn (d:D)
def Ev.d:Ev->D
 |.cl d=>d
 |.tm d=>d
 |.nw xs=>.lst xs
 |.dn d=>d
inductive zl5(K:Rv)(F A:List ZE)(H H':Hp)(xs:List D)(v:V):Prop
 |mk (p:ZE) (vs:List V) (_:v=.ref p) (_:H p=Qn) (_:H' p=Qs (.lst vs)) (_:VQ K (aj (p::(A++F)) H') xs vs)
inductive zl7(K:Rv)(F A:List ZE)(H H':Hp)(d:D)(v:V):Prop
 |mk (B:List ZE) (_:B.Nodup) (_:∀b∈B,H b=Qn) (_:Wn K (aj (B++(A++F)) H') H' d v B)
def Wt(K:Rv)(F A:Ql ZE)(H H':Hp):Ev->V->Prop
 |.cl d,v=>Rep K (aj (A++F) H') d v
 |.tm d,v=>Rep K (aj F H') d v
 |.nw xs,v=>zl5 K F A H H' xs v
 |.dn d,v=>zl7 K F A H H' d v
def cD(e:VJ H H'):VJ (aj P H) (aj P H'):=λb o h=>by obtain⟨n,h⟩:=cN h;exact bH (e _ _ h) n
theorem Wt.mono{K:Rv}(h:Wt K F A H H1 r v)(e:VJ H1 H2):Wt K F A H H2 r v:=by
 cases r with
 |cl d=>exact Rep.mono (cD e) h
 |tm d=>exact Rep.mono (cD e) h
 |nw xs=>obtain⟨p,vs,rfl,h1,h2,h3⟩:=h;exact⟨p,vs,rfl,h1,e _ _ h2,VQ.mono (cD e) h3⟩
 |dn d=>obtain⟨B,h1,h2,h3⟩:=h;exact⟨B,h1,h2,Wn.mono (cD e) h3 λp _ o q=>e _ _ q⟩
def Wt.back (h:Wt K F A H H1 r v)(e:VJ H0 H):Wt K F A H0 H1 r v:=by
 cases r with
 |cl d=>assumption
 |tm d=>assumption
 |nw xs=>
  obtain⟨p,vs,rfl,h1,h2,h3⟩:=h;refine⟨p,vs,rfl,?_,h2,h3⟩;cases q:H0 p with
  |none=>rfl
  |some o=>rw[e _ _ q]at h1;assumption
 |dn d=>obtain⟨B,h1,h2,h3⟩:=h;exact⟨B,h1,λb hb=>VJ.free e (h2 b hb),h3⟩
def Wt.full (h:Wt K F A H H' r v):Rep K H' r.d v:=by
 cases r with
 |cl d=>exact Rep.mono (aR _ _) h
 |tm d=>exact Rep.mono (aR _ _) h
 |nw xs=>obtain⟨p,vs,rfl,h1,h2,h3⟩:=h;exact .lst (V5.of h2) (VQ.mono (aR _ _) h3)
 |dn d=>obtain⟨B,h1,h2,h3⟩:=h;exact h3.rep (aR _ _) λ_ _ _ q=>q
def eP(m:WM H P)(h:H p=Qn):p∉P:=λz=>by obtain⟨vs,q⟩:=m _ z;lia
def Wt.Ze (m:WM H (A++F))(h:Wt K F A H H' r v):Rep K (aj F H') r.d v:=by
 cases r with
 |cl d=>exact Rep.mono (bE _ λa z=>Ru _ z) h
 |tm d=>assumption
 |nw xs=>obtain⟨p,vs,rfl,h1,h2,h3⟩:=h;exact .lst (V5.of (bH h2 (λz=>eP m h1 (Ru _ z)))) (VQ.mono (bE _ λa z=>Rx _ (Ru _ z)) h3)
 |dn d=>obtain⟨B,h1,h2,h3⟩:=h;refine h3.rep (bE _ λa z=>Ru _ (Ru _ z)) λb hb o q=>bH q λz=>?_;exact eP m (h2 b hb) (Ru _ z)
def Ev.ok:Ev->Bool
 |.cl _=>Qt
 |.tm d=>flat d
 |.nw _=>Qt
 |.dn _=>Qt
def Wt.clean (m:WM H (A++F))(e:VJ H H')(h:Wt K F A H H' r v)(c:r.ok=Qt):Rep K (aj (A++F) H') r.d v:=by
 cases r with
 |cl d=>assumption
 |tm d=>exact Rep.W2 (m.mono e) c (Rep.mono (aR _ _) h)
 |nw xs=>obtain⟨p,vs,rfl,h1,h2,h3⟩:=h;exact .lst (V5.of (bH h2 (eP m h1))) (VQ.mono (bE _ λa z=>Rx _ z) h3)
 |dn d=>obtain⟨B,h1,h2,h3⟩:=h;exact h3.rep (bE _ λa z=>Ru _ z) λb hb o q=>bH q λz=>eP m (h2 b hb) z
inductive Sl where
 |no|val (d:D)|own (xs:List D)|dp (d:D)
abbrev Th:=Ql Sl
inductive We(K:Rv)(H0 H:Hp):Th->L2.St->List ZE->Prop
 |nil:We K H0 H [] [] []
 |no {x:Option V}{t:Th}{σ:L2.St}{A:List ZE}:We K H0 H t σ A->We K H0 H (.no::t) (x::σ) A
 |val {d:D}{v:V}{t:Th}{σ:L2.St}{A:List ZE}:Rep K H0 d v->We K H0 H t σ A->We K H0 H (.val d::t) (Qs v::σ) A
 |own {p:ZE}{vs:List V}{ds:List D}{t:Th}{σ:L2.St}{A:List ZE}:H p=Qs (.lst vs)->VQ K H0 ds vs->We K H0 H t σ A->We K H0 H (.own ds::t) (Qs (.ref p)::σ) (p::A)
 |dp {d:D}{v:V}{B:List ZE}{t:Th}{σ:L2.St}{A:List ZE}:Wn K H0 H d v B->We K H0 H t σ A->We K H0 H (.dp d::t) (Qs v::σ) (B++A)
structure RS(K:Rv)(F:List ZE)(H:Hp)(A:List ZE)(t:Th)(σ:L2.St):Prop where
 mu:WM H (A++F)
 nd:A.Nodup
 dj:∀p∈A,p∉F
 rel:We K (aj (A++F) H) H t σ A
theorem We.mono{K:Rv}(e0:VJ H0 Xe):∀{t:Th}{σ:L2.St}{A:Ql ZE},We K H0 H t σ A->(∀p∈A,∀o,H p=Qs o->H' p=Qs o)->We K Xe H' t σ A:=by
 intro _ _ _ h
 induction h with
 |nil=>intro w0;exact .nil
 |@no _ _ _ _ r ih=>intro e;exact .no (ih e)
 |@val _ _ _ _ _ h r ih=>intro e;exact .val (Rep.mono e0 h) (ih e)
 |@own _ _ _ _ _ _ h1 h2 r ih=>intro e;exact .own (e _ (Rz ..) _ h1) (VQ.mono e0 h2) (ih λp hp=>e p (Rx _ hp))
 |@dp _ _ _ _ _ _ h r ih=>intro e;exact .dp (Wn.mono e0 h λp hp=>e p (Rw _ hp)) (ih λp hp=>e p (Ru _ hp))
def RS.grow (h:RS K F H A t σ)(e:VJ H H'):RS K F H' A t σ:=⟨h.mu.mono e,h.nd,h.dj,h.rel.mono (cD e) λp _ o q=>e _ _ q⟩
def We.len:∀{t:Th}{σ:L2.St}{A:Ql ZE},We K H0 H t σ A->σ.length=t.length:=by
 intro _ _ _ h
 induction h with
 |nil=>rfl
 |@no _ _ _ _ r ih=>simp[ih]
 |@val _ _ _ _ _ _ r ih=>simp[ih]
 |@own _ _ _ _ _ _ _ _ r ih=>simp[ih]
 |@dp _ _ _ _ _ _ _ r ih=>simp[ih]
def We.zaR:∀{t:Th}{σ:L2.St}{A:Ql ZE},We K H0 H t σ A->∀{i:Nat}{d:D},t[i]?=Qs (.val d)->∃v,σ[i]?=Qs (Qs v)/\Rep K H0 d v:=by
 intro _ _ _ h
 induction h with
 |nil=>intro i d e;simp at e
 |@no _ _ _ _ r ih=>
  intro i d e;cases i with
  |zero=>simp at e
  |succ i=>
   simp_all
 |@val _ v _ _ _ h r ih=>
  intro i d e;cases i with
  |zero=>
   simp_all
  |succ i=>
   simp_all
 |@own _ _ _ _ _ _ _ _ r ih=>
  intro i d e;cases i with
  |zero=>simp at e
  |succ i=>
   simp_all
 |@dp _ _ _ _ _ _ _ r ih=>
  intro i d e;cases i with
  |zero=>simp at e
  |succ i=>
   simp_all
inductive zmh(K:Rv)(H0 H:Hp)(σ:L2.St)(A:List ZE)(i:Nat)(ds:List D):Prop
 |mk (p vs:_) (_:σ[i]?=Qs (Qs (.ref p))) (_:p∈A) (_:H p=Qs (.lst vs)) (_:VQ K H0 ds vs)
def We.Yw:∀{t:Th}{σ:L2.St}{A:Ql ZE},We K H0 H t σ A->∀{i:Nat}{ds:Ql D},t[i]?=Qs (.own ds)->zmh K H0 H σ A i ds:=by
 intro _ _ _ h
 induction h with
 |nil=>simp
 |@no _ _ _ _ r ih=>
  intro i d e;cases i with
  |zero=>simp at e
  |succ i=>obtain⟨p,vs,a,b,c,f⟩:=ih (e);exact⟨p,vs,a,b,c,f⟩
 |@val _ v _ _ _ h r ih=>
  intro i d e;cases i with
  |zero=>simp at e
  |succ i=>obtain⟨p,vs,a,b,c,f⟩:=ih (e);exact⟨p,vs,a,b,c,f⟩
 |@own p vs _ _ _ _ h1 h2 r ih=>
  intro i d e;cases i with
  |zero=>simp at e;subst e;exact⟨p,vs,rfl,Rz ..,h1,h2⟩
  |succ i=>obtain⟨p,vs,a,b,c,f⟩:=ih (e);exact⟨p,vs,a,Rx _ b,c,f⟩
 |@dp _ _ _ _ _ _ _ r ih=>
  intro i d e;cases i with
  |zero=>simp at e
  |succ i=>obtain⟨p,vs,a,b,c,f⟩:=ih (e);exact⟨p,vs,a,Ru _ b,c,f⟩
inductive GDp(K:Rv)(H0 H:Hp)(σ:L2.St)(A:List ZE)(i:Nat)(d:D):Prop
 |mk (v B:_) (_:σ[i]?=Qs (Qs v)) (_:(∀b∈B,b∈A)) (_:B.Nodup) (_:Wn K H0 H d v B)
def We.zeA:∀{t:Th}{σ:L2.St}{A:Ql ZE},We K H0 H t σ A->A.Nodup->∀{i:Nat}{d:D},t[i]?=Qs (.dp d)->GDp K H0 H σ A i d:=by
 intro _ _ _ h
 induction h with
 |nil=>simp
 |@no _ _ _ _ r ih=>
  intro n i d e;cases i with
  |zero=>simp at e
  |succ i=>obtain⟨v,B,a,b,n',c⟩:=ih n (e);exact⟨v,B,a,b,n',c⟩
 |@val _ v _ _ _ h r ih=>
  intro n i d e;cases i with
  |zero=>simp at e
  |succ i=>obtain⟨v,B,a,b,n',c⟩:=ih n (e);exact⟨v,B,a,b,n',c⟩
 |@own _ _ _ _ _ _ _ _ r ih=>
  intro n i d e;cases i with
  |zero=>simp at e
  |succ i=>obtain⟨v,B,a,b,n',c⟩:=ih (RQ.mp n).2 (e);exact⟨v,B,a,λx hx=>Rx _ (b x hx),n',c⟩
 |@dp _ v B _ _ _ h r ih=>
  intro n i d e;cases i with
  |zero=>simp at e;subst e;exact⟨v,B,rfl,λx hx=>Rw _ hx,(RI.mp n).1,h⟩
  |succ i=>obtain⟨v,B,a,b,n',c⟩:=ih (RI.mp n).2.1 (e);exact⟨v,B,a,λx hx=>Ru _ (b x hx),n',c⟩
structure Gr(A:List ZE)(H:Hp)(A':List ZE)(H':Hp):Prop where
 kp:∀b o,b∉A->H b=Qs o->H' b=Qs o
 al:∀b∈A,H' b≠Qn
 nw:∀b∈A',b∈A\/H b=Qn
def Gr.refl(m:WM H A):Gr A H A H:=⟨λ_ _ _ h=>h,λb hb=>by obtain⟨vs,q⟩:=m b hb;rw[q];simp,λb h=>.inl h⟩
def Gr.of_same(m:WM H A)(e:VJ H H'):Gr A H A H':=⟨λ_ _ _ h=>e _ _ h,λb hb=>by obtain⟨vs,q⟩:=m b hb;rw[e _ _ q];simp,λb h=>.inl h⟩
def Gr.trans(a:Gr A H A1 H1)(b:Gr A1 H1 A2 H2):Gr A H A2 H2 where
 kp:=λx o n h=>b.kp x o (λz=>by rcases a.nw x z with q|q;exact n q;lia) (a.kp x o n h)
 al:=λx hx=>by
  by_cases z:x∈A1
  .exact b.al x z
  .have:=a.al x hx;cases q:H1 x with
   |none=>exact absurd q this
   |some o=>rw[b.kp x o z q];simp
 nw:=λx hx=>by
  rcases b.nw x hx with q|q
  .exact a.nw x q
  .by_cases z:x∈A
   .exact .inl z
   .refine .inr ?_;cases w:H x with
    |none=>rfl
    |some o=>rw[a.kp x o z w]at q;assumption
def Gr.same(g:Gr A H A' H'):VJ (aj (A++F) H) (aj (A'++F) H'):=λb o h=>by
 obtain⟨n,h⟩:=cN h;have n1:b∉A:=λz=>n (Rw _ z);refine bH (g.kp b o n1 h) λz=>?_;rcases Ry.mp z with z|z
 .rcases g.nw b z with q|q
  .exact n1 q
  lia
 .exact n (Ru _ z)
end DL
variable{kt:DL.D->DL.Th->Qo DL.Th}
namespace DL
open PySem.Spec L2
abbrev DE:=Th->Qo Ev
inductive dE(K:Rv)(F:List ZE)(f:DE)(σ:L2.St)(H:Hp)(Q:VK):Prop
 |mk (A t r:_) (_:RS K F H A t σ) (_:f t=Qs r) (_:∀v H',VJ H H'->Wt K F A H H' r v->Q v H')
def PE.imp(h:PE X e t)(i:∀σ H Q,t' σ H Q->t σ H Q):PE X e t':=λpins s σ H Q I q=>h _ s σ H Q I (i σ H Q q)
section
variable {X:Cx}{F:Ql ZE}{a b c:ZG}{fa fb fc:DE}
def af(i:Nat):DE:=λt=>match t[i]? with
 |some (.val d)=>Qs (.cl d)
 |some (.own xs)=>Qs (.tm (.lst xs))
 |some (.dp d)=>Qs (.tm d)
 |_=>Qn
def aa(i:Nat)(hN:X.N[i]?=Qs x:=by rfl)(hv:autoParam (dD X.env.scope x) qzA._auto_1)(hd:Xg x:=by decide) (W3:X4 x:=by decide):PE X (.Name x pos) (dE X.K F (af i)):=by
 refine PE.imp (dU (i:=i) hN hv hd W3) ?_;rintro σ H Q ⟨A,t,r,R,e,h⟩;unfold af at e;split at e
 .rename_i d q;cases e;obtain⟨v,h1,h2⟩:=R.rel.zaR q;exact⟨v,h1,h v H (VJ.refl H) h2⟩
 .rename_i ds q;cases e;obtain⟨p,vs,h1,h2,h3,h4⟩:=R.rel.Yw q;refine⟨_,h1,h _ H (VJ.refl H) ?_⟩;exact .lst (V5.of (bH h3 (R.dj p h2))) (VQ.mono (bE H λa z=>Ru _ z) h4)
 .rename_i d q;cases e;obtain⟨v,B,h1,h2,h0,h3⟩:=R.rel.zeA R.nd q;refine⟨_,h1,h _ H (VJ.refl H) ?_⟩;exact h3.rep (bE H λa z=>Ru _ z) λb hb o w=>bH w (R.dj b (h2 b hb))
 .cases e
def dC(d:D):DE:=λ_=>Qs (.cl d)
def az:PE X (.Constant (.int i) j pos) (dE X.K F (dC (.int i))):=PE.imp yR λσ H Q ⟨A,t,r,R,e,h⟩=>by cases e;exact h _ H (VJ.refl H) (.int i)
def eN{b j pos}:PE X (.Constant (.bool b) j pos) (dE X.K F (dC (.bl b))):=PE.imp Ml λσ H Q ⟨A,t,r,R,e,h⟩=>by cases e;exact h _ H (VJ.refl H) (.bl b)
def og:PE X (.Constant .none j pos) (dE X.K F (dC .Wj)):=PE.imp Md λσ H Q ⟨A,t,r,R,e,h⟩=>by cases e;exact h _ H (VJ.refl H) .Wj
def Xx(X:Cx)(F:Ql ZE)(f:R8->R8->Sem R8)(k:Ev->Ev->Qo Ev):Prop:=∀(pins:Ql (ZE×Obj)) (s:R7) (σ:L2.St) (H0 H:Hp) (A:Ql ZE) (x y:V) (v u:R8) (Q:VK) (r1 r2 r:Ev),Inv X pins σ H s->WM H0 (A++F)->VJ H0 H->RelV x v->RelV y u->Wt X.K F A H0 H r1 x->Wt X.K F A H0 H r2 y->k r1 r2=Qs r->(∀z H',VJ H H'->Wt X.K F A H0 H' r z->Q z H')->wpAny (model X.prog X.w) X.A (f v u) (EP X pins σ Q) X.xe s
def d2(k:Ev->Ev->Qo Ev)(fa fb:DE):DE:=λt=>(fa t).bind λr1=>(fb t).bind λr2=>k r1 r2
inductive Two(X:Cx)(F:List ZE)(fa fb:DE)(k:Ev->Ev->Option Ev)(σ:L2.St)(H:Hp)(Q:VK):Prop
 |mk (A t r1 r2 r:_) (_:RS X.K F H A t σ) (_:fa t=Qs r1) (_:fb t=Qs r2) (_:k r1 r2=Qs r) (_:(∀v H',VJ H H'->Wt X.K F A H H' r v->Q v H')) (_:dE X.K F fa σ H λx H1=>dE X.K F fb σ H1 λy H2=>VJ H H2/\Wt X.K F A H H2 r1 x/\Wt X.K F A H H2 r2 y)
def two(h:dE X.K F (d2 k fa fb) σ H Q):Two X F fa fb k σ H Q:=by obtain⟨A,t,r,R,e,h⟩:=h;refine aA e λr1 e1 e=>?_;refine aA e λr2 e2 e=>?_;exact⟨A,t,r1,r2,r,R,e1,e2,e,h,A,t,r1,R,e1,λx H1 g1 q1=>⟨A,t,r2,R.grow g1,e2,λy H2 g2 q2=>⟨g1.trans g2,q1.mono g2,q2.back g1⟩⟩⟩
def bL(ho:Xx X F (binaryOp op) k)(ha:PE X a (dE X.K F fa))(hb:PE X b (dE X.K F fb)):PE X (.BinOp a op b pos) (dE X.K F (d2 k fa fb)):=by intro pins s σ H Q I h;obtain⟨A,t,r1,r2,r,R,e1,e2,e,h,w⟩:=two h;refine wpAny_BinOp (si ha hb I w λv u s2 x y H2 I2 rx ry q=>?_);obtain⟨g,q1,q2⟩:=q;exact ho _ _ σ H _ A x y v u Q _ _ r I2 R.mu g rx ry q1 q2 e λz H' g'=>h z _ (g.trans g')
def fj(ho:Xx X F (compareOp op) k)(ha:PE X a (dE X.K F fa))(hb:PE X b (dE X.K F fb))(hm:behindInMarks op b=Qf:=by first|exact yZ _|(with_unfolding_all rfl)):PE X (.Compare a [op] [b] pos) (dE X.K F (d2 k fa fb)):=by intro pins s σ H Q I h;obtain⟨A,t,r1,r2,r,R,e1,e2,e,h,w⟩:=two h;refine wpAny_Compare1 (si ha hb I w λv u s2 x y H2 I2 rx ry q=>?_) hm;obtain⟨g,q1,q2⟩:=q;exact ho _ _ σ H _ A x y v u Q _ _ r I2 R.mu g rx ry q1 q2 e λz H' g'=>h z _ (g.trans g')
def kI(C:Int->Int->Bool)(g:Int->Int->D):Ev->Ev->Qo Ev:=λr1 r2=>match r1.d,r2.d with
 |.int i,.int j=>if C i j then Qs (.cl (g i j)) else Qn
 |_,_=>Qn
def cL (h:Rep K H (.int i) v):v=.int i:=by cases h;rfl
def jw(h:e8 X f (rI C g))(hc:∀i j,C' i j=Qt->C i j) (hg:∀H i j,Rep X.K H (g' i j) (g i j)):Xx X F f (kI C' g'):=by
 intro pins s σ H0 H A x y v u Q r1 r2 r I m g0 rx ry q1 q2 e hq;have p1:=q1.full;have p2:=q2.full;unfold kI at e;split at e
 .rename_i i j d1 d2;split at e
  .rename_i c;cases e;rw[d1]at p1;rw[d2]at p2;cases cL p1;cases cL p2;exact h _ s σ H _ _ v u Q I rx ry ⟨i,j,rfl,rfl,hc i j c,hq _ H (VJ.refl H) (hg _ i j)⟩
  .cases e
 .cases e
def nX(h:e8 X f (jZ g)):e8 X f (rI (λ_ _=>True) g):=λpins s σ H x y v u Q I rx ry ⟨i,j,e1,e2,_,q⟩=>h _ s σ H x y v u Q I rx ry ⟨i,j,e1,e2,q⟩
def gR:Int->Int->Bool:=λ_ _=>Qt
def YH:Xx X F (binaryOp .Add) (kI gR λi j=>.int (i+j)):=jw (nX ME) (λ_ _ _=>trivial) λ_ _ _=>.int _
def ui:Xx X F (binaryOp .Sub) (kI gR λi j=>.int (i-j)):=jw (nX Mr) (λ_ _ _=>trivial) λ_ _ _=>.int _
def Wq:Nat:=2^4096
def sm(i:Int):Bool:=decide (i.natAbs<Wq)
def ZS(i j:Int):Bool:=sm i&&sm j
def Z7(_ j:Int):Bool:=sm j&&decide (j≠0)
def Ff(h:n<2^k):n.log2<=k:=by
 by_cases z:n=0
 .subst z;simp
 .exact Uz ((XB z).mpr h)
def ZS.ok(h:ZS i j=Qt):IntMulOk i j:=by
 simp only[ZS,sm,RJ,XT]at h;refine mulOk_of_bits (m:=4097) (n:=4097) ?_ ?_ (by decide)
 .exact intBits_le (RO h.1 (by exact S7 (by decide) (by decide)))
 .exact intBits_le (RO h.2 (by exact S7 (by decide) (by decide)))
def Ya:Xx X F (binaryOp .Mult) (kI ZS λi j=>.int (i*j)):=jw (C:=IntMulOk) (pT λ_ _ _ _ _ _ _ hc q=>mul_int q hc) (λ_ _ h=>ZS.ok h) λ_ _ _=>.int _
def Z7.ok(h:Z7 i j=Qt):j≠0/\j.natAbs.log2<9000:=by simp only[Z7,sm,RJ,XT]at h;have:=Ff h.1;exact⟨h.2,by lia⟩
def j9:Xx X F (binaryOp .FloorDiv) (kI Z7 λi j=>.int (i.fdiv j)):=jw (C:=λ_ j=>j≠0/\j.natAbs.log2<9000) (pT λ_ _ _ _ _ _ _ hc q=>floordiv_int hc.1 q (.inl (PyProof.noPylong_of_log2 hc.2))) (λ_ _ h=>Z7.ok h) λ_ _ _=>.int _
def mY(_ j:Int):Bool:=decide (j≠0)
def j7:Xx X F (binaryOp .Mod) (kI mY λi j=>.int (i.fmod j)):=jw Mx (λi j h=>by simpa[mY] using h) λ_ _ _=>.int _
def sf(i j:Int):Bool:=decide (0<=j/\j<=1000/\i.natAbs<18446744073709551616)
def yT:Xx X F (binaryOp .Pow) (kI sf λi j=>.int (i^j.toNat)):=jw Mt (λi j h=>by
 simp only[sf,XT]at h;exact⟨h.1,by lia,by lia⟩) λ_ _ _=>.int _
def j8:Xx X F (compareOp .Lt) (kI gR λi j=>.bl (decide (i<j))):=jw (nX My) (λ_ _ _=>trivial) λ_ _ _=>.bl _
def yV:Xx X F (compareOp .LtE) (kI gR λi j=>.bl (decide (i<=j))):=jw (nX Mz) (λ_ _ _=>trivial) λ_ _ _=>.bl _
def mm:Xx X F (compareOp .Gt) (kI gR λi j=>.bl (decide (j<i))):=jw (nX MB) (λ_ _ _=>trivial) λ_ _ _=>.bl _
def Nz:Xx X F (compareOp .GtE) (kI gR λi j=>.bl (decide (j<=i))):=jw (nX MC) (λ_ _ _=>trivial) λ_ _ _=>.bl _
def mz(k k':Ev->Ev->Qo Ev):Ev->Ev->Qo Ev:=λr1 r2=>match k r1 r2 with
 |some r=>Qs r
 |none=>k' r1 r2
def Xx.or(h:Xx X F f k)(h':Xx X F f k'):Xx X F f (mz k k'):=by
 intro pins s σ H0 H A x y v u Q r1 r2 r I m g0 rx ry q1 q2 e hq;unfold mz at e;split at e
 .rename_i z;cases e;exact h _ s σ _ H A x y v u Q _ _ _ I m g0 rx ry q1 q2 z hq
 .exact h' _ s σ _ H A x y v u Q _ _ _ I m g0 rx ry q1 q2 e hq
def d1(k:Ev->Qo Ev)(fa:DE):DE:=λt=>(fa t).bind k
def oE:Ev->Qo Ev:=λr=>match r.d with
 |.int i=>Qs (.cl (.int (-i)))
 |_=>Qn
def yO(ha:PE X a (dE X.K F fa)):PE X (.UnaryOp .USub a pos) (dE X.K F (d1 oE fa)):=by
 refine PE.imp (Ma IQ ha) ?_;rintro σ H Q ⟨A,t,r,R,e,h⟩;unfold d1 at e;refine aA e λr1 e1 e=>?_;refine⟨A,t,r1,R,e1,λx H1 g1 q1=>?_⟩;have e:oE r1=Qs r:=e;unfold oE at e;split at e
 .rename_i i z;cases e;have p:=q1.full;rw[z]at p;exact⟨i,cL p,h _ _ g1 (.int _)⟩
 .cases e
end
end DL
variable{fb:DL.DE}{fc:DL.DE}{fo:DL.DE}
namespace DL
open PySem.Spec L2
inductive Xo(K:Rv)(F A:List ZE)(H H':Hp):List Ev->List V->Prop
 |nil:Xo K F A H H' [] []
 |cons {r:Ev}{v:V}{rs:List Ev}{vs:List V}:Wt K F A H H' r v->Xo K F A H H' rs vs->Xo K F A H H' (r::rs) (v::vs)
theorem Xo.back{K:Rv}(e:VJ H0 H):∀{rs:Ql Ev}{vs:Ql V},Xo K F A H H1 rs vs->Xo K F A H0 H1 rs vs
 |_,_,.nil=>.nil
 |_,_,.cons h r=>.cons (h.back e) (Xo.back e r)
theorem Xo.full{K:Rv}:∀{rs:Ql Ev}{vs:Ql V},Xo K F A H H' rs vs->VQ K H' (rs.map Ev.d) vs
 |_,_,.nil=>.nil
 |_,_,.cons h r=>.cons h.full (Xo.full r)
theorem Xo.Ze{K:Rv}(m:WM H (A++F)):∀{rs:Ql Ev}{vs:Ql V},Xo K F A H H' rs vs->VQ K (aj F H') (rs.map Ev.d) vs
 |_,_,.nil=>.nil
 |_,_,.cons h r=>.cons (h.Ze m) (Xo.Ze m r)
theorem Xo.clean{K:Rv}(m:WM H (A++F))(e:VJ H H'):∀{rs:Ql Ev}{vs:Ql V},Xo K F A H H' rs vs->rs.all Ev.ok=Qt->VQ K (aj (A++F) H') (rs.map Ev.d) vs
 |_,_,.nil,_=>.nil
 |_,_,.cons h r,c=>by simp only[SK,RJ]at c;exact .cons (h.clean m e c.1) (Xo.clean m e r c.2)
abbrev DA:=Th->Qo (Ql Ev)
inductive dA(K:Rv)(F:List ZE)(f:DA)(σ:L2.St)(H:Hp)(Q:List V->Hp->Prop):Prop
 |mk (A t rs:_) (_:RS K F H A t σ) (_:f t=Qs rs) (_:∀vs H',VJ H H'->Xo K F A H H' rs vs->Q vs H')
def PA.imp(h:PA X e t)(i:∀σ H Q,t' σ H Q->t σ H Q):PA X e t':=λpos pins s σ H Q I q=>h _ _ s σ H Q I (i σ H Q q)
def aq:DA:=λ_=>Qs []
def ae(f:DE)(g:DA):DA:=λt=>(f t).bind λr=>(g t).bind λrs=>Qs (r::rs)
section
variable {X:Cx}{F:Ql ZE}{a b c:ZG}{es:Ql ZG}{fa:DE}{g:DA}
def aw:PA X [] (dA X.K F aq):=PA.imp gx λσ H Q ⟨A,t,rs,R,e,h⟩=>by cases e;exact h _ H (VJ.refl H) .nil
def ai(ha:PE X a (dE X.K F fa))(hr:PA X es (dA X.K F g))(hs:RM (a::es) X.env=(Qf,eval a X.env)::RM es X.env:=by rfl):PA X (a::es) (dA X.K F (ae fa g)):=by refine PA.imp (fG ha hr hs) ?_;rintro σ H Q ⟨A,t,rs,R,e,h⟩;refine aA e λr1 e1 e=>?_;refine aA e λrs2 e2 e=>?_;cases e;exact⟨A,t,r1,R,e1,λx H1 g1 q1=>⟨A,t,rs2,R.grow g1,e2,λxs H2 g2 q2=>h _ _ (g1.trans g2) (.cons (q1.mono g2) (q2.back g1))⟩⟩
def cX:Ql Ev->Qo Ev:=λrs=>if rs.length<=1000 then(if rs.all Ev.ok then Qs (.cl (.tup (rs.map Ev.d))) else Qs (.tm (.tup (rs.map Ev.d)))) else Qn
def ag(k:Ql Ev->Qo Ev)(g:DA):DE:=λt=>(g t).bind k
theorem Xo.length{K:Rv}:∀{rs:Ql Ev}{vs:Ql V},Xo K F A H H' rs vs->vs.length=rs.length
 |_,_,.nil=>rfl
 |_,_,.cons _ r=>by simp[Xo.length r]
def ZZ(h:n<=100000):n<=Sf:=SH h (by decide)
def dZ(h:H p=Qn):VJ H (upd H p o):=λb u e=>by rw[aY (λz=>by lia)];assumption
def iF(h:PA X es (dA X.K F g)):PE X (.Tuple es x1 pos) (dE X.K F (ag cX g)):=by
 refine PE.imp (ud h) ?_;rintro σ H Q ⟨A,t,r,R,e,h⟩;unfold ag at e;refine aA e λrs e1 e=>?_;have e:cX rs=Qs r:=e;unfold cX at e;refine cH e λhl e=>?_;refine⟨A,t,rs,R,e1,λvs H1 g1 q1=>⟨by rw[q1.length];exact ZZ (by lia),λp hp=>?_⟩⟩;have s1:=dZ (o:=HO.tup vs) hp;refine h _ _ (g1.trans s1) ?_;have np:p∉A++F:=eP (R.mu.mono g1) hp;split at e
 .rename_i c;cases e;exact .tup (WG.of (bH bK np)) (VQ.mono (cD s1) (q1.clean R.mu g1 c))
 .cases e;exact .tup (WG.of (bH bK λz=>np (Ru _ z))) (VQ.mono (cD s1) (q1.Ze R.mu))
def cY:Ql Ev->Qo Ev:=λrs=>if rs.length<=1000/\rs.all Ev.ok then Qs (.nw (rs.map Ev.d)) else Qn
def kh(h:H p=Qn):VJ (aj P H) (aj (p::P) (upd H p o)):=λb u e=>by
 obtain⟨n,e⟩:=cN e;have nb:b≠p:=λz=>by lia
 refine bH (by rw[aY nb];assumption) λz=>?_
 simp_all
def fF(h:PA X es (dA X.K F g)):PE X (.List es pos) (dE X.K F (ag cY g)):=by refine PE.imp (Mf h) ?_;rintro σ H Q ⟨A,t,r,R,e,h⟩;refine aA e λrs e1 e=>?_;refine cH e λhl e=>?_;cases e;refine⟨A,t,rs,R,e1,λvs H1 g1 q1=>⟨by rw[q1.length];exact ZZ (by lia),λp hp=>?_⟩⟩;refine h _ _ (g1.trans (dZ (o:=HO.lst vs) hp)) ⟨p,vs,rfl,?_,bK,VQ.mono (kh hp) (q1.clean R.mu g1 hl.2)⟩;exact VJ.free g1 hp
inductive ZW(K:Rv)(G:List D->Option Ev)(vs:List V)(H:Hp)(Q:VK)(x_:XK):Prop
 |mk (Fo ds r:_) (_:WM H Fo) (_:VQ K (aj Fo H) ds vs) (_:G ds=Qs r) (_:∀v H',VJ H H'->Wt K Fo [] H H' r v->Q v H')
def jU(ok:Bool)(r:Ev):Ev:=if ok then(match r with
  |.cl d=>.cl d
  |.tm d=>.cl d
  |.nw xs=>.nw xs
  |.dn d=>.dn d) else match r with
  |.cl d=>if flat d then .cl d else .tm d
  |.tm d=>if flat d then .cl d else .tm d
  |.nw xs=>if Wv xs then .nw xs else .tm (.lst xs)
  |.dn d=>.dn d
def aH(G:Ql D->Qo Ev):Ql Ev->Qo Ev:=λrs=>(G (rs.map Ev.d)).map (jU (rs.all Ev.ok))
def HF (m:WM H0 (A++F))(g:VJ H0 H)(q:Xo K F A H0 H rs vs)(e:aH G rs=Qs r) (h:∀v H',VJ H H'->Wt K F A H0 H' r v->Q v H'):ZW K G vs H Q E:=by
 unfold aH at e;rcases e1:G _ with _|r0
 .rw[e1]at e;cases e
 rw[e1]at e;have e:=by simpa using e
 have mH:=m.mono g;by_cases c:rs.all Ev.ok=Qt
 .refine⟨_,_,r0,mH,q.clean m g c,e1,λv H' g' w=>h v _ g' ?_⟩;rw[c]at e;subst e;cases r0 with
  |cl d=>assumption
  |tm d=>assumption
  |nw xs=>obtain⟨p,us,rfl,h1,h2,h3⟩:=w;exact⟨p,us,rfl,VJ.free g h1,h2,h3⟩
  |dn d=>obtain⟨B,h1,h2,h3⟩:=w;exact⟨B,h1,λb hb=>VJ.free g (h2 b hb),h3⟩
 .refine⟨F,_,r0,λp hp=>mH p (Ru _ hp),q.Ze m,e1,λv H' g' w=>h v _ g' ?_⟩;have c:rs.all Ev.ok=Qf:=by lia
  rw[c]at e;subst e;have m':=mH.mono g';cases r0 with
  |cl d=>
   show Wt K F A _ _ (if flat d then .cl d else .tm d) v;split
   .rename_i f;exact Rep.W2 m' f (Rep.mono (aR _ _) w)
   assumption
  |tm d=>
   show Wt K F A _ _ (if flat d then .cl d else .tm d) v;split
   .rename_i f;exact Rep.W2 m' f (Rep.mono (aR _ _) w)
   assumption
  |nw xs=>
   obtain⟨p,us,rfl,h1,h2,h3⟩:=w;have np:=eP mH h1;show Wt K F A _ _ (if Wv _ then .nw _ else .tm _) _;split
   .rename_i f;refine⟨p,us,rfl,VJ.free g h1,h2,VQ.W2 (λb hb=>?_) f (VQ.mono (aR _ _) h3)⟩;rcases RB.mp hb with rfl|hb
    .exact⟨mL _,h2⟩
    .exact m' b hb
   .exact .lst (V5.of (bH h2 λz=>np (Ru _ z))) (VQ.mono (bE _ λb z=>Rx _ z) h3)
  |dn d=>obtain⟨B,h1,h2,h3⟩:=w;exact⟨B,h1,λb hb=>VJ.free g (h2 b hb),h3.W2 (h3.lists.app m') (aR _ _)⟩
def L9{p:Pos}(Fn:XC X.prog X.w X.K X.mg X.base dk k f fd ps (ZW X.K G))(hr:Xa k X.A)(hg:Gl X x)(hm:X.mg x=Qs (.ref f))(hk:S0 X.K (.ref f)=Qt) (hb:Binds X.K fd ps []) (ha:PA X (a::es) (dA X.K F g)) (Yv:Xg x:=by decide) (he:RM (a::es) X.env=(Qf,eval a X.env)::RM es X.env:=by rfl) (XX:(TV pos (RM es X.env)).any (·.1)=Qf:=by rfl):PE X (.Call (.Name x p) (a::es) [] pos) (dE X.K F (ag (aH G) g)):=by refine PE.imp (D0 Fn hr hg hm hk hb .nil mi ha Yv he XX) ?_;rintro σ H Q ⟨A,t,r,R,e,h⟩;refine aA e λrs e1 e=>?_;refine⟨A,t,rs,R,e1,λvs H1 g1 q1=>?_⟩;rw[SE];exact HF R.mu g1 q1 e λv H' g' w=>h v _ (g1.trans g') w
def X0(X:Cx)(F:Ql ZE)(f:R8)(k:Ql Ev->Qo Ev):Prop:=∀(pins:Ql (ZE×Obj)) (s:R7) (σ:L2.St) (H0 H:Hp) (A:Ql ZE) (xs:Ql V) (us:Ql R8) (Q:VK) (rs:Ql Ev) (r:Ev),Inv X pins σ H s->WM H0 (A++F)->VJ H0 H->Vals xs us->Xo X.K F A H0 H rs xs->k rs=Qs r-> (∀z H',VJ H H'->Wt X.K F A H0 H' r z->Q z H')->wpAny (model X.prog X.w) X.A (call f us) (EP X pins σ Q) X.xe s
def PA.run(ha:PA X es (dA X.K F g))(hc:X0 X F f k){σ:L2.St}(p:Pos)(I:Inv X pins σ H s)(h:dE X.K F (ag k g) σ H Q):wpAny (model X.prog X.w) X.A (spliced (TV p (RM es X.env))) (λus s1=>wpAny (model X.prog X.w) X.A (call f us) (EP X pins σ Q) X.xe s1) X.xe s:=by obtain⟨A,t,r,R,e,h⟩:=h;refine aA e λrs e1 e=>?_;refine aF (ha p _ s σ H (λvs H1=>VJ H _/\Xo _ F A H _ _ _) I ⟨A,t,rs,R,e1,λvs H1 g1 q1=>⟨g1,q1⟩⟩) λus s1 ⟨vs,H1,I1,r1,g1,q1⟩=>?_;exact hc _ _ σ H _ A _ _ Q _ r I1 R.mu g1 r1 q1 e λz H' g'=>h z _ (g1.trans g')
def cE{p:Pos}{id:String}(hc:X0 X F (.builtin id) k)(hg:Gl X x)(hm:X.mg x=Qn)(hv:bootBuiltins x=Qs (.builtin id))(ha:PA X (a::es) (dA X.K F g))(hn:x≠"__name__":=by decide)(Yv:Xg x:=by decide) (he:RM (a::es) X.env=(Qf,eval a X.env)::RM es X.env:=by rfl) (XX:(TV pos (RM es X.env)).any (·.1)=Qf:=by rfl):PE X (.Call (.Name x p) (a::es) [] pos) (dE X.K F (ag k g)):=by intro pins s σ H Q I h;refine wpAny_Call_Name_kw (jB I hg hm hv ?_ hn Yv);exact PyProof.Rows.callWith_builtin1 (PA.run ha hc _ I h) he XX
def mf{p:Pos}(hc:X0 X F (.type T) k)(hg:Gl X x)(hm:X.mg x=Qn)(hv:bootBuiltins x=Qs (.type T))(ha:PA X (a::es) (dA X.K F g))(hn:x≠"__name__":=by decide)(Yv:Xg x:=by decide) (he:RM (a::es) X.env=(Qf,eval a X.env)::RM es X.env:=by rfl) (XX:(TV pos (RM es X.env)).any (·.1)=Qf:=by rfl):PE X (.Call (.Name x p) (a::es) [] pos) (dE X.K F (ag k g)):=by intro pins s σ H Q I h;refine wpAny_Call_Name_kw (jB I hg hm hv ?_ hn Yv);exact PyProof.Rows.callWith_type1 (PA.run ha hc _ I h) he XX
def X0.of(h:gj X f r) (i:∀(H0 H:Hp) (A:Ql ZE) (xs:Ql V) (rs:Ql Ev) (e:Ev) (Q:VK),WM H0 (A++F)->VJ H0 H->Xo X.K F A H0 H rs xs->k rs=Qs e->(∀z H',VJ H H'->Wt X.K F A H0 H' e z->Q z H')->r xs H Q):X0 X F f k:=λpins s σ H0 H A xs us Q rs e I m g v q ek hq=>h _ s σ H _ _ Q I v (i _ H A _ _ e Q m g q ek hq)
def qK:Ql Ev->Qo Ev:=λrs=>match rs with
 |[r]=>(match r.d with
  |.int i=>Qs (.cl (.int (if i<0 then-i else i)))
  |_=>Qn)
 |_=>Qn
def HD:X0 X F (.builtin "abs") qK:=X0.of QM λH0 H A xs rs e Q m g q ek hq=>by
 unfold qK at ek;split at ek
 .rename_i r;split at ek
  .rename_i i z;cases ek;cases q with
   |cons q1 q2=>cases q2;have p:=q1.full;rw[z]at p;cases cL p;exact⟨i,rfl,hq _ H (VJ.refl H) (.int _)⟩
  .cases ek
 .cases ek
def cb:Ql Ev->Qo Ev:=λrs=>match rs with
 |[r]=>(match r.d with
  |.lst xs=>Qs (.cl (.int xs.length))
  |.tup xs=>Qs (.cl (.int xs.length))
  |_=>Qn)
 |_=>Qn
def gN:X0 X F (.builtin "len") cb:=X0.of QL λH0 H A xs rs e Q m g q ek hq=>by
 unfold cb at ek;split at ek
 .cases q with
  |cons q1 q2=>
   cases q2;have p:=q1.full;split at ek
   .rename_i ds z;cases ek;rw[z]at p;cases p with
    |lst h1 h2=>exact⟨_,_,rfl,.inl h1,by rw[h2.length];exact hq _ H (VJ.refl H) (.int _)⟩
   .rename_i ds z;cases ek;rw[z]at p;cases p with
    |tup h1 h2=>exact⟨_,_,rfl,.inr h1,by rw[h2.length];exact hq _ H (VJ.refl H) (.int _)⟩
   .cases ek
 .cases ek
end
end DL
variable{ga:DL.DA}
namespace DL
open PySem.Spec L2
abbrev DT:=Th->Qo Bool
inductive dT(K:Rv)(F:List ZE)(f:DT)(σ:L2.St)(H:Hp)(Q:Bool->Hp->Prop):Prop
 |mk (A t b:_) (_:RS K F H A t σ) (_:f t=Qs b) (_:∀H',VJ H H'->Q b H')
def PT.imp(h:PT X e t)(i:∀σ H Q,t' σ H Q->t σ H Q):PT X e t':=λpins s σ H Q I q=>h _ s σ H Q I (i σ H Q q)
def PW.imp(h:PW X e t)(i:∀σ H Q,t' σ H Q->t σ H Q):PW X e t':=λw pins s σ H Q I q=>h w _ s σ H Q I (i σ H Q q)
noncomputable def wJ:D->Qo Bool
 |.Wj=>Qs Qf
 |.bl b=>Qs b
 |.int i=>Qs (i !=0)
 |.tup xs=>Qs (!xs.isEmpty)
 |.lst xs=>Qs (!xs.isEmpty)
 |.WR ks _=>Qs (!ks.isEmpty)
 |.Xy _=>Qn
 |.Ym _=>Qn
 |.adr _=>Qn
 |.WB _=>Qn
 |.obj _ _ _=>Qn
 |.str y=>if y.length<=100000 then Qs ((y.length:Int) !=0) else Qn
def zL{α β:Type}{xs:Ql α}{ys:Ql β}(h:xs.length=ys.length):xs.isEmpty=ys.isEmpty:=by cases xs<;>cases ys<;>simp_all
def Jh (r:Rep K H d v)(e:wJ d=Qs b):Bz K v H b:=by
 cases r with
 |Wj=>cases e;rfl
 |bl b=>cases e;rfl
 |int i=>cases e;rfl
 |str x=>
  simp only[wJ]at e;split at e
  .cases e;exact⟨ZZ (‹_›),rfl⟩
  .cases e
 |tup h1 h2=>cases e;exact .inr (.inl ⟨_,h1,by rw[zL h2.length]⟩)
 |lst h1 h2=>cases e;exact .inl ⟨_,h1,by rw[zL h2.length]⟩
 |@WR ks ds p vs l h1 h2=>
  cases e;have e1:(df ks vs).length=ks.length:=by unfold df;rw[UR];lia
  exact .inr (.inr ⟨_,h1,by rw[zL e1]⟩)
 |Xy h=>cases e
 |Ym h=>cases e
 |adr _=>cases e
 |WB _=>cases e
 |obj _ _ _=>cases e
def dh(f:DE):DT:=λt=>(f t).bind λr=>wJ r.d
def aD(f:DE):DT:=λt=>(f t).bind λr=>match r.d with
 |.bl b=>Qs b
 |_=>Qn
def vC(c:DT)(fa fb:DE):DE:=λt=>(c t).bind λb=>if b then fa t else fb t
def ir(f g:DT):DT:=λt=>(f t).bind λb=>if b then g t else Qs Qf
def fS(f g:DT):DT:=λt=>(f t).bind λb=>if b then Qs Qt else g t
def eZ(f:DT):DT:=λt=>(f t).bind λb=>Qs (!b)
section
variable {X:Cx}{F:Ql ZE}{a b c:ZG}{es:Ql ZG}{fa:DE}{g g':DA}{ft fu:DT}
def fh(ha:PE X a (dE X.K F fa))(he:∀whole,isTrue a X.env whole=(do let v<-whole;standAt a.pos;holding [v] (truthy v)):=by intro _;rfl):PT X a (dT X.K F (dh fa)):=by refine PT.imp (La ha he) ?_;rintro σ H Q ⟨A,t,r,R,e,h⟩;refine aA e λr1 e1 e=>?_;exact⟨A,t,r1,R,e1,λv H' g' q=>⟨r,Jh q.full e,h _ g'⟩⟩
def bN(ho:Xx X F (compareOp op) k)(ha:PE X a (dE X.K F fa))(hb:PE X b (dE X.K F fb))(hm:behindInMarks op b=Qf:=by first|exact yZ _|(with_unfolding_all rfl)):PT X (.Compare a [op] [b] pos) (dT X.K F (aD (d2 k fa fb))):=by
 intro pins s σ H Q I h;obtain⟨A,t,b',R,e,h⟩:=h;unfold aD at e;refine aA e λr0 e1 e=>?_;have w0:dE X.K F (d2 k fa fb) σ H (λz H'=>VJ H H'/\Rep X.K H' r0.d z):=⟨A,t,r0,R,e1,λv H' g q=>⟨g,q.full⟩⟩;obtain⟨A2,t2,r1,r2,r,R2,Z5,Z4,e3,h3,w⟩:=two w0;refine wpAny_isTrue_Compare1 (si ha hb I w λv u s2 x y H2 I2 rx ry q=>?_) hm;obtain⟨g,q1,q2⟩:=q;refine aF (ho pins s2 σ H H2 A2 x y v u (λz H'=>VJ H H'/\Rep X.K H' r0.d z) r1 r2 r I2 R2.mu g rx ry q1 q2 e3 λz H' g'=>h3 z H' (g.trans g')) λcc s3 ⟨z,H3,I3,r3,g3,q3⟩=>?_;have e:(match r0.d with|.bl b=>Qs b|_=>Qn)=Qs b':=e;split at e
 .rename_i b2 z2;cases e;rw[z2]at q3;cases q3;cases r3;exact wpAny_truthy_bool ⟨H3,I3,h _ g3⟩
 .cases e
def nY(ha:PT X a (dT X.K F ft)):PW X (.BoolOp .And [a] pos) (dT X.K F ft):=Dj ha
def jt(ha:PT X a (dT X.K F ft)):PW X (.BoolOp .Or [a] pos) (dT X.K F ft):=Dh ha
def l8(ha:PT X a (dT X.K F ft))(hb:PW X (.BoolOp .And (b::rest) pos) (dT X.K F fu)):PW X (.BoolOp .And (a::b::rest) pos) (dT X.K F (ir ft fu)):=by
 refine PW.imp (KZ ha hb) ?_;rintro σ H Q ⟨A,t,r,R,e,h⟩;refine aA e λr1 e1 e=>?_;refine⟨A,t,r1,R,e1,λH1 g1=>?_⟩;cases r1 with
 |true=>exact⟨A,t,r,R.grow g1,e,λH2 g2=>h _ (g1.trans g2)⟩
 |false=>cases e;exact h _ g1
def iB(ha:PT X a (dT X.K F ft))(hb:PW X (.BoolOp .Or (b::rest) pos) (dT X.K F fu)):PW X (.BoolOp .Or (a::b::rest) pos) (dT X.K F (fS ft fu)):=by
 refine PW.imp (Di ha hb) ?_;rintro σ H Q ⟨A,t,r,R,e,h⟩;refine aA e λr1 e1 e=>?_;refine⟨A,t,r1,R,e1,λH1 g1=>?_⟩;cases r1 with
 |true=>cases e;exact h _ g1
 |false=>exact⟨A,t,r,R.grow g1,e,λH2 g2=>h _ (g1.trans g2)⟩
def gu(ha:PT X a (dT X.K F ft)):PT X (.UnaryOp .Not a pos) (dT X.K F (eZ ft)):=by refine PT.imp (Lb ha) ?_;rintro σ H Q ⟨A,t,r,R,e,h⟩;refine aA e λr1 e1 e=>?_;cases e;exact⟨A,t,r1,R,e1,λH1 g1=>h _ g1⟩
def kE(f g:DE):DE:=λt=>(f t).bind λr=>match r.d with
 |.bl b=>if b then g t else Qs (.cl (.bl Qf))
 |_=>Qn
def qz:Ev->Qo Ev:=λr=>match r.d with
 |.bl b=>Qs (.cl (.bl (!b)))
 |_=>Qn
def yN(h:PE X a (dE X.K F fa)):PE X (.BoolOp op [a] pos) (dE X.K F fa):=Mb h
def yQ(ha:PE X a (dE X.K F fa))(hb:PE X (.BoolOp .And (b::rest) pos) (dE X.K F fb)):PE X (.BoolOp .And (a::b::rest) pos) (dE X.K F (kE fa fb)):=by
 refine PE.imp (Mm ha hb) ?_;rintro σ H Q ⟨A,t,r,R,e,h⟩;unfold kE at e;refine aA e λr1 e1 e=>?_;refine⟨A,t,r1,R,e1,λv H1 g1 q1=>?_⟩;have p:=q1.full;have e:(match r1.d with|.bl b=>if b then fb t else Qs (.cl (.bl Qf))|_=>Qn)=Qs r:=e;split at e
 .rename_i b2 z;rw[z]at p;cases p;refine⟨b2,rfl,?_⟩;cases b2 with
  |true=>exact⟨A,t,r,R.grow g1,e,λv2 H2 g2 q2=>h _ _ (g1.trans g2) (q2.back g1)⟩
  |false=>cases e;exact h _ _ g1 (.bl _)
 .cases e
def L0(ha:PE X a (dE X.K F fa)):PE X (.UnaryOp .Not a pos) (dE X.K F (d1 qz fa)):=by
 refine PE.imp (Mc ha) ?_;rintro σ H Q ⟨A,t,r,R,e,h⟩;unfold d1 at e;refine aA e λr1 e1 e=>?_;refine⟨A,t,r1,R,e1,λx H1 g1 q1=>?_⟩;have e:qz r1=Qs r:=e;unfold qz at e;split at e
 .rename_i i z;cases e;have p:=q1.full;rw[z]at p;cases p;exact⟨i,rfl,h _ _ g1 (.bl _)⟩
 .cases e
def L6(hc:PT X c (dT X.K F ft))(ha:PE X a (dE X.K F fa))(hb:PE X b (dE X.K F fb)):PE X (.IfExp c a b pos) (dE X.K F (vC ft fa fb)):=by
 refine PE.imp (Mg hc ha hb) ?_;rintro σ H Q ⟨A,t,r,R,e,h⟩;refine aA e λr1 e1 e=>?_;refine⟨A,t,r1,R,e1,λH1 g1=>?_⟩;cases r1 with
 |true=>exact⟨A,t,r,R.grow g1,e,λv2 H2 g2 q2=>h _ _ (g1.trans g2) (q2.back g1)⟩
 |false=>exact⟨A,t,r,R.grow g1,e,λv2 H2 g2 q2=>h _ _ (g1.trans g2) (q2.back g1)⟩
end
inductive Out where
 |nx (t:Th)|rt (r:Ev)|bk (t:Th)|ct (t:Th)
abbrev DS:=Th->Qo Out
def After(K:Rv)(F A:Ql ZE)(H:Hp)(N:L2.St->Hp->Prop)(t:Th):Prop:=∀σ' H' A',Gr A H A' H'->RS K F H' A' t σ'->N σ' H'
inductive zl2(K:Rv)(F A:List ZE)(H H':Hp)(xs:List D)(v:V):Prop
 |mk (p:ZE) (vs:List V) (_:v=.ref p) (_:p∈A\/H p=Qn) (_:p∉F) (_:H' p=Qs (.lst vs)) (_:VQ K (aj (p::F) H') xs vs)
inductive zl3(K:Rv)(F A:List ZE)(H H':Hp)(d:D)(v:V):Prop
 |mk (B:List ZE) (_:B.Nodup) (_:∀b∈B,(b∈A\/H b=Qn)/\b∉F) (_:Wn K (aj (B++F) H') H' d v B)
def YN(K:Rv)(F A:Ql ZE)(H H':Hp):Ev->V->Prop
 |.cl d,v=>Rep K (aj F H') d v
 |.tm d,v=>Rep K (aj F H') d v
 |.nw xs,v=>zl2 K F A H H' xs v
 |.dn d,v=>zl3 K F A H H' d v
def Back(K:Rv)(F A:Ql ZE)(H:Hp)(N:VK)(r:Ev):Prop:=∀v H' A',Gr A H A' H'->YN K F A H H' r v->N v H'
inductive dS(K:Rv)(F:List ZE)(g:DS)(E:Ends)(σ:L2.St)(H:Hp):Prop
 |mk (A:List ZE) (t:Th) (o:Out) (_:RS K F H A t σ) (_:g t=Qs o) (_:match o with
 |.nx t'=>After K F A H E.nx t'
 |.bk t'=>After K F A H E.bk t'
 |.ct t'=>After K F A H E.ct t'
 |.rt r=>Back K F A H E.rt r)
end DL
variable{fu:DL.DT}
namespace DL
open PySem.Spec L2
def YN.back (g:Gr A H A1 H1)(h:YN K F A1 H1 H' r v):YN K F A H H' r v:=by
 cases r with
 |cl d=>assumption
 |tm d=>assumption
 |nw xs=>
  obtain⟨p,vs,rfl,h1,h2,h3,h4⟩:=h;refine⟨p,vs,rfl,?_,h2,h3,h4⟩;rcases h1 with h1|h1
  .exact g.nw p h1
  .by_cases z:p∈A
   .exact .inl z
   .refine .inr ?_;cases w:H p with
    |none=>rfl
    |some o=>rw[g.kp p o z w]at h1;assumption
 |dn d=>
  obtain⟨B,h0,h1,h2⟩:=h;refine⟨B,h0,λp hp=>⟨?_,(h1 p hp).2⟩,h2⟩;rcases(h1 p hp).1 with h1|h1
  .exact g.nw p h1
  .by_cases z:p∈A
   .exact .inl z
   .refine .inr ?_;cases w:H p with
    |none=>rfl
    |some o=>rw[g.kp p o z w]at h1;assumption
def After.back (h:After K F A H N t)(g:Gr A H A1 H1):After K F A1 H1 N t:=λσ' H' A' g' R=>h _ _ _ (g.trans g') R
theorem Back.back{K:Rv}(h:Back K F A H N r)(g:Gr A H A1 H1):Back K F A1 H1 N r:=λv H' A' g' R=>h v _ _ (g.trans g') (R.back g)
def PS.imp(h:PS X e t)(i:∀E σ H,t' E σ H->t E σ H):PS X e t':=λpins s σ H D I q=>h _ s σ H D I (i D σ H q)
def WH.imp(h:WH X e t)(i:∀E σ H,t' E σ H->t E σ H):WH X e t':=λpins s σ H D I q=>h _ s σ H D I (i D σ H q)
def WM.left(h:WM H (A++F)):WM H A:=λp hp=>h p (Rw _ hp)
def cw:DS:=λt=>Qs (.nx t)
def aB(g1 g2:DS):DS:=λt=>(g1 t).bind λo=>match o with
 |.nx t'=>g2 t'
 |.rt r=>Qs (.rt r)
 |.bk t'=>Qs (.bk t')
 |.ct t'=>Qs (.ct t')
section
variable {X:Cx}{F:Ql ZE}{a b c:ZG}{es:Ql ZG}{fa:DE}{g g1 g2:DS}{ft:DT}{st:ZH}
def cT:WH X [] (dS X.K F cw):=WH.imp Dw λE σ H ⟨A,t,o,R,e,h⟩=>by cases e;exact h σ H A (Gr.refl R.mu.left) R
def aQ(h1:PS X st (dS X.K F g1))(h2:WH X rest (dS X.K F g2)):WH X (st::rest) (dS X.K F (aB g1 g2)):=by
 refine WH.imp (yt h1 h2) ?_;rintro E σ H ⟨A,t,o,R,e,h⟩;refine aA e λo1 e1 e=>?_;refine⟨A,t,o1,R,e1,?_⟩;cases o1 with
 |nx t'=>
  intro σ' H' A' g' R';refine⟨A',t',o,R',e,?_⟩;cases o with
  |nx t2=>exact After.back h g'
  |bk t2=>exact After.back h g'
  |ct t2=>exact After.back h g'
  |rt r=>exact Back.back h g'
 |rt r=>cases e;assumption
 |bk t2=>cases e;assumption
 |ct t2=>cases e;assumption
def aL(h1:PS X st (dS X.K F g1)):WH X [st] (dS X.K F g1):=tT h1
def bO(c:DT)(g1 g2:DS):DS:=λt=>(c t).bind λb=>if b then g1 t else g2 t
def cS(hc:PT X c (dT X.K F ft))(ha:WH X s1 (dS X.K F g1))(hb:WH X s2 (dS X.K F g2)):PS X (.If c s1 s2 pos) (dS X.K F (bO ft g1 g2)):=by
 refine PS.imp (DB hc ha hb) ?_;rintro E σ H ⟨A,t,o,R,e,h⟩;refine aA e λr1 e1 e=>?_;refine⟨A,t,r1,R,e1,λH1 gs=>?_⟩;have gr:=Gr.of_same R.mu.left gs;cases r1 with
 |true=>
  refine⟨A,t,o,R.grow gs,e,?_⟩;cases o with
  |nx t2=>exact After.back h gr
  |bk t2=>exact After.back h gr
  |ct t2=>exact After.back h gr
  |rt r=>exact Back.back h gr
 |false=>
  refine⟨A,t,o,R.grow gs,e,?_⟩;cases o with
  |nx t2=>exact After.back h gr
  |bk t2=>exact After.back h gr
  |ct t2=>exact After.back h gr
  |rt r=>exact Back.back h gr
def bW(f:DE):DS:=λt=>(f t).bind λr=>Qs (.rt r)
def YN.of (m:WM H (A++F))(h:Wt K F A H H' r v):YN K F A H H' r v:=by
 cases r with
 |cl d=>exact Rep.mono (bE _ λa z=>Ru _ z) h
 |tm d=>assumption
 |nw xs=>
  obtain⟨p,vs,rfl,h1,h2,h3⟩:=h;refine⟨p,vs,rfl,.inr h1,λz=>(eP m h1) (Ru _ z),h2,VQ.mono (bE _ λa z=>?_) h3⟩
  grind
 |dn d=>
  obtain⟨B,h1,h2,h3⟩:=h;refine⟨B,h1,λb hb=>⟨.inr (h2 b hb),λz=>eP m (h2 b hb) (Ru _ z)⟩,Wn.mono (bE _ λa z=>?_) h3 λ_ _ _ q=>q⟩
  grind
def bS(ha:PE X a (dE X.K F fa)):PS X (.Return (Qs a) pos) (dS X.K F (bW fa)):=by refine PS.imp (tW ha) ?_;rintro E σ H ⟨A,t,o,R,e,h⟩;refine aA e λr1 e1 e=>?_;cases e;exact⟨A,t,r1,R,e1,λv H' gs q=>h v _ A (Gr.of_same R.mu.left gs) (YN.of R.mu q)⟩
def g8(i:Nat):DS:=λt=>match t[i]? with
 |some (.own xs)=>Qs (.rt (.nw xs))
 |some (.val d)=>Qs (.rt (.cl d))
 |some (.dp d)=>Qs (.rt (.dn d))
 |_=>Qn
def kX(i:Nat) (hN:X.N[i]?=Qs x:=by rfl)(hv:autoParam (dD X.env.scope x) qzA._auto_1)(hd:Xg x:=by decide) (W3:X4 x:=by decide):PS X (.Return (Qs (.Name x pos')) pos) (dS X.K F (g8 i)):=by
 refine PS.imp (tW (dU (i:=i) hN hv hd W3)) ?_;rintro E σ H ⟨A,t,o,R,e,h⟩;unfold g8 at e;split at e
 .rename_i ds q;cases e;obtain⟨p,vs,h1,h2,h3,h4⟩:=R.rel.Yw q;refine⟨_,h1,h _ H A (Gr.refl R.mu.left) ⟨p,vs,rfl,.inl h2,R.dj p h2,h3,VQ.mono (bE H λa z=>?_) h4⟩⟩;rcases RB.mp z with z|z
  .rw[z];exact Rw _ h2
  .exact Ru _ z
 .rename_i d q;cases e;obtain⟨v,h1,h2⟩:=R.rel.zaR q;exact⟨v,h1,h v H A (Gr.refl R.mu.left) (Rep.mono (bE H λa z=>Ru _ z) h2)⟩
 .rename_i d q;cases e;obtain⟨v,B,h1,h2,h0,h3⟩:=R.rel.zeA R.nd q;refine⟨v,h1,h v H A (Gr.refl R.mu.left) ⟨B,h0,λb hb=>⟨.inl (h2 b hb),R.dj b (h2 b hb)⟩,Wn.mono (bE H λa z=>?_) h3 λ_ _ _ q=>q⟩⟩;rcases Ry.mp z with z|z
  .exact Rw _ (h2 a z)
  .exact Ru _ z
 .cases e
end
theorem We.zb5{K:Rv}(h:Rep K H0 d v):∀{t:Th}{σ:L2.St}{A:Ql ZE} (i:Nat),We K H0 H t σ A->i<t.length->∃A',We K H0 H (t.set i (.val d)) (σ.set i (Qs v)) A'/\List.Sublist A' A
 |_,_,_,_,.nil,l=>by simp at l
 |_,_,_,0,.no r,_=>⟨_,.val h r,Sh _⟩
 |_,_,_,0,.val _ r,_=>⟨_,.val h r,Sh _⟩
 |_,_,_,0,.own _ _ r,_=>⟨_,.val h r,TR _ _⟩
 |_,_,_,0,.dp _ r,_=>⟨_,.val h r,T7 _ _⟩
 |_,_,_,i+1,.no r,l=>let ⟨A',a,b⟩:=We.zb5 h i r (by simpa using l);⟨A',.no a,b⟩
 |_,_,_,i+1,.val q r,l=>let ⟨A',a,b⟩:=We.zb5 h i r (by simpa using l);⟨A',.val q a,b⟩
 |_,_,_,i+1,.own q1 q2 r,l=>let ⟨A',a,b⟩:=We.zb5 h i r (by simpa using l);⟨_,.own q1 q2 a,b.cons₂ _⟩
 |_,_,_,i+1,.dp q r,l=>let ⟨A',a,b⟩:=We.zb5 h i r (by simpa using l);⟨_,.dp q a,S4 (Sh _) b⟩
theorem We.zbr{K:Rv}(h:∀{t:Th}{σ:L2.St}{A:Ql ZE},We K H0 H t σ A->We K H0 H (s::t) (Qs v::σ) (B++A)):∀{t:Th}{σ:L2.St}{A:Ql ZE} (i:Nat),We K H0 H t σ A->i<t.length->∃A',We K H0 H (t.set i s) (σ.set i (Qs v)) A'/\(∀x∈A',x∈B\/x∈A)/\(A.Nodup->B.Nodup->(∀b∈B,b∉A)->A'.Nodup)
 |_,_,_,_,.nil,l=>by simp at l
 |_,_,A,0,.no r,_=>⟨_,h r,λx hx=>Ry.mp hx,λn1 n2 d=>RI.mpr ⟨n2,n1,λa ha b hb e=>d a ha (e▸hb)⟩⟩
 |_,_,A,0,.val _ r,_=>⟨_,h r,λx hx=>Ry.mp hx,λn1 n2 d=>RI.mpr ⟨n2,n1,λa ha b hb e=>d a ha (e▸hb)⟩⟩
 |_,_,_,0,.own _ _ r,_=>⟨_,h r,λx hx=>(Ry.mp hx).imp id (Rx _),λn1 n2 d=>RI.mpr ⟨n2,(RQ.mp n1).2,λa ha b hb e=>d a ha (e▸Rx _ hb)⟩⟩
 |_,_,_,0,.dp _ r,_=>⟨_,h r,λx hx=>(Ry.mp hx).imp id (Ru _),λn1 n2 d=>RI.mpr ⟨n2,(RI.mp n1).2.1,λa ha b hb e=>d a ha (e▸Ru _ hb)⟩⟩
 |_,_,_,i+1,.no r,l=>let ⟨A',a,b,c⟩:=We.zbr h i r (by simpa using l);⟨A',.no a,b,c⟩
 |_,_,_,i+1,.val q r,l=>let ⟨A',a,b,c⟩:=We.zbr h i r (by simpa using l);⟨A',.val q a,b,c⟩
 |_,_,_,i+1,.own (p:=p2) q1 q2 r,l=>by
  obtain⟨A',a,b,c⟩:=We.zbr h i r (by simpa using l);refine⟨_,.own q1 q2 a,λx hx=>?_,λnd nb np=>?_⟩
  .grind
  .grind
 |_,_,_,i+1,.dp (B:=C) q r,l=>by
  obtain⟨A',a,b,c⟩:=We.zbr h i r (by simpa using l);refine⟨_,.dp q a,λx hx=>?_,λnd nb np=>?_⟩
  .grind
  .grind
def RS.zfK (R:RS K F H A t σ)(g:VJ H H')(fr:∀b∈B,H b=Qn)(nb:B.Nodup)(lb:WM H' B) (mk:∀{t:Th}{σ:L2.St}{A':Ql ZE},We K (aj (B++(A++F)) H') H' t σ A'->We K (aj (B++(A++F)) H') H' (s::t) (Qs v::σ) (B++A')) (hi:i<t.length):∃A',Gr A H A' H'/\RS K F H' A' (t.set i s) (σ.set i (Qs v)):=by
 have R':=R.grow g;have np:∀b∈B,b∉A++F:=λb hb=>eP R.mu (fr b hb);have r0:We K (aj (B++(A++F)) H') H' t σ A:=We.mono (λb o h=>by
  obtain⟨n,h⟩:=cN h;refine bH (g _ _ h) λz=>?_
  simp_all) R.rel λb _ o h=>g _ _ h
 obtain⟨A',r1,sub,nd⟩:=We.zbr mk i r0 hi;refine⟨A',⟨λb o _ h=>g b o h,λb hb=>by obtain⟨ws,z⟩:=R.mu b (Rw _ hb);rw[g _ _ z];simp,λb hb=>?_⟩,?_,nd R.nd nb λb hb z=>np b hb (Rw _ z),λb hb=>?_,?_⟩
 .grind
 .intro b hb;rcases Ry.mp hb with z|z
  .rcases sub b z with z|z
   .exact lb b z
   .exact R'.mu b (Rw _ z)
  .exact R'.mu b (Ru _ z)
 .rcases sub b hb with z|z
  .simp_all
  .exact R.dj b z
 .refine We.mono (bE _ λb z=>?_) r1 λ_ _ _ h=>h
  grind
def dR(t:Th)(i:Nat)(r:Ev):Qo Th:=if i<t.length then(match r with
 |.cl d=>Qs (t.set i (.val d))
 |.tm d=>if flat d then Qs (t.set i (.val d)) else Qn
 |.nw xs=>Qs (t.set i (.own xs))
 |.dn d=>Qs (t.set i (.dp d))) else Qn
def RS.put (R:RS K F H A t σ)(g:VJ H H')(q:Wt K F A H H' r v)(e:dR t i r=Qs t'):∃A',Gr A H A' H'/\RS K F H' A' t' (σ.set i (Qs v)):=by
 have R':=R.grow g;have val:∀d,Rep K _ d v->i<t.length->∃A',Gr A H _ _/\RS K F _ _ _ _:=λd hd hi=>by
  obtain⟨A',r1,sub⟩:=We.zb5 hd i R'.rel hi;have zdI:∀x∈A',x∈A:=λx hx=>sub.subset hx;refine⟨A',⟨λb o _ h=>g b o h,λb hb=>by obtain⟨vs,z⟩:=R.mu b (Rw _ hb);rw[g _ _ z];simp,λb hb=>.inl (zdI b hb)⟩,?_,R.nd.sublist sub,λp hp=>R.dj p (zdI p hp),?_⟩
  .intro p hp;rcases Ry.mp hp with z|z
   .exact R'.mu p (Rw _ (zdI p z))
   .exact R'.mu p (Ru _ z)
  .refine We.mono (bE _ λa z=>?_) r1 λ_ _ _ h=>h
   grind
 refine cH e λhi e=>?_;cases r with
 |cl d=>cases e;exact val d q hi
 |tm d=>
  simp only at e;split at e
  .rename_i f;cases e;exact val d (Rep.W2 R'.mu f (Rep.mono (aR _ _) q)) hi
  .cases e
 |nw xs=>cases e;obtain⟨p,vs,rfl,h1,h2,h3⟩:=q;exact R.zfK (B:=[p]) g (λb hb=>by simp_all) (by simp) (λb hb=>by simp at hb;subst hb;exact⟨mL _,h2⟩) (λr=>.own h2 h3 r) hi
 |dn d=>cases e;obtain⟨B,h1,h2,h3⟩:=q;exact R.zfK g h2 h1 h3.lists (λr=>.dp h3 r) hi
section
variable {X:Cx}{F:Ql ZE}{a b c:ZG}{es:Ql ZG}{fa:DE}{g g1 g2:DS}{ft:DT}{st:ZH}
def aW(i:Nat)(f:DE):DS:=λt=>(f t).bind λr=>(dR t i r).map Out.nx
def Lg(hN:X.N.Nodup)(hi:X.N[i]?=Qs x)(hx:Loc X.env.scope x)(he:PE X a (dE X.K F fa))(hs:swapsWith a (Qs (.Name x pos')) pos.line X.env=pure Qf:=by rfl)(hf:autoParam (X.fn x=Qt\/X.env.scope.names.lookup x=Qs .local) qzB._auto_1):PS X (.Assign [.Name x pos'] a pos) (dS X.K F (aW i fa)):=by
 refine PS.imp (yz hN hi hx he hs hf) ?_;rintro E σ H ⟨A,t,o,R,e,h⟩;refine aA e λr1 e1 e=>?_;rcases e2:dR t i _ with _|t'
 .rw[e2]at e;cases e
 rw[e2]at e;cases e;refine⟨A,t,r1,R,e1,λv H' gs q=>?_⟩;obtain⟨A',g',R'⟩:=R.put gs q e2;exact h _ _ _ g' R'
end
def cV(K:Rv)(F:Ql ZE)(g:TG)(k:D->Th->Qo Th):Prop:=∀σ H A t t' d x (Q:L2.St->Hp->Prop),RS K F H A t σ->Rep K (aj (A++F) H) d x->k d t=Qs t'->(∀σ2 A2,Gr A H A2 H->RS K F H A2 t' σ2->Q σ2 H)->g x σ H Q
def sr(K:Rv)(F:Ql ZE)(g:lK)(k:Ql D->Th->Qo Th):Prop:=∀σ H A t t' ds xs (Q:L2.St->Hp->Prop),RS K F H A t σ->VQ K (aj (A++F) H) ds xs->k ds t=Qs t'->(∀σ2 A2,Gr A H A2 H->RS K F H A2 t' σ2->Q σ2 H)->g xs σ H Q
def cG(i:Nat):D->Th->Qo Th:=λd t=>dR t i (.cl d)
def gc:Ql D->Th->Qo Th:=λds t=>match ds with
 |[]=>Qs t
 |_=>Qn
def cI(k:D->Th->Qo Th)(k':Ql D->Th->Qo Th):Ql D->Th->Qo Th:=λds t=>match ds with
 |d::r=>(k d t).bind (k' r)
 |[]=>Qn
def bq(n:Nat)(k:Ql D->Th->Qo Th):D->Th->Qo Th:=λd t=>match d with
 |.tup ds=>if ds.length=n then k ds t else Qn
 |_=>Qn
def cQ (i:Nat):cV K F (gf i) (cG i):=by intro σ H A t t' d x Q R r e h;obtain⟨A',g,R'⟩:=R.put (r:=.cl d) (VJ.refl H) r e;exact h _ _ g R'
def sS:sr K F mN gc:=by
 intro σ H A t t' ds xs Q R r e h;cases r with
 |nil=>cases e;exact⟨rfl,h σ A (Gr.refl R.mu.left) R⟩
 |cons _ _=>cases e
def kK (h1:cV K F g k)(h2:sr K F g' k'):sr K F (ja g g') (cI k k'):=by
 intro σ H A t t' ds xs Q R r e h;cases r with
 |nil=>cases e
 |@cons d v ds vs r1 r2=>
  unfold cI at e;cases e1:k d t with
  |none=>simp only[e1]at e;cases e
  |some t1=>simp only[e1]at e;refine⟨v,vs,rfl,h1 σ H A t _ d v _ R r1 e1 λσ2 A2 g2 R2=>?_⟩;exact h2 _ H _ _ _ _ _ Q R2 (VQ.mono g2.same r2) e λσ3 A3 g3 R3=>h _ _ (g2.trans g3) R3
def wM (h2:sr K F g' k'):cV K F (rf K n g') (bq n k'):=by
 intro σ H A t t' d x Q R r e h;unfold bq at e;split at e
 .split at e
  .cases r with
   |@tup _ p vs h1 hr=>exact⟨p,vs,rfl,WG.mono (aR _ _) h1,by rw[hr.length];assumption,h2 σ H A t _ _ _ Q R hr e h⟩
  .cases e
 .cases e
def dY(k:D->Th->Qo Th)(f:DE):DS:=λt=>(f t).bind λr=>if r.ok then(k r.d t).map Out.nx else Qn
section
variable {X:Cx}{F:Ql ZE}{a b c:ZG}{es:Ql ZG}{fa:DE}{g g1 g2:DS}{ft:DT}{st:ZH}{tg:ZG}
def l9(he:PE X a (dE X.K F fa))(hg:PG X tg gt)(ht:cV X.K F gt kt)(hs:swapsWithSole [tg] a pos.line X.env=pure Qf:=by rfl)(hw:swappedStores [tg] a X.env=pure Qn:=by rfl) (h1:(assignEach [tg] X.env).map (·.2)=[assign tg X.env]:=by rfl):PS X (.Assign [tg] a pos) (dS X.K F (dY kt fa)):=by
 refine PS.imp (tX he hg hs hw h1) ?_;rintro E σ H ⟨A,t,o,R,e,h⟩;refine aA e λr1 e1 e=>?_;refine cH e λok e=>?_;rcases e2:kt _ t with _|t'
 .rw[e2]at e;cases e
 rw[e2]at e;cases e;refine⟨A,t,r1,R,e1,λv H' gs q=>?_⟩;exact ht σ _ A t _ _ v _ (R.grow gs) (q.clean R.mu gs ok) e2 λσ2 A2 g2 R2=>h _ _ _ ((Gr.of_same R.mu.left gs).trans g2) R2
def zE(t:Th)(i j:Nat):Ql Ev->Qo Out
 |[r1,r2]=>if r1.ok&&r2.ok then((dR t i (.cl r1.d)).bind λt1=>dR t1 j (.cl r2.d)).map Out.nx else Qn
 |_=>Qn
def jI(i j:Nat)(f:DA):DS:=λt=>(f t).bind (zE t i j)
def yv{kt k2 ZD}(hc:X.calm=Qt)(hN:X.N.Nodup)(hi:X.N[i]?=Qs x)(hj:X.N[j]?=Qs y)(hij:i≠j) (hx:X.env.scope.names.lookup x=Qs .local) (hy:X.env.scope.names.lookup y=Qs .local) (ha:PA X [a,b] (dA X.K F ga)) (hw:swappedStores [.Tuple [.Name x px,.Name y py] kt pt] (.Tuple [a,b] k2 ZD) X.env=pure (Qs [x,y])) (hs:swapsWithSole [.Tuple [.Name x px,.Name y py] kt pt] (.Tuple [a,b] k2 ZD) pos.line X.env=pure Qf:=by rfl):PS X (.Assign [.Tuple [.Name x px,.Name y py] kt pt] (.Tuple [a,b] k2 ZD) pos) (dS X.K F (jI i j ga)):=by
 refine PS.imp (Lq hc hN hi hj hij hx hy ha hw hs) ?_;rintro E σ H ⟨A,t,o,R,e,h⟩;unfold jI at e;rcases e1:ga t with _|rs
 .rw[e1]at e;cases e
 rw[e1]at e;refine⟨A,t,rs,R,e1,λvs H' gs q=>?_⟩;have e:zE t i j _=Qs o:=e;cases q with
 |nil=>cases e
 |@cons r1 _ _ _ q1 q'=>
  cases q' with
  |nil=>cases e
  |@cons r2 _ _ _ q2 q3=>
  cases q3 with
  |cons _ _=>cases e
  |nil=>
   simp only[zE]at e;replace e:=Xz e;obtain⟨ok,e⟩:=e;simp at ok;refine⟨_,_,rfl,?_⟩;rcases e2:dR t i _ with _|t1
   .rw[e2]at e;cases e
   rw[e2]at e;have e:(dR _ j (.cl _)).map _=Qs o:=e;rcases e3:dR _ j _ with _|t2
   .rw[e3]at e;cases e
   rw[e3]at e;cases e;obtain⟨A1,g1,R1⟩:=(R.grow gs).put (r:=.cl _) (VJ.refl _) (q1.clean R.mu gs ok.1) e2;obtain⟨A2,g2,R2⟩:=R1.put (r:=.cl _) (VJ.refl _) (Rep.mono g1.same (q2.clean R.mu gs ok.2)) e3;exact h _ _ _ (((Gr.of_same R.mu.left gs).trans g1).trans g2) R2
end
def bY(k:D->Th->Qo Th)(body:DS):Ql D->Th->Qo Out
 |[],t=>Qs (.nx t)
 |d::ds,t=>(k d t).bind λt1=>(body t1).bind λo=>match o with
  |.nx t'=>bY k body ds t'
  |.ct t'=>bY k body ds t'
  |.bk t'=>Qs (.nx t')
  |.rt r=>Qs (.rt r)
noncomputable def fL(c:DT)(body:DS):Nat->Th->Qo Out
 |0,_=>Qn
 |n+1,t=>(c t).bind λb=>if b then(body t).bind λo=>match o with
  |.nx t'=>fL c body n t'
  |.ct t'=>fL c body n t'
  |.bk t'=>Qs (.nx t')
  |.rt r=>Qs (.rt r) else Qs (.nx t)
def lE(fu:Th->Nat)(c:DT)(body:DS):DS:=λt=>fL c body (fu t) t
def ZT(K:Rv)(F A:Ql ZE)(H:Hp)(E:Ends):Out->Prop
 |.nx t'=>After K F A H E.nx t'
 |.bk t'=>After K F A H E.bk t'
 |.ct t'=>After K F A H E.ct t'
 |.rt r=>Back K F A H E.rt r
theorem ZT.back{K:Rv}(h:ZT K F A H E o)(g:Gr A H A1 H1):ZT K F A1 H1 E o:=by
 cases o with
 |nx t2=>exact After.back h g
 |bk t2=>exact After.back h g
 |ct t2=>exact After.back h g
 |rt r=>exact Back.back h g
def lF (R:RS K F H A t σ)(e:g t=Qs o)(p:ZT K F A H E o):dS K F g E σ H:=⟨A,t,o,R,e,by cases o<;>exact p⟩
def kz (h:dS K F g E σ H):∃A t o,RS K F H A t σ/\g t=Qs o/\ZT K F A H E o:=by obtain⟨A,t,o,R,e,h⟩:=h;exact⟨A,t,o,R,e,by cases o<;>exact h⟩
section
variable {X:Cx}{F:Ql ZE}{a b c:ZG}{es:Ql ZG}{fa:DE}{g g1 g2:DS}{ft:DT}{st:ZH}{tg:ZG}
def tU(m:Th->Nat)(hp:PassesOwn (model X.prog X.w) X.A X.env X.xe)(hc:PT X c (dT X.K F ft))(hb:WH X body (dS X.K F g)):PS X (.While c body [] pos) (dS X.K F (lE m ft g)):=by
 refine PS.imp (Lp hp hc hb) ?_;intro E σ H hh;obtain⟨A,t,o,R,e,h⟩:=kz hh;refine⟨λn σ H=>∃A t o,fL ft g n t=Qs o/\RS X.K F H A t σ/\ZT X.K F A H E o,⟨m t,A,t,o,e,R,h⟩,?_⟩;rintro n σ H ⟨A,t,o,e,R,h⟩;cases n with
 |zero=>cases e
 |succ n=>
  simp only[fL]at e;refine aA e λb e1 e=>?_;refine⟨A,t,b,R,e1,λH1 gs=>?_⟩;have gr:Gr A H A H1:=Gr.of_same R.mu.left gs;cases b with
  |false=>have e:Qs (Out.nx t)=Qs o:=e;cases e;exact mF (h σ H1 A gr (R.grow gs))
  |true=>
   have e:((g t).bind λo=>match o with
    |.nx t'=>fL ft g n t'
    |.ct t'=>fL ft g n t'
    |.bk t'=>Qs (.nx t')
    |.rt r=>Qs (.rt r))=Qs o:=e
   refine mE ⟨λσ' H'=>∃A t o,fL ft g n t=Qs o/\RS X.K F H' A t σ'/\ZT X.K F A H' E o,λσ' H' q=>⟨n,SO n,q⟩,?_⟩;refine aA e λo2 e2 e=>?_;refine lF (R.grow gs) e2 ?_;cases o2 with
   |nx t'=>exact λσ' H' A' g' R'=>⟨A',t',o,e,R',h.back (gr.trans g')⟩
   |ct t'=>exact λσ' H' A' g' R'=>⟨A',t',o,e,R',h.back (gr.trans g')⟩
   |bk t'=>cases e;exact λσ' H' A' g' R'=>h σ' H' A' (gr.trans g') R'
   |rt r=>cases e;exact Back.back h gr
def vl{J:It}(Good:Ql ZE->Hp->Prop)(ht:cV K F gt kt)(R:RS K F H A t σ)(e:bY kt g ds t=Qs o)(h:ZT K F A H E o)(g0:Good A H) (keep:∀A H A' H',Good A H->Gr A H A' H'->Good A' H') (stop:∀A H,Good A H->J.stop ds.length H) (go:∀A H i,Good A H->i<ds.length->J.go i H) (XH:∀A H i x H',Good A H->WM H (A++F)->J.XH i H x H'->i<ds.length->VJ H H'/\∃d,ds[i]?=Qs d/\Rep K (aj (A++F) H') d x):∃W:Nat->Nat->L2.St->Hp->Prop,(∃m,W 0 m σ H)/\∀i m σ H,W i m σ H-> (J.stop i H/\E.nx σ H)\/(J.go i H/\∃N:L2.St->Hp->Prop,(∀σ' H',N σ' H'->∃m',m'<m/\W (i+1) m' σ' H')/\∀x H',J.XH i H x H'->gt x σ H' λσ2 H2=>dS K F g {E with nx:=N,ct:=N,bk:=E.nx} σ2 H2):=by
 refine⟨λi m σ H=>i+m=ds.length/\∃A t o,bY kt g (ds.drop i) t=Qs o/\RS K F H A t σ/\ZT K F A H E o/\Good A H,⟨ds.length,by lia,A,t,o,by simpa using e,R,h,g0⟩,?_⟩;rintro i m σ H ⟨hm,A,t,o,e,R,h,gd⟩;cases m with
 |zero=>
  have z:i=ds.length:=by lia
  subst z;rw[Tr]at e;cases e;exact .inl ⟨stop A H gd,h σ H A (Gr.refl R.mu.left) R⟩
 |succ m=>
  have hi:i<ds.length:=by lia
  refine .inr ⟨go A H i gd hi,λσ' H'=>i+1+m=ds.length/\∃A t o,bY kt g (ds.drop (i+1)) t=Qs o/\RS K F H' A t σ'/\ZT K F A H' E o/\Good A H',λσ' H' q=>⟨m,SO m,q⟩,λx H' y=>?_⟩;obtain⟨gs,d,hd,rd⟩:=XH A H i x H' gd R.mu y hi;have ed:ds.drop i=d::ds.drop (i+1):=by
   have YA:ds[i]=d:=by rw[RH hi]at hd;exact SX hd
   rw[<-YA];exact SM hi
  rw[ed]at e;simp only[bY]at e;refine aA e λt1 e1 e=>?_;refine ht σ H' A t t1 d x _ (R.grow gs) rd e1 λσ2 A2 ZP R2=>?_;have X3:Gr A H A2 H':=(Gr.of_same R.mu.left gs).trans ZP;have e:((g t1).bind λo=>match o with
    |.nx t'=>bY kt g (ds.drop (i+1)) t'
    |.ct t'=>bY kt g (ds.drop (i+1)) t'
    |.bk t'=>Qs (.nx t')
    |.rt r=>Qs (.rt r))=Qs o:=e
  refine aA e λo2 e2 e=>?_;refine lF R2 e2 ?_;cases o2 with
  |nx t'=>exact λσ' H' A' g' R'=>⟨by lia,A',t',o,e,R',h.back (X3.trans g'),keep _ _ _ _ gd (X3.trans g')⟩
  |ct t'=>exact λσ' H' A' g' R'=>⟨by lia,A',t',o,e,R',h.back (X3.trans g'),keep _ _ _ _ gd (X3.trans g')⟩
  |bk t'=>cases e;exact λσ' H' A' g' R'=>h σ' H' A' (X3.trans g') R'
  |rt r=>cases e;exact Back.back h X3
def fH(k:D->Th->Qo Th)(f:DE)(body:DS):DS:=λt=>(f t).bind λr=>match r.d with
 |.lst ds=>if r.ok then bY k body ds t else Qn
 |_=>Qn
def j6(hp:PassesOwn (model X.prog X.w) X.A X.env X.xe)(hc:X.calm=Qt)(hl:PE X a (dE X.K F fa))(hg:PG X tg gt)(ht:cV X.K F gt kt)(hb:WH X body (dS X.K F g)) (hs:∀x,foldedSetIterable a X.env x=pure x:=by intro _;rfl):PS X (.For tg a body [] pos) (dS X.K F (fH kt fa g)):=by
 refine PS.imp (kY hp hc (t8 hl) hg hb hs) ?_;intro E σ H hh;obtain⟨A,t,o,R,e,h⟩:=kz hh;refine aA e λr e1 e=>?_;refine⟨A,t,r,R,e1,λv H1 gs q=>?_⟩;split at e
 case h_2=>cases e
 rename_i ds z;refine cH e λok e=>?_;have cl:=q.clean R.mu gs ok;rw[z]at cl;cases cl with
 |@lst _ p vs h1 h2=>
  refine⟨p,rfl,⟨vs,V5.mono (aR _ _) h1⟩,?_⟩;refine vl (λA H=>V5 _ (aj (A++F) H) p _/\VQ _ (aj (A++F) H) _ _) ht (R.grow gs) e (h.back (Gr.of_same R.mu.left gs)) ⟨h1,h2⟩ (λA H A' H' q gr=>⟨V5.mono gr.same q.1,VQ.mono gr.same q.2⟩) (λA H q=>⟨vs,V5.mono (aR _ _) q.1,by rw[h2.length];simp⟩) (λA H i q hi=>?_) (λA H i x H' q _ y hi=>?_)
  .have hi':i<vs.length:=by rw[h2.length];assumption
   exact⟨vs,_,V5.mono (aR _ _) q.1,RH hi'⟩
  .obtain⟨e1,e2⟩:=y;subst e1;exact⟨VJ.refl _,q.2.YM (e2 vs (V5.mono (aR _ _) q.1))⟩
def fN(lo:Int)(n:Nat):Ql D:=(Si n).map λ(i:Nat)=>D.int (lo+(i:Int))
def eI(i:Int):Bool:=decide (-1000000000000<=i/\i<=1000000000000)
def oT(k:D->Th->Qo Th)(f:DE)(body:DS):DS:=λt=>(f t).bind λr=>match r.d with
 |.int n=>if eI n then bY k body (fN 0 n.toNat) t else Qn
 |_=>Qn
def nV(lo:Int)(n:Nat):(fN lo n).length=n:=by simp[fN]
def Kr (ht:cV K F gt kt)(R:RS K F H A t σ)(e:bY kt g (fN lo n) t=Qs o)(h:ZT K F A H E o):∃W:Nat->Nat->L2.St->Hp->Prop,(∃m,W 0 m σ H)/\∀i m σ H,W i m σ H-> ((lM lo n).stop i H/\E.nx σ H)\/((lM lo n).go i H/\∃N:L2.St->Hp->Prop,(∀σ' H',N σ' H'->∃m',m'<m/\W (i+1) m' σ' H')/\∀x H',(lM lo n).XH i H x H'->gt x σ H' λσ2 H2=>dS K F g {E with nx:=N,ct:=N,bk:=E.nx} σ2 H2):=by
 refine vl (λ_ _=>True) ht R e h trivial (λ_ _ _ _ _ _=>trivial) (λA H _=>?_) (λA H i _ hi=>?_) (λA H i x H' _ _ y hi=>?_)
 .rw[nV];exact RL n
 .rw[nV]at hi;assumption
 .rw[nV]at hi;obtain⟨e1,e2⟩:=y;subst e1;refine⟨VJ.refl _,.int (lo+i),by simp[fN,hi],?_⟩;rw[e2];exact .int _
def Dx{p1 p2:Pos}(hp:PassesOwn (model X.prog X.w) X.A X.env X.xe)(hc:X.calm=Qt)(hgr:Gl X "range")(hm:X.mg "range"=Qn)(ha:PE X a (dE X.K F fa))(hg:PG X tg gt)(ht:cV X.K F gt kt)(hb:WH X body (dS X.K F g)) (WY:RM [a] X.env=[(Qf,eval a X.env)]:=by rfl) (hs:∀x,foldedSetIterable (.Call (.Name "range" p1) [a] [] p2) X.env x=pure x:=by intro _;rfl):PS X (.For tg (.Call (.Name "range" p1) [a] [] p2) body [] pos) (dS X.K F (oT kt fa g)):=by
 refine PS.imp (kY hp hc (yI hgr hm (fG ha gx WY) WY) hg hb hs) ?_;intro E σ H hh;obtain⟨A,t,o,R,e,h⟩:=kz hh;refine aA e λr e1 e=>?_;refine⟨A,t,r,R,e1,λv H1 gs q=>?_⟩;split at e
 case h_2=>cases e
 rename_i n z;refine cH e λok e=>?_;simp only[eI,XT]at ok;have p:=q.full;rw[z]at p;cases cL p;exact⟨n,rfl,by lia,by lia,Kr ht (R.grow gs) e (h.back (Gr.of_same R.mu.left gs))⟩
end
theorem We.upd{K:Rv}(hp:H' p=Qs (.lst ws))(he:VQ K H0 es ws):∀{t:Th}{σ:L2.St}{A:Ql ZE} (i:Nat),We K H0 H t σ A->A.Nodup->t[i]?=Qs (.own ds)->σ[i]?=Qs (Qs (.ref p))-> (∀q∈A,q≠p->H' q=H q)->We K H0 H' (t.set i (.own es)) σ A
 |_,_,_,i,.nil,_,e,_,_=>by simp at e
 |_,_,_,0,.no r,_,e,_,_=>by simp at e
 |_,_,_,0,.val _ r,_,e,_,_=>by simp at e
 |_,_,_,0,.dp _ r,_,e,_,_=>by simp at e
 |_,_,_,i+1,.dp h1 r,nd,e,e2,k=>by
  have n:=RI.mp nd;obtain⟨p3,vs3,a1,a2,_⟩:=We.Yw r (e);have:=by simpa[a1] using e2
  subst this;refine .dp (Wn.mono (VJ.refl _) h1 λq hq o w=>?_) (We.upd hp he i r n.2.1 (e) (e2) λq hq=>k q (Ru _ hq))
  simp_all
 |_,_,_,0,.own _ _ r,nd,e,e2,k=>by
  simp at e2;subst e2;exact .own hp he (We.mono (VJ.refl _) r λq hq o h=>by
   grind)
 |_,_,_,i+1,.no r,nd,e,e2,k=>.no (We.upd hp he i r nd (e) (e2) k)
 |_,_,_,i+1,.val h r,nd,e,e2,k=>.val h (We.upd hp he i r nd (e) (e2) k)
 |_,_,_,i+1,.own (p:=p2) _ h2 r,nd,e,e2,k=>by
  have n:=RQ.mp nd;obtain⟨p3,vs3,a1,a2,_⟩:=We.Yw r (e);have:=by simpa[a1] using e2
  have np:p2≠p3:=λz=>n.1 (z▸a2);refine .own (by simp_all) h2 (We.upd hp he i r n.2 (e) (e2) λq hq=>k q (Rx _ hq))
def RS.write (R:RS K F H A t σ)(e:t[i]?=Qs (.own ds))(e2:σ[i]?=Qs (Qs (.ref p)))(h:VQ K (aj (A++F) H) es ws):RS K F (L2.upd H p (.lst ws)) A (t.set i (.own es)) σ/\Gr A H A (L2.upd H p (.lst ws)):=by
 obtain⟨p',vs,a1,a2,a3,a4⟩:=R.rel.Yw e;have:p'=p:=by lia
 subst this;have hh:VJ (aj (A++F) H) (aj (A++F) (L2.upd H p' (.lst ws))):=λb o q=>by obtain⟨n,q⟩:=cN q;have nb:b≠p':=λz=>n (Rw _ (z▸a2));exact bH (by rw[aY nb];assumption) n
 have mu:WM (L2.upd H p' (.lst ws)) (A++F):=λq hq=>by
  by_cases z:q=p'
  .exact⟨mL _,by rw[z];exact bK⟩
  .obtain⟨us,w⟩:=R.mu q hq;exact⟨us,by rw[aY z];assumption⟩
 refine⟨⟨mu,R.nd,R.dj,We.upd bK (VQ.mono hh h) i (We.mono hh R.rel (H':=H) λ_ _ _ h=>h) R.nd e e2 λq _ n=>aY n⟩,?_⟩;refine⟨λb o n q=>?_,λb hb=>?_,λb hb=>.inl hb⟩
 .rw[aY (λz=>n (by lia))];assumption
 .obtain⟨us,w⟩:=mu b (Rw _ hb);rw[w];simp
def uP(t:Th)(i:Nat)(r:Ev):Qo Out:=match t[i]? with
 |some (.own xs)=>if r.ok&&decide (xs.length<100000) then Qs (.nx (t.set i (.own (xs++[r.d])))) else Qn
 |_=>Qn
def iS(i:Nat)(f:DE):DS:=λt=>(f t).bind (uP t i)
section
variable {X:Cx}{F:Ql ZE}{a b c:ZG}{es:Ql ZG}{fa:DE}{g g1 g2:DS}{ft:DT}{st:ZH}{tg:ZG}
def tV(i:Nat){p0:Pos}(he:PE X a (dE X.K F fa))(hN:X.N[i]?=Qs x:=by rfl)(hv:autoParam (dD X.env.scope x) qzA._auto_1)(hd:Xg x:=by decide) (W3:X4 x:=by decide) (WY:RM [a] X.env=[(Qf,eval a X.env)]:=by rfl) (zaq:attributeBase (.Name x p0) "append" X.env (eval (.Name x p0) X.env)=eval (.Name x p0) X.env:=by rfl) (zao:((TV W5 (RM [a] X.env)).all (λx=>!x.1)&&(backToKw W5 (keywordEach [] X.env)).all (λx=>x.1.isSome)
   && decide ([a].length+([]:Ql Vz).length+(if([]:Ql Vz).isEmpty then 0 else 1)<30))=Qt:=by rfl) (zam:(apos.endLine==W5.line)=Qt:=by rfl) (zaJ:(TV W5 (RM [] X.env)).any (·.1)=Qf:=by rfl) (X8:swapsWith (.Call (.Attribute (.Name x p0) "append" apos) [a] [] W5) Qn pos.line X.env=pure Qf:=by rfl):PS X (.Expr (.Call (.Attribute (.Name x p0) "append" apos) [a] [] W5) pos) (dS X.K F (iS i fa)):=by
 refine PS.imp (n6 (ue TN Ti TH pX (dU (i:=i) hN hv hd W3) (fG he gx WY) zaq zao zam WY zaJ) X8) ?_;rintro E σ H ⟨A,t,o,R,e,h⟩;unfold iS at e;refine aA e λr e1 e=>?_;have e:uP t i r=Qs o:=e;unfold uP at e;split at e
 case h_2=>cases e
 rename_i xs z;refine cH e λok e=>?_;simp only[RJ,XT]at ok;cases e;obtain⟨p,vs,a1,a2,a3,a4⟩:=R.rel.Yw z;refine⟨_,a1,.inl ⟨rfl,vs,V5.of a3⟩,A,t,r,R,e1,λy H1 gs q=>⟨p,vs,y,rfl,rfl,gs _ _ a3,?_,?_⟩⟩
 .have:vs.length<100000:=by rw[a4.length];exact ok.2
  exact RO this (by decide)
 .obtain⟨R',g'⟩:=(R.grow gs).write z a1 ((VQ.mono (cD gs) a4).app (VQ.one (q.clean R.mu gs ok.1)));exact h _ _ _ ((Gr.of_same R.mu.left gs).trans g') R'
def ao:Ev->Ev->Qo Ev:=λr1 r2=>match r1.d,r2.d with
 |.lst ds,.int i=>(W7 ds i).map λd=>if r1.ok||flat d then .cl d else .tm d
 |.tup ds,.int i=>(W7 ds i).map λd=>if r1.ok||flat d then .cl d else .tm d
 |_,_=>Qn
theorem VQ.W7{K:Rv}(r:VQ K H ds vs)(e:L2.W7 ds i=Qs d):∃v,L2.W7 vs i=Qs v/\Rep K H d v:=by
 unfold L2.W7 at e ⊢;rw[r.length];cases e1:XD _ i with
 |none=>rw[e1]at e;cases e
 |some j=>rw[e1]at e;exact r.get e
def aS(ha:PE X a (dE X.K F fa))(hb:PE X b (dE X.K F fb))(hs:o5 b:=by intro _ _;rfl):PE X (.Subscript a b pos) (dE X.K F (d2 ao fa fb)):=by
 refine PE.imp (pS (zck.or uS) ha hb hs) ?_;intro σ H Q h;obtain⟨A,t,r1,r2,r,R,e1,e2,e,h,w⟩:=two h;refine⟨A,t,r1,R,e1,λx H1 XR q1=>⟨A,t,r2,R.grow XR,e2,λy H2 Wz q2=>?_⟩⟩;have q1:=q1.mono Wz;have gs:=XR.trans Wz;have p2:=q2.full;have m2:=R.mu.mono gs;have key:∀(P:Ql ZE),Rep X.K (aj P H2) r1.d x->(∀d v,Rep X.K (aj P H2) d v->Wt X.K F A H H2 (if r1.ok||flat d then Ev.cl d else Ev.tm d) v)->pN X.K x y H2 Q\/tO X.K x y H2 Q:=λP hP fin=>by
  unfold ao at e;split at e
  .rename_i ds i z1 z2;rw[z2]at p2;cases cL p2;rw[z1]at hP;cases hP with
   |@lst _ p vs h1 h2=>
    rcases e4:W7 _ i with _|d
    .rw[e4]at e;cases e
    rw[e4]at e;have e:(if r1.ok||flat d then Ev.cl d else Ev.tm d)=r:=by simpa using e
    obtain⟨v,e5,rv⟩:=VQ.W7 h2 e4;exact .inl ⟨p,vs,i,v,rfl,rfl,V5.mono (aR _ _) h1,e5,h v _ gs (e▸fin d v rv)⟩
  .rename_i ds i z1 z2;rw[z2]at p2;cases cL p2;rw[z1]at hP;cases hP with
   |@tup _ p vs h1 h2=>
    rcases e4:W7 _ i with _|d
    .rw[e4]at e;cases e
    rw[e4]at e;have e:(if r1.ok||flat d then Ev.cl d else Ev.tm d)=r:=by simpa using e
    obtain⟨v,e5,rv⟩:=VQ.W7 h2 e4;exact .inr ⟨p,vs,i,v,rfl,rfl,WG.mono (aR _ _) h1,e5,h v _ gs (e▸fin d v rv)⟩
  .cases e
 by_cases c:r1.ok=Qt
 .refine key _ (q1.clean R.mu gs c) λd v rv=>?_;rw[c,UB];assumption
 .refine key F (q1.Ze R.mu) λd v rv=>?_;have c:=by simpa using c
  rw[c];split
  .rename_i f;exact Rep.W2 m2 f (Rep.mono (aR _ _) rv)
  assumption
def lB:Ev->Ev->Qo Ev:=λr1 r2=>match r1.d,r2.d with
 |.lst ds,.lst es=>if(r1.ok||Wv ds)&&(r2.ok||Wv es)&&decide (ds.length+es.length<=100000) then Qs (.nw (ds++es)) else Qn
 |_,_=>Qn
def Wt.items (m:WM H (A++F))(gs:VJ H H')(q:Wt K F A H H' r v)(z:r.d=.lst ds)(c:(r.ok||Wv ds)=Qt):∃p vs,v=.ref p/\V5 K H' p vs/\VQ K (aj (A++F) H') ds vs:=by
 rcases US _ _▸c with c|c
 .have w:=q.clean m gs c;rw[z]at w;cases w with
  |@lst _ p vs h1 h2=>exact⟨p,vs,rfl,V5.mono (aR _ _) h1,h2⟩
 .have w:=q.full;rw[z]at w;cases w with
  |@lst _ p vs h1 h2=>exact⟨p,vs,rfl,h1,VQ.W2 (m.mono gs) c h2⟩
def QC{l b:ZE}{vs ws:Ql R8}(hl:PlainL s.heap l vs.toArray)(hb:PlainL s.heap b ws.toArray)
  (h:Q (.ref s.heap.objs.size) { s with heap:=s.heap.push { cls:=.type "list",data:=.seq (vs++ws).toArray } }) (hsz:vs.length+ws.length<=Sf) :wpAny (model prog w) A (binaryOp .Add (.ref l) (.ref b)) Q E s:=by
 obtain⟨⟨cls,dd,data,sl⟩,n,ho,hc,hdd,hd⟩:=id hl;obtain⟨⟨zha,dd2,data2,sl2⟩,n2,Zs,hc2,znv,hd2⟩:=id hb;subst hc hd hc2 hd2;have e:vs.toArray++ws.toArray=(vs++ws).toArray:=by simp
 refine concat_meets ⟨_,ho,rfl⟩ ⟨_,Zs,rfl⟩ noFill_list_add seq_list_add PySem.F.slot_list_add PySem.F.entry_list_add (PySem.F.args_list_add_2 _ _) (list_addW l b _ _ n _ _ _ _ _ (hsz)) ⟨ho,Zs,?_⟩;rw[e];assumption
def gI:Xx X F (binaryOp .Add) lB:=by
 intro pins s σ H0 H A x y v u Q r1 r2 r I m g0 rx ry q1 q2 e hq;unfold lB at e;split at e
 case h_2=>cases e
 rename_i ds Xf z1 z2;refine cH e λc e=>?_;simp only[RJ,XT]at c;cases e;obtain⟨p,vs,rfl,h1,h2⟩:=q1.items m g0 z1 c.1.1;obtain⟨p',ws,rfl,Yf,Xi⟩:=q2.items m g0 z2 c.1.2;cases rx;cases ry;obtain⟨VU,w1,w2,w3⟩:=I.list h1;obtain⟨XF,XU,Ys,w3'⟩:=I.list Yf;have l1:=h2.length;have l2:=Xi.length;have l3:=w1.length;have l4:=XU.length;have hz:vs.length+ws.length<=Sf:=ZZ (by lia);refine QC w2 Ys ⟨.ref _,_,I.zd7 (w1.append XU) (by rw[SD];assumption),rfl,?_⟩ (by lia);refine hq _ _ (dZ I.fresh) ⟨_,_,rfl,VJ.free g0 I.fresh,bK,VQ.mono (kh I.fresh) (h2.app Xi)⟩
mutual
noncomputable def cP:D->D->Bool
 |.Wj,e=>(match e with|.Wj=>Qt|_=>Qf)
 |.bl a,e=>(match e with|.bl b=>decide (a=b)|_=>Qf)
 |.int a,e=>(match e with|.int b=>decide (a=b)|_=>Qf)
 |.str a,e=>(match e with|.str b=>decide (a=b)|_=>Qf)
 |.tup a,e=>(match e with|.tup b=>ZR a b|_=>Qf)
 |.lst a,e=>(match e with|.lst b=>ZR a b|_=>Qf)
 |.WR ks a,e=>(match e with|.WR ks' b=>decide (ks=ks')&&ZR a b|_=>Qf)
 |.Xy a,e=>(match e with|.Xy b=>decide (a=b)|_=>Qf)
 |.Ym a,e=>(match e with|.Ym b=>decide (a=b)|_=>Qf)
 |.adr a,e=>(match e with|.adr b=>decide (a=b)|_=>Qf)
 |.WB a,e=>(match e with|.WB b=>decide (a=b)|_=>Qf)
 |.obj C ks a,e=>(match e with|.obj C' ks' b=>decide (C=C')&&(decide (ks=ks')&&ZR a b)|_=>Qf)
noncomputable def ZR:List D->List D->Bool
 |[],e=>(match e with|[]=>Qt|_=>Qf)
 |a::as,e=>(match e with|b::bs=>cP a b&&ZR as bs|_=>Qf)
end
def bz(d:D):Bool:=match d with
 |.Wj=>Qt
 |.bl _=>Qt
 |.int _=>Qt
 |.str _=>Qt
 |_=>Qf
noncomputable def D7(d e:D):Bool:=match d with
 |.bl _=>(match e with|.int _=>Qf|.str _=>Qf|_=>Qt)
 |.int _=>(match e with|.bl _=>Qf|_=>Qt)
 |.str _=>(match e with|.bl _=>Qf|_=>Qt)
 |_=>Qt
@[simp] def okS (d e:D):Bool:=bz d&&(bz e&&D7 d e)
def bZ:Nat->D->D->Bool
 |0,d,e=>okS d e
 |n+1,d,e=>(match d with
  |.tup xs=>(match e with|.tup ys=>(xs.zip ys).all λp=>bZ n p.1 p.2|_=>Qf)
  |.lst xs=>(match e with|.lst ys=>(xs.zip ys).all λp=>bZ n p.1 p.2|_=>Qf)
  |d=>okS d e)
def iX{P:D->Prop}(s:bz d=Qt)(a:P .Wj)(b:∀x,P (.bl x))(c:∀x,P (.int x))(f:∀x,P (.str x)):P d:=by
 cases d with
 |Wj=>assumption
 |bl x=>exact b x
 |int x=>exact c x
 |str x=>exact f x
 |_=>exact absurd (s) RD
def dV:D->V
 |.bl b=>.bl b
 |.int i=>.int i
 |.str x=>.str x
 |_=>.Wj
def vD:V->D
 |.bl b=>.bl b
 |.int i=>.int i
 |.str x=>.str x
 |_=>.Wj
def iQ (s:bz d=Qt)(r:Rep K H d v):v=dV d:=by cases r<;>first|rfl|exact absurd (s) RD
def nI(s:bz d=Qt):vD (dV d)=d:=iX (P:=λd=>vD _=d) s rfl (λ_=>rfl) (λ_=>rfl) λ_=>rfl
inductive Okv(n:Nat)(d e:D):Prop
 |sc (a:bz d=Qt) (b:bz e=Qt)
 |tp (m:Nat) (xs ys:List D) (h:n=m+1) (a:d=.tup xs) (b:e=.tup ys) (k:((xs.zip ys).all λp=>bZ m p.1 p.2)=Qt)
 |ls (m:Nat) (xs ys:List D) (h:n=m+1) (a:d=.lst xs) (b:e=.lst ys) (k:((xs.zip ys).all λp=>bZ m p.1 p.2)=Qt)
def ug(h:okS d e=Qt):bz d=Qt/\bz e=Qt:=⟨(RX.mp h).1,(RX.mp (RX.mp h).2).1⟩
def om(ok:bZ n d e=Qt):Okv n d e:=by
 cases n with
 |zero=>exact .sc (ug ok).1 (ug ok).2
 |succ m=>
  cases d with
  |tup xs=>
   cases e with
   |tup ys=>exact .tp m _ _ rfl rfl rfl ok
   |_=>exact absurd (ok) RD
  |lst xs=>
   cases e with
   |lst ys=>exact .ls m _ _ rfl rfl rfl ok
   |_=>exact absurd (ok) RD
  |_=>exact .sc (ug ok).1 (ug ok).2
inductive zl4(K:Rv)(H:Hp)(xs:List D)(v:V):Prop
 |mk (p:ZE) (vs:List V) (a:v=.ref p) (b:WG K H p vs) (c:VQ K H xs vs)
inductive zl6(K:Rv)(H:Hp)(xs:List D)(v:V):Prop
 |mk (p:ZE) (vs:List V) (a:v=.ref p) (b:V5 K H p vs) (c:VQ K H xs vs)
def Rep.zac (r:Rep K H (.tup xs) v):zl4 K H xs v:=by
 cases r with
 |tup a b=>exact⟨_,_,rfl,a,b⟩
def Rep.zai (r:Rep K H (.lst xs) v):zl6 K H xs v:=by
 cases r with
 |lst a b=>exact⟨_,_,rfl,a,b⟩
def Qi{σ:L2.St}(I:Inv X pins σ H s)(h:H p=Qs (.dK Wg)):∃o,s.heap.get? p=Qs o/\o.cls=.type "dict":=by obtain⟨_,_,vs,_,m⟩:Wg.length<=Sf/\(p==sysModules)=Qf/\∃vs,KV _ _/\s.heap.DictOf _ p _:=I.Wk p _ h;exact m.typeIs
def Mn{σ:L2.St}(I:Inv X pins σ H s)(h:H p=Qs (.dT Wg)):∃o,s.heap.get? p=Qs o/\o.cls=.type "dict":=by obtain⟨_,_,xs,_,o,es,ep,h1,h2,_⟩:=((I.Wk p _ h));exact⟨o,h1,h2.1⟩
def P5{σ:L2.St}(I:Inv X pins σ H s)(h:H p=Qs (.XS o' (.dT Wg))):∃o,s.heap.get? p=Qs o/\o.cls=.type "dict":=by obtain⟨_,_,_,xs,_,o,es,ep,h1,h2,_⟩:=((I.Wk p _ h));exact⟨o,h1,h2.1⟩
theorem yh(h:∀(d e:D) (v:V),bZ n d e=Qt->Rep X.K H d v->Rep X.K H e v->d=e):∀{ds es:Ql D}{vs:Ql V},((ds.zip es).all λp=>bZ n p.1 p.2)=Qt->VQ X.K H ds vs->VQ X.K H es vs->ds=es
 |_,_,_,_,.nil,.nil=>rfl
 |_,_,_,ok,.cons a r,.cons b q=>by simp only[Sx,SK,RJ]at ok;rw[h _ _ _ ok.1 a b,yh h ok.2 r q]
def Rep.inj{σ:L2.St}(I:Inv X pins σ H s):∀(n:Nat) (d e:D) (v:V),bZ n d e=Qt->Rep X.K H d v->Rep X.K H e v->d=e:=by
 intro n
 induction n with
 |zero=>
  intro d e v ok r q;cases om ok with
  |sc a b=>rw[<-nI a,<-nI b,<-iQ a r,<-iQ b q]
  |tp _ _ _ h=>cases h
  |ls _ _ _ h=>cases h
 |succ n ih=>
  intro d e v ok r q;cases om ok with
  |sc a b=>rw[<-nI a,<-nI b,<-iQ a r,<-iQ b q]
  |tp m xs ys h a b k=>cases h;subst a b;obtain⟨p,vs,rfl,h1,r1⟩:=r.zac;obtain⟨p',XO,z,h2,r2⟩:=q.zac;cases z;have ev:=I.zfl h1 h2;subst ev;rw[yh ih k r1 r2]
  |ls m xs ys h a b k=>cases h;subst a b;obtain⟨p,vs,rfl,h1,r1⟩:=r.zai;obtain⟨p',XO,z,h2,r2⟩:=q.zai;cases z;have ev:=I.zci h1 h2;subst ev;rw[yh ih k r1 r2]
mutual
theorem G0:∀{a b:D},cP a b=Qt->a=b
 |.Wj,b=>by cases b<;>intro h<;>first|rfl|exact absurd (h) RD
 |.bl x,b=>by cases b<;>intro h<;>first|exact congrArg _ (of_decide_eq_true h)|exact absurd (h) RD
 |.int x,b=>by cases b<;>intro h<;>first|exact congrArg _ (of_decide_eq_true h)|exact absurd (h) RD
 |.str x,b=>by cases b<;>intro h<;>first|exact congrArg _ (of_decide_eq_true h)|exact absurd (h) RD
 |.Xy x,b=>by cases b<;>intro h<;>first|exact congrArg _ (of_decide_eq_true h)|exact absurd (h) RD
 |.Ym x,b=>by cases b<;>intro h<;>first|exact congrArg _ (of_decide_eq_true h)|exact absurd (h) RD
 |.adr x,b=>by cases b<;>intro h<;>first|exact congrArg _ (of_decide_eq_true h)|exact absurd (h) RD
 |.WB x,b=>by cases b<;>intro h<;>first|exact congrArg _ (of_decide_eq_true h)|exact absurd (h) RD
 |.tup xs,b=>by cases b<;>intro h<;>first|exact congrArg _ (zbP h)|exact absurd (h) RD
 |.lst xs,b=>by cases b<;>intro h<;>first|exact congrArg _ (zbP h)|exact absurd (h) RD
 |.WR ks xs,b=>by cases b<;>intro h<;>first|(rw[of_decide_eq_true (RX.mp h).1,zbP (RX.mp h).2])|exact absurd (h) RD
 |.obj C ks xs,b=>by cases b<;>intro h<;>first|(rw[of_decide_eq_true (RX.mp h).1,of_decide_eq_true (RX.mp (RX.mp h).2).1,zbP (RX.mp (RX.mp h).2).2])|exact absurd (h) RD
theorem zbP:∀{a b:List D},ZR a b=Qt->a=b
 |[],b=>by cases b<;>intro h<;>first|rfl|exact absurd (h) RD
 |x::xs,b=>by cases b<;>intro h<;>first|(rw[G0 (RX.mp h).1,zbP (RX.mp h).2])|exact absurd (h) RD
end
mutual
theorem GZ:∀a:D,cP a a=Qt
 |.Wj=>rfl
 |.bl _=>Ww rfl
 |.int _=>Ww rfl
 |.str _=>Ww rfl
 |.Xy _=>Ww rfl
 |.Ym _=>Ww rfl
 |.adr _=>Ww rfl
 |.WB _=>Ww rfl
 |.tup xs=>zbO xs
 |.lst xs=>zbO xs
 |.WR _ xs=>RX.mpr ⟨Ww rfl,zbO xs⟩
 |.obj _ _ xs=>RX.mpr ⟨Ww rfl,RX.mpr ⟨Ww rfl,zbO xs⟩⟩
theorem zbO:∀a:List D,ZR a a=Qt
 |[]=>rfl
 |x::xs=>RX.mpr ⟨GZ x,zbO xs⟩
end
def Qc{a b:D}:cP a b=Qt↔a=b:=⟨G0,λe=>e▸GZ a⟩
def zlf{a b:Ql D}:ZR a b=Qt↔a=b:=⟨zbP,λe=>e▸zbO a⟩
def Zt{a b:D}:cP a b=Qt↔a=b:=Qc
def zds{a b:D}:cP a b=Qf↔¬a=b:=by rw[<-Zt];simp
def kr(xs ys:Ql D)(j:Nat):Bool:=match xs[j]?,ys[j]? with
 |some a,Qs b=>cP a b
 |_,_=>Qt
end
def PlainL.XY(p:PlainL h a VU):h.IsList a VU:=by obtain⟨o,n,e,c,_,d⟩:=p;exact⟨o,e,c,n,d⟩
section
variable {X:Cx}{F:Ql ZE}{a b c:ZG}{es:Ql ZG}{fa:DE}{g g1 g2:DS}{ft:DT}{st:ZH}{tg:ZG}
def Aq (r:Rep K H d v)(q:Rep K H e u)(s1:bz d=Qt)(s2:bz e=Qt)(ok:bZ n d e=Qt):eA v=Qt/\eA u=Qt/\g7 v u=cP d e:=by
 rw[iQ s1 r,iQ s2 q];revert s2 ok;refine iX (P:=λd=>bz e=Qt->bZ n d e=Qt->eA _=Qt/\eA _=Qt/\g7 _ _=cP d e) s1 ?_ ?_ ?_ ?_
 .exact λs2 _=>iX (P:=λe=>eA _=Qt/\eA _=Qt/\g7 _ _=cP _ e) s2 ⟨rfl,rfl,rfl⟩ (λ_=>⟨rfl,rfl,rfl⟩) (λ_=>⟨rfl,rfl,rfl⟩) λ_=>⟨rfl,rfl,rfl⟩
 .exact λx s2=>iX (P:=λe=>bZ n _ e=Qt->eA _=Qt/\eA _=Qt/\g7 _ _=cP _ e) s2 (λ_=>⟨rfl,rfl,rfl⟩) (λ_ _=>⟨rfl,rfl,rfl⟩) (λ_ z=>absurd ((by cases n<;>exact z)) RD) λ_ _=>⟨rfl,rfl,rfl⟩
 .exact λx s2=>iX (P:=λe=>bZ n _ e=Qt->eA _=Qt/\eA _=Qt/\g7 _ _=cP _ e) s2 (λ_=>⟨rfl,rfl,rfl⟩) (λ_ z=>absurd ((by cases n<;>exact z)) RD) (λ_ _=>⟨rfl,rfl,rfl⟩) λ_ _=>⟨rfl,rfl,rfl⟩
 .exact λx s2 _=>iX (P:=λe=>eA _=Qt/\eA _=Qt/\g7 _ _=cP _ e) s2 ⟨rfl,rfl,rfl⟩ (λ_=>⟨rfl,rfl,rfl⟩) (λ_=>⟨rfl,rfl,rfl⟩) λ_=>⟨rfl,rfl,rfl⟩
def vV(h:xs.length=ys.length):(Si xs.length).all (kr xs ys)=cP (.lst xs) (.lst ys):=by
 rw[Vs,Zt,SW];constructor
 .intro hh;congr 1;apply Vg h;intro i h1 h2;have:=hh i (Tg.mpr h1);simp only[kr,RH h1,RH h2]at this;exact Zt.mp this
 .intro hh i hi;injection hh with hh
  subst hh;simp only[kr];split
  .rename_i a b z1 z2;rw[z1]at z2;cases z2;exact Zt.mpr rfl
  .rfl
def Bv:((Si (min xs.length ys.length)).all (kr xs ys)&&xs.length==ys.length)=cP (.tup xs) (.tup ys):=by
 by_cases h:xs.length=ys.length
 .have e:min xs.length ys.length=xs.length:=by lia
  rw[e,vV h,beq_iff_eq.mpr h,Vh];rfl
 .have e:(xs.length==ys.length)=Qf:=by lia
  rw[e,Bool.and_false];symm;rw[zds];lia
def BU{xs ys:Ql D}(h:((xs.zip ys).all λp=>bZ n p.1 p.2)=Qt){j:Nat}(hx:xs[j]?=Qs x)(hy:ys[j]?=Qs y):bZ n x y=Qt:=by rw[SW]at h;refine h (x,y) (UA (i:=j) ?_);rw[List.getElem?_zip_eq_some];exact⟨hx,hy⟩
def Vals.getL(h:Vals vs us)(hj:j<us.toArray.size):∃v,vs[j]?=Qs v/\RelV v us.toArray[j]:=by
 have hj':j<vs.length:=by rw[h.length];assumption
 obtain⟨u,e,r⟩:=Vals.get h (RH hj');refine⟨_,RH hj',?_⟩;have:us.toArray[j]=u:=by
  have hj2:=hj
  simp_all
 rw[this];assumption
def iz (w:Vals vs VU)(h:VQ K H xs vs):VU.toArray.size=xs.length:=by rw[R9,<-w.length,h.length]
def y8(h:¬xs.length=ys.length):cP (.lst xs) (.lst ys)=Qf:=zds.mpr λz=>h (by lia)
def Qe{σ:L2.St}(I:Inv X pins σ H s):∀(n:Nat) (A:Ua) (d e:D) (v u:V) (y z:R8),A.units+n<cLine->bZ n d e=Qt->Rep X.K H d v->Rep X.K H e u->RelV v y->RelV u z->SeqAt.EqAt A s y z (cP d e):=by
 intro n
 induction n with
 |zero=>
  intro A d e v u y z hu ok r q ry rz;cases om ok with
  |sc s1 s2=>obtain⟨f1,f2,ee⟩:=Aq r q s1 s2 ok;rw[<-ee];exact Au ry rz f1 f2
  |tp _ _ _ h=>cases h
  |ls _ _ _ h=>cases h
 |succ n ih=>
  intro A d e v u y z hu ok r q ry rz;have hu':A.in1.units+n<cLine:=Sr (by lia) hu;have ZJ:=Sr (Vi _ _) hu;have itm:∀{xs ys:Ql D}{vs ws:Ql V}{VU XF:Ql _},((xs.zip _).all _)=Qt->VQ _ H _ _->VQ _ H _ _->Vals vs VU->Vals ws _->∀j g1 (g2:j<XF.toArray.size),SeqAt.EqAt _ s _ _ (kr xs ys j):=λk h2 Xi w1 XU j g1 g2=>by obtain⟨v1,a1,a2⟩:=Vals.getL w1 g1;obtain⟨v2,b1,b2⟩:=Vals.getL XU g2;obtain⟨x1,c1,c2⟩:=h2.YM a1;obtain⟨x2,d1,d2⟩:=Xi.YM b1;unfold kr;rw[c1,d1];exact(ih A.in1 x1 x2 v1 v2 _ _ hu' (BU k c1 d1) c2 d2 a2 b2)
  cases om ok with
  |sc s1 s2=>obtain⟨f1,f2,ee⟩:=Aq r q s1 s2 ok;rw[<-ee];exact Au ry rz f1 f2
  |tp m xs ys h a b k=>
   cases h;subst a b;by_cases z:v=u
   .subst z;rw[Zt.mpr (Rep.inj I _ _ _ _ ok r q)];obtain⟨p,vs,rfl,_,_⟩:=r.zac;cases ry;cases rz;exact SeqAt.EqAt.same _
   .obtain⟨p,vs,rfl,h1,h2⟩:=r.zac;obtain⟨p',ws,rfl,Yf,Xi⟩:=q.zac;cases ry;cases rz;obtain⟨VU,w1,w2,_⟩:=I.tuple h1;obtain⟨XF,XU,Ys,_⟩:=I.tuple Yf;refine SeqAt.EqAt.of_refs (λy=>z (by rw[y])) ?_;have k:=SeqAt.RcAt.tuples w2 Ys ZJ (itm k h2 Xi w1 XU);rw[iz w1 h2,iz XU Xi,Bv]at k;assumption
  |ls m xs ys h a b k=>
   cases h;subst a b;by_cases z:v=u
   .subst z;rw[Zt.mpr (Rep.inj I _ _ _ _ ok r q)];obtain⟨p,vs,rfl,_,_⟩:=r.zai;cases ry;cases rz;exact SeqAt.EqAt.same _
   .obtain⟨p,vs,rfl,h1,h2⟩:=r.zai;obtain⟨p',ws,rfl,Yf,Xi⟩:=q.zai;cases ry;cases rz;obtain⟨VU,w1,w2,_⟩:=I.list h1;obtain⟨XF,XU,Ys,_⟩:=I.list Yf;refine SeqAt.EqAt.of_refs (λy=>z (by rw[y])) ?_;have l1:=iz w1 h2;have l2:=iz XU Xi;by_cases hl:xs.length=ys.length
    .have k:=SeqAt.RcAt.lists (PlainL.XY w2) (PlainL.XY Ys) (by lia) ZJ (itm k h2 Xi w1 XU);rw[l1,vV hl]at k;assumption
    .rw[y8 hl];exact SeqAt.RcAt.lists_lengths (PlainL.XY w2) (PlainL.XY Ys) (by lia) ZJ
def tu{σ:L2.St}(I:Inv X pins σ H s){A:Ua}(hu:A.units+n+1<cLine)(ok:((xs.zip ys).all λp=>bZ n p.1 p.2)=Qt) (h2:VQ X.K H xs vs) (Xi:VQ X.K H ys ws) (w1:Vals vs VU) (XU:Vals ws XF):∀j (g1:j<VU.toArray.size) (g2:j<XF.toArray.size),SeqAt.EqAt A.in1 s VU.toArray[j] XF.toArray[j] (kr xs ys j):=λj g1 g2=>by
 obtain⟨v1,a1,a2⟩:=Vals.getL w1 g1;obtain⟨v2,b1,b2⟩:=Vals.getL XU g2;obtain⟨x1,c1,c2⟩:=h2.YM a1;obtain⟨x2,d1,d2⟩:=Xi.YM b1;have:=Qe I n A.in1 _ _ _ _ _ _ (by lia) (BU ok c1 d1) c2 d2 a2 b2;have ee:kr xs ys j=cP x1 x2:=by simp only[kr,c1,d1]
 rw[ee];assumption
def ez:Ev->Ev->Qo Ev:=λr1 r2=>if bZ 6 r1.d r2.d then Qs (.cl (.bl (cP r1.d r2.d))) else Qn
def bV:Ev->Ev->Qo Ev:=λr1 r2=>if bZ 6 r1.d r2.d then Qs (.cl (.bl (!cP r1.d r2.d))) else Qn
def CJ (r:Rep K H d v)(q:Rep K H e u)(s1:bz d=Qt)(s2:bz e=Qt)(ok:bZ n d e=Qt):kP v u=Qt/\decide (v=u)=cP d e:=by
 refine⟨?_,?_⟩
 .rw[iQ s1 r,iQ s2 q];revert s2 ok;refine iX (P:=λd=>bz e=Qt->bZ n d e=Qt->kP _ _=Qt) s1 ?_ ?_ ?_ ?_
  .exact λs2 _=>iX (P:=λe=>kP V.Wj _=Qt) s2 rfl (λ_=>rfl) (λ_=>rfl) λ_=>rfl
  .exact λx s2=>iX (P:=λe=>bZ n _ e=Qt->kP _ _=Qt) s2 (λ_=>rfl) (λ_ _=>rfl) (λ_ z=>absurd ((by cases n<;>exact z)) RD) λ_ _=>rfl
  .exact λx s2=>iX (P:=λe=>bZ n _ e=Qt->kP _ _=Qt) s2 (λ_=>rfl) (λ_ z=>absurd ((by cases n<;>exact z)) RD) (λ_ _=>rfl) λ_ _=>rfl
  .exact λx s2=>iX (P:=λe=>bZ n _ e=Qt->kP _ _=Qt) s2 (λ_=>rfl) (λ_ z=>absurd ((by cases n<;>exact z)) RD) (λ_ _=>rfl) λ_ _=>rfl
 .rw[Vs,Zt];refine decide_eq_true_iff.trans ⟨λz=>?_,λz=>?_⟩
  .rw[<-nI s1,<-nI s2,<-iQ s1 r,<-iQ s2 q,z]
  .rw[iQ s1 r,iQ s2 q,z]
def jx(hu:X.A.units+64<cLine):Xx X F (compareOp .Eq) ez:=by
 intro pins s σ H0 H A x y v u Q r1 r2 r I m g0 rx ry q1 q2 e hq;refine cH e λok e=>?_;cases e;have p1:=q1.full;have p2:=q2.full;have ZJ:=Sr (Vi _ _) hu;have hu5:=Sr (VA (by decide:6<=64) _) hu;cases om ok with
 |sc s1 s2=>obtain⟨a1,a2⟩:=CJ p1 p2 s1 s2 ok;exact MD _ s σ H x y v u Q I rx ry ⟨a1,by rw[a2];exact hq _ H (VJ.refl H) (.bl _)⟩
 |tp m' xs ys h a b k=>cases h;rw[a]at p1 hq;rw[b]at p2 hq;obtain⟨p,vs,rfl,h1,h2⟩:=p1.zac;obtain⟨p',ws,rfl,Yf,Xi⟩:=p2.zac;cases rx;cases ry;obtain⟨VU,w1,w2,_⟩:=I.tuple h1;obtain⟨XF,XU,Ys,_⟩:=I.tuple Yf;refine SeqAt.eq_tupleAt w2 Ys ZJ (tu I hu5 k h2 Xi w1 XU) ?_;rw[iz w1 h2,iz XU Xi,Bv];exact⟨.bl _,H,I,rfl,hq _ H (VJ.refl H) (.bl _)⟩
 |ls m' xs ys h a b k=>
  cases h;rw[a]at p1 hq;rw[b]at p2 hq;obtain⟨p,vs,rfl,h1,h2⟩:=p1.zai;obtain⟨p',ws,rfl,Yf,Xi⟩:=p2.zai;cases rx;cases ry;obtain⟨VU,w1,w2,_⟩:=I.list h1;obtain⟨XF,XU,Ys,_⟩:=I.list Yf;have l1:=iz w1 h2;have l2:=iz XU Xi;by_cases hl:xs.length=ys.length
  .refine SeqAt.eq_listAt (PlainL.XY w2) (PlainL.XY Ys) (by lia) ZJ (tu I hu5 k h2 Xi w1 XU) ?_;rw[l1,vV hl];exact⟨.bl _,H,I,rfl,hq _ H (VJ.refl H) (.bl _)⟩
  .rw[y8 hl]at hq;exact SeqAt.eq_list_lengthsAt (PlainL.XY w2) (PlainL.XY Ys) (by lia) ZJ ⟨.bl _,H,I,rfl,hq _ H (VJ.refl H) (.bl _)⟩
def fq(hu:X.A.units+64<cLine):Xx X F (compareOp .NotEq) bV:=by
 intro pins s σ H0 H A x y v u Q r1 r2 r I m g0 rx ry q1 q2 e hq;refine cH e λok e=>?_;cases e;have p1:=q1.full;have p2:=q2.full;have ZJ:=Sr (Vi _ _) hu;have hu5:=Sr (VA (by decide:6<=64) _) hu;cases om ok with
 |sc s1 s2=>obtain⟨a1,a2⟩:=CJ p1 p2 s1 s2 ok;exact Mw _ s σ H x y v u Q I rx ry ⟨a1,by rw[a2];exact hq _ H (VJ.refl H) (.bl _)⟩
 |tp m' xs ys h a b k=>cases h;rw[a]at p1 hq;rw[b]at p2 hq;obtain⟨p,vs,rfl,h1,h2⟩:=p1.zac;obtain⟨p',ws,rfl,Yf,Xi⟩:=p2.zac;cases rx;cases ry;obtain⟨VU,w1,w2,_⟩:=I.tuple h1;obtain⟨XF,XU,Ys,_⟩:=I.tuple Yf;have k:=SeqAt.RcNeAt.tuples w2 Ys ZJ (tu I hu5 k h2 Xi w1 XU);rw[iz w1 h2,iz XU Xi,Bv]at k;exact k _ _ _ _ ⟨.bl _,H,I,rfl,hq _ H (VJ.refl H) (.bl _)⟩
 |ls m' xs ys h a b k=>
  cases h;rw[a]at p1 hq;rw[b]at p2 hq;obtain⟨p,vs,rfl,h1,h2⟩:=p1.zai;obtain⟨p',ws,rfl,Yf,Xi⟩:=p2.zai;cases rx;cases ry;obtain⟨VU,w1,w2,_⟩:=I.list h1;obtain⟨XF,XU,Ys,_⟩:=I.list Yf;have l1:=iz w1 h2;have l2:=iz XU Xi;by_cases hl:xs.length=ys.length
  .have k:=SeqAt.RcNeAt.lists (PlainL.XY w2) (PlainL.XY Ys) (by lia) ZJ (tu I hu5 k h2 Xi w1 XU);rw[l1,vV hl]at k;exact k _ _ _ _ ⟨.bl _,H,I,rfl,hq _ H (VJ.refl H) (.bl _)⟩
  .rw[y8 hl]at hq;exact SeqAt.RcNeAt.lists_lengths (PlainL.XY w2) (PlainL.XY Ys) (by lia) ZJ _ _ _ _ ⟨.bl _,H,I,rfl,hq _ H (VJ.refl H) (.bl _)⟩
noncomputable def wG:D->String
 |.Wj=> "NoneType"
 |.bl _=> "bool"
 |.int _=> "int"
 |.str _=> "str"
 |.tup _=> "tuple"
 |.lst _=> "list"
 |.WR _ _=> "dict"
 |.Xy _=> "dict"
 |.Ym _=> "dict"
 |.adr _=> "NoneType"
 |.WB _=> "NoneType"
 |.obj _ _ _=> "NoneType"
def zK(d:D)(T:String):Bool:=wG d==T||(wG d== "bool"&&T== "int")
def FK:D->Bool
 |.adr _=>Qt
 |.WB _=>Qt
 |.obj _ _ _=>Qt
 |_=>Qf
def iR(T:String)(f:DE):DE:=λt=>(f t).bind λr=>if FK r.d then Qn else Qs (.cl (.bl (zK r.d T)))
def sD(K:Rv)(T:String):Prop:=∀d:D,PySem.W.kitOne K (.type (wG d)) (.type T)=Qs (zK d T)
def me{p p2:Pos}(ok:sD X.K T)(ha:PE X a (dE X.K F fa))(hg:Gl X "isinstance")(hm:X.mg "isinstance"=Qn)(hgT:Gl X x)(hmT:X.mg x=Qn)(hvT:bootBuiltins x=Qs (.type T))(hnT:x≠"__name__":=by decide)(hdT:Xg x:=by decide) (he:RM (a::[Expr.Name x p2]) X.env=(Qf,eval a X.env)::RM [.Name x p2] X.env:=by rfl) (he2:RM [Expr.Name x p2] X.env=[(Qf,eval (.Name x p2) X.env)]:=by rfl) (XX:(TV pos (RM [Expr.Name x p2] X.env)).any (·.1)=Qf:=by rfl):PE X (.Call (.Name "isinstance" p) [a,.Name x p2] [] pos) (dE X.K F (iR T fa)):=by
 have rule:gj X (.builtin "isinstance") (λxs H Q=>∃v d,xs=[v,.ty T]/\FK d=Qf/\Rep X.K H d v/\Q (.bl (zK d T)) H):=by
  intro pins s σ H xs us Q I r h;obtain⟨v,d,rfl,na,rp,hq⟩:=h;obtain⟨u,w',rfl,r1,r2⟩:=wF r;cases(r2);have fin:∀tk,EP X _ σ Q _ _:=λtk=>⟨.bl _,H,I.tok tk,rfl,hq⟩;have e:=ok d;cases rp with
  |Wj=>cases(r1);exact To PySem.W.kitx_none I.WZ True.intro e (λz=>nomatch z) fin
  |bl y=>cases(r1);exact To PySem.W.kitx_bool I.WZ True.intro e (λz=>nomatch z) fin
  |int i=>obtain⟨t,q⟩:=(r1);cases q;exact To PySem.W.kitx_int I.WZ True.intro e (λz=>nomatch z) fin
  |str y=>obtain⟨t,q⟩:=(r1);cases q;exact To PySem.W.kitx_str I.WZ True.intro e (λz=>nomatch z) fin
  |@tup _ p _ h1 h2=>cases(r1);obtain⟨VU,_,⟨o,e1,c1,_⟩,_⟩:=I.tuple h1;exact To PySem.W.kitx_tuple I.WZ ⟨o,e1,c1⟩ e (λz=>nomatch z) fin
  |@lst _ p _ h1 h2=>cases(r1);obtain⟨VU,_,⟨o,n,e1,c1,_⟩,_⟩:=I.list h1;exact To PySem.W.kitx_list I.WZ ⟨o,e1,c1⟩ e (λz=>nomatch z) fin
  |@WR _ _ p _ _ h1 h2=>cases(r1);exact To U8 I.WZ (Qi I h1) e (λz=>nomatch z) fin
  |@Xy _ p h1=>cases(r1);exact To U8 I.WZ (Mn I h1) e (λz=>nomatch z) fin
  |@Ym _ p _ h1=>cases(r1);exact To U8 I.WZ (P5 I h1) e (λz=>nomatch z) fin
  |adr _=>cases na
  |WB _=>cases na
  |obj _ _ _=>cases na
 refine PE.imp (Mi rule hg hm boot_isinstance (fG ha (fG (Mj (v:=.ty T) hgT hmT hvT rfl hnT hdT) gx he2) he) (by decide) (‹_›) he XX) ?_;rintro σ H Q ⟨A,t,r,R,e,h⟩;unfold iR at e;rcases e1:fa t with _|r1
 .rw[e1]at e;cases e
 rw[e1]at e;simp only[RF]at e;split at e
 case isTrue=>cases e
 cases e;exact⟨A,t,r1,R,e1,λv H' gs q=>⟨v,r1.d,rfl,by lia,q.full,h _ _ gs (.bl _)⟩⟩
end
def pG(N:Ql Str)(ds:Ql D):Th:=ds.map Sl.val++RT (N.length-ds.length) Sl.no
theorem We.zc9{K:Rv}:∀n,We K H0 H (RT n Sl.no) (RT n Qn) []
 |0=>.nil
 |n+1=>.no (We.zc9 n)
theorem We.start{K:Rv}(r0:We K H0 H t σ []):∀{ds:Ql D}{vs:Ql V},VQ K H0 ds vs->We K H0 H (ds.map Sl.val++t) (vs.map Qs++σ) []
 |_,_,.nil=>r0
 |_,_,.cons h r=>.val h (We.start r0 r)
def iq:Out->Qo Ev
 |.rt r=>Qs r
 |.nx _=>Qs (.cl .Wj)
 |_=>Qn
def PB{st:ZH}(Fn:L2.Wy K x qual st f fd)(S:WJ N ps (aN st)) (hlen:∀ds r,G ds=Qs r->ds.length=ps.length) (g:DS) (hG:∀ds r,G ds=Qs r->∃o,g (pG N ds)=Qs o/\iq o=Qs r) (ZM:∀(Wu:R8) (A:Ua) (outer:Ql Env) (s:R7) (H:Hp) (E:XK) (F:Ql ZE),Xa k (A.deeper (envOfC qual (aN st) s.heap.objs.size f Wu))->WH (iT dk P w K mg base N qual (aN st) f Wu A outer s H E).ZI (eE st) (dS K F g)):XC P w K mg base dk (k+1) f fd ps (ZW K G):=by
 refine Fn.ok S (λvs H Q E h=>?_) (λWu A outer s H vs Q E hr h=>?_)
 .obtain⟨Fo,ds,r,_,hr,hg,_⟩:=h;rw[hr.length];exact hlen _ r hg
 .obtain⟨Fo,ds,r,hl,hr',hg,cont⟩:=h;obtain⟨o,ho,hoe⟩:=hG ds r hg;refine⟨_,ZM Wu A outer s H E Fo hr,lF (A:=[]) (t:=pG N ds) ⟨hl,Sv,λp hp=>(by cases hp),?_⟩ ho ?_⟩
  .unfold pG L2.start;rw[hr'.length];exact We.start (We.zc9 _) hr'
  .have sm:∀{A' H'},Gr [] H A' _->VJ H H':=λg b o q=>g.kp b o (by simp) q;cases o with
   |nx t'=>cases hoe;exact λσ' H' A' g' R'=>cont _ _ (sm g') .Wj
   |bk t'=>cases hoe
   |ct t'=>cases hoe
   |rt r'=>
    cases hoe;intro v H' A' g' q;refine cont v _ (sm g') ?_;cases r with
    |cl d=>assumption
    |tm d=>assumption
    |nw xs=>
     obtain⟨p,XO,rfl,h1,h2,h3,h4⟩:=q;rcases h1 with h1|h1
     .cases h1
     .exact⟨p,XO,rfl,h1,h3,h4⟩
    |dn d=>obtain⟨B,h1,h2,h3⟩:=q;exact⟨B,h1,λb hb=>by simp_all,h3⟩
structure Xk(P:Te)(w:UX)(K:Rv)(mg:Str->Option R8)(base:Yp)(x:Str)(k:Nat)(G:List D->Option Ev):Prop where
 ex:∃(a:ZE) (fd:Ud) (ps:List Str),mg x=Qs (.ref a)/\S0 K (.ref a)=Qt/\L2.Binds K fd ps []/\XC P w K mg base dk k a fd ps (ZW K G)
section
variable {X:Cx}{F:Ql ZE}{a b c:ZG}{es:Ql ZG}{fa:DE}
def cC{p:Pos}(c:Xk X.prog X.w X.K X.mg X.base x k G)(hr:Xa k X.A)(ha:PA X (a::es) (dA X.K F ga))(hg:Gl X x:=by rfl)(Yv:Xg x:=by decide) (he:RM (a::es) X.env=(Qf,eval a X.env)::RM es X.env:=by rfl) (XX:(TV pos (RM es X.env)).any (·.1)=Qf:=by rfl):PE X (.Call (.Name x p) (a::es) [] pos) (dE X.K F (ag (aH G) ga)):=by obtain⟨f,fd,ps,h1,h2,h3,h4⟩:=c.ex;exact L9 h4 hr hg h1 h2 h3 ha Yv he XX
end
structure Df(K:Rv)(mg:Str->Option R8)(x:Str)(st:ZH)(ps:List Str)(a:ZE)(fd:Ud):Prop where
 fn:L2.Wy K x x st a fd
 mgx:mg x=Qs (.ref a)
 bd:L2.Binds K fd ps []
def Df.Xr{st:ZH}(d:Df K mg x st ps a fd)(h:XC P w K mg base dk k a fd ps (ZW K G)):Xk P w K mg base x k G:=⟨a,fd,ps,d.mgx,d.fn.kp,d.bd,h⟩
def OS:sD K "int":=λd=>by cases d<;>rfl
def OT:sD K "bool":=λd=>by cases d<;>rfl
def FH:sD K "tuple":=λd=>by cases d<;>rfl
def zJ:sD K "list":=λd=>by cases d<;>rfl
def QP:bootBuiltins "int"=Qs (.type "int"):=by rfl
def QR:bootBuiltins "bool"=Qs (.type "bool"):=rfl
def HH:bootBuiltins "tuple"=Qs (.type "tuple"):=rfl
def jO:bootBuiltins "list"=Qs (.type "list"):=rfl
def HI:bootBuiltins "abs"=Qs (.builtin "abs"):=by rfl
def gL:∀{us:Ql R8},us.length=n+1->∃a t,us=a::t/\t.length=n
 |a::t,h=>⟨a,t,rfl,Nat.succ.inj h⟩
def Bg{st:ZH}(F:L2.Wy K x qual st f fd)(h:∀(kV doc pm:R8) (an:Qo ZE) (Wu ct:R8),∀a0:R8,bindArgs (SV x qual (gK st) (eE st) (aN st) .none kV doc pm an Wu ct) ⟨[a0],[]⟩=pure [(p0,a0)]):Binds K fd [p0] []:=F.binds λkV doc pm an Wu ct u0 h0=>by
  obtain⟨a0,u1,rfl,h1⟩:=gL h0
  simp_all
def sh{st:ZH}(F:L2.Wy K x qual st f fd)(h:∀(kV doc pm:R8) (an:Qo ZE) (Wu ct:R8),∀a0 a1:R8,bindArgs (SV x qual (gK st) (eE st) (aN st) .none kV doc pm an Wu ct) ⟨[a0,a1],[]⟩=pure [(p0,a0),(p1,a1)]):Binds K fd [p0,p1] []:=F.binds λkV doc pm an Wu ct u0 h0=>by
  obtain⟨a0,u1,rfl,h1⟩:=gL h0;obtain⟨a1,u2,rfl,h2⟩:=gL h1
  simp_all
def vP{st:ZH}(F:L2.Wy K x qual st f fd)(h:∀(kV doc pm:R8) (an:Qo ZE) (Wu ct:R8),∀a0 a1 a2:R8,bindArgs (SV x qual (gK st) (eE st) (aN st) .none kV doc pm an Wu ct) ⟨[a0,a1,a2],[]⟩=pure [(p0,a0),(p1,a1),(p2,a2)]):Binds K fd [p0,p1,p2] []:=F.binds λkV doc pm an Wu ct u0 h0=>by
  obtain⟨a0,u1,rfl,h1⟩:=gL h0;obtain⟨a1,u2,rfl,h2⟩:=gL h1;obtain⟨a2,u3,rfl,h3⟩:=gL h2
  simp_all
def Bf{st:ZH}(F:L2.Wy K x qual st f fd)(h:∀(kV doc pm:R8) (an:Qo ZE) (Wu ct:R8),∀a0 a1 a2 a3:R8,bindArgs (SV x qual (gK st) (eE st) (aN st) .none kV doc pm an Wu ct) ⟨[a0,a1,a2,a3],[]⟩=pure [(p0,a0),(p1,a1),(p2,a2),(p3,a3)]):Binds K fd [p0,p1,p2,p3] []:=F.binds λkV doc pm an Wu ct u0 h0=>by
  obtain⟨a0,u1,rfl,h1⟩:=gL h0;obtain⟨a1,u2,rfl,h2⟩:=gL h1;obtain⟨a2,u3,rfl,h3⟩:=gL h2;obtain⟨a3,u4,rfl,h4⟩:=gL h3
  simp_all
def QZ{st:ZH}(F:L2.Wy K x qual st f fd)(h:∀(kV doc pm:R8) (an:Qo ZE) (Wu ct:R8),∀a0 a1 a2 a3 a4:R8,bindArgs (SV x qual (gK st) (eE st) (aN st) .none kV doc pm an Wu ct) ⟨[a0,a1,a2,a3,a4],[]⟩=pure [(p0,a0),(p1,a1),(p2,a2),(p3,a3),(p4,a4)]):Binds K fd [p0,p1,p2,p3,p4] []:=F.binds λkV doc pm an Wu ct u0 h0=>by
  obtain⟨a0,u1,rfl,h1⟩:=gL h0;obtain⟨a1,u2,rfl,h2⟩:=gL h1;obtain⟨a2,u3,rfl,h3⟩:=gL h2;obtain⟨a3,u4,rfl,h4⟩:=gL h3;obtain⟨a4,u5,rfl,h5⟩:=gL h4
  simp_all
inductive Hv(K:Rv)(x:Str)(st:ZH)(f:ZE):Prop
 |mk {od an:Option ZE}{sl:Array (Option R8)}{oc kV dc pm cd ct:R8} (a:SQ K mainGlobals x=Qs (Qs (.ref f))) (l:K.lookup f=Qs ⟨oc,od,.func (SV x x (gK st) (eE st) (aN st) .none kV dc pm an cd ct),sl⟩) (c:Uw K cd x=Qt) (k:S0 K (.ref f)=Qt):Hv K x st f
def Hv.fn{st:ZH}(h:Hv K x st f):∃fd,L2.Wy K x x st f fd:=by
 cases h with
 |mk a l c k=>exact⟨_,GJ l c k⟩
theorem Hv.mg{K:Rv}{st:ZH}{mg:Str->Qo R8}(h:Hv K x st f)(X:K.In hp)(G:hp.Ns mainGlobals mg):mg x=Qs (.ref f):=by
 cases h with
 |mk a l c k=>exact WK X G a
def Kd(h1:sc.kind=.function)(h2:sc.isCoroutine=Qf)(h3:sc.isGenerator=Qf)(h5:N.take P.length=P)(h:(decide N.Nodup&&(decide (∀x∈P,sc.names.lookup x=Qs .local\/sc.names.lookup x=Qs .cell)&&decide (∀y∈sc.names,y.2≠.free)))=Qt):WJ N P sc:=by rw[RJ,RJ,XT,XT,XT]at h;exact⟨h1,h2,h3,h.1,h5,h.2.1,h.2.2⟩
def Hv.bt{st:ZH}(F:L2.Wy K x x st f fd)(h:∀(kV doc pm:R8) (an:Qo ZE) (Wu ct:R8) (v:R8),bindArgs (SV x x (gK st) (eE st) (aN st) .none kV doc pm an Wu ct) ⟨[v],[]⟩=pure [(p,v)])(s:R7)(v:R8):BindsTo s fd ⟨[v],[]⟩ [(p,v)]:=by obtain⟨oc,od,kV,doc,pm,an,Wu,ct,osl,rfl,lk,W3⟩:=F.ex;exact .of_eq (h ..)
def Fg(sc:XW)(x:Str):Bool:=match sc.names.lookup x with
 |some .local=>Qt
 |some .cell=>Qt
 |_=>Qf
def jA(h:Fg sc x=Qt):L2.Loc sc x:=by
 unfold Fg at h;unfold L2.Loc;cases e:sc.names.lookup x with
 |none=>rw[e]at h;cases h
 |some k=>rw[e]at h;cases k<;>first|exact .inl rfl|exact .inr rfl|cases h
end DL
namespace L2
open PySem.Spec
section
variable {X:Cx}{pins:Ql (ZE×Obj)}{σ:L2.St}{s:R7}{h':ZF}
def Inv.zfj{fp:Ql ZE}{a:ZE}(I:Inv X pins σ H s)(k:∀b u,b∉fp->s.heap.get? b=Qs u->h'.get? b=Qs u)(hf:∀b∈fp,fJ X pins H b)(hp:s.heap.objs.size<=a)
  (new:Yc X.prog X.w (upd H a o) h' a o):Inv X pins σ (upd H a o) { s with heap:=h',toks:=t' }:=by
 have ha:H a=Qn:=I.Wk.fresh hp;have sm:∀b u,H b=Qs u->upd H a o b=Qs u:=λb u e=>by rw[aY (λz=>by lia)];assumption
 have nfp:∀b u,H b=Qs u->b∉fp:=λb u e z=>by rw[(hf b z).1]at e;cases e
 refine I.step (g':=s.gens) (d':=s.drawn) (ch:=fp) (λb hb=>?_) (λb u _ _ hc e _=>k b u hc e) (λb u _ _ hc e _=>⟨u.slots,k b u hc e⟩) (λb u _ e n=>?_)
  (λb u hc e=>⟨u,k b u hc e⟩) (λb xs e=>sm b _ e) (λb q u e=>sm b _ e) (λb ps e=>sm b _ e) (λm hm=>?_) (λb u e=>?_) I.bare
 .obtain⟨f0,f1,f2,f3,f4,f5⟩:=hf b hb;exact⟨f3,f1,f4,f5⟩
 .rw[aY (So (RO (RN e) hp))];assumption
 .obtain⟨q,es,ep,ho,r⟩:=hm;exact⟨q,es,ep,k _ q (λz=>(hf _ z).2.1 rfl) ho,r⟩
 .by_cases z:b=a
  .subst z;rw[bK]at e;lia
  .rw[aY z]at e;refine(I.Wk b u e).YQ (λc v hc q=>k c v ?_ q) (λc q=>sm c _ q) (λc xs q=>sm c _ q) λc o u q=>sm c _ q
   grind
def Inv.zfk{fp:Ql ZE}(I:Inv X pins σ H s)(k:∀b u,b∉fp->s.heap.get? b=Qs u->h'.get? b=Qs u)(hf:∀b∈fp,fJ X pins H b):Inv X pins σ H {s with heap:=h',toks:=t'}:=by
 have nfp:∀b u,H b=Qs u->b∉fp:=λb u e z=>by rw[(hf b z).1]at e;cases e
 refine I.step (g':=s.gens) (d':=s.drawn) (ch:=fp) (λb hb=>?_) (λb u _ _ hc e _=>k b u hc e) (λb u _ _ hc e _=>⟨u.slots,k b u hc e⟩) (λb u _ e n=>n) (λb u hc e=>⟨u,k b u hc e⟩) (λb xs e=>e) (λb q u e=>e) (λb ps e=>e) (λm hm=>?_) (λb u e=>?_) I.bare
 .obtain⟨f0,f1,f2,f3,f4,f5⟩:=hf b hb;exact⟨f3,f1,f4,f5⟩
 .obtain⟨q,es,ep,ho,r⟩:=hm;exact⟨q,es,ep,k _ q (λz=>(hf _ z).2.1 rfl) ho,r⟩
 .refine(I.Wk b u e).YQ (λc v hc q=>k c v ?_ q) (λc q=>q) (λc xs q=>q) λc o u q=>q
  grind
end
def vZ(K:Rv)(a:ZE):It:=⟨λi H=>∃xs x,V5 K H a xs/\xs[i]?=Qs x,λi H x H'=>∃p v,H p=Qn/\x=.ref p/\H'=upd H p (.tup [.int i,v])/\∀xs,V5 K H a xs->xs[i]?=Qs v,λi H=>∃xs,V5 K H a xs/\xs.length<=i⟩
def Ro(e it a:ZE)(i:Nat)(h:ZF):Prop:=(∃old,IsEnum h e it (i:Int) old)/\h.IsListIter it a i/\e≠it
def IZ (a e it:ZE):Turn P w K (.Tuple elts k pos) (vZ K a) [e,it] e (Ro e it a) where
 mem:=by simp
 obj:=λi h st b hb=>by
  obtain⟨⟨old,h1⟩,h2,_⟩:=st;rcases(by simpa using hb:b=e\/b=it) with rfl | rfl
  .simp_all
  .obtain⟨o,e1,c,d⟩:=h2
   simp_all
 keep:=λi h h' st kk=>by obtain⟨⟨old,h1⟩,h2,ne⟩:=st;exact⟨⟨old,kk e (by simp) _ h1⟩,h2.at λo q=>kk _ (by simp) o q,ne⟩
 item:=by
  intro X hP hw hK hc i pins s σ H E I hf st hg;subst hP hw hK;obtain⟨xs,x,hq,hx⟩:=hg;obtain⟨VU,rv,p,hz⟩:=I.list hq;obtain⟨u,hu,ru⟩:=rv.get hx;obtain⟨⟨old,h1⟩,h2,ne⟩:=st;refine wpAny_pyNext_enum_item h1 h2 p.isList (x:=u) (by simpa using hu) ne λYf heo zjI ht1 hz1 hk1=>?_;refine⟨_,rfl,wpAny_letOwnedTupleGo_enum heo λXi he2 Zr=>?_⟩;replace Zr:Heap.SameBut e Yf Xi:=Zr;have es:e<s.heap.objs.size:=RN h1;have kp:∀b o,b∉[e,it]->s.heap.get? b=Qs o->Xi.get? b=Qs o:=λb o nb q=>by have n1:b≠e:=λz=>nb (by simp[z]);exact(Zr.2 b n1).trans (hk1 b o n1 (λz=>nb (by simp[z])) q)
  have ht2:Xi.get? s.heap.objs.size=Qs { cls:=.type "tuple",data:=.seq #[.int i s.toks,u] }:=(Zr.2 _ (Uh es)).trans ht1;have I2:Inv X pins σ (upd H s.heap.objs.size (.tup [.int i,x])) { s with heap:=Xi,toks:=s.toks+1 }:=I.zfj (t':=s.toks+1) kp hf (RL _)
   ⟨by show 2<=Sf;decide,[.int i s.toks,u],.cons ⟨_,rfl⟩ (.cons ru .nil),⟨_,ht2,rfl,_,rfl⟩⟩
  refine⟨.ref s.heap.objs.size,_,I2,rfl,⟨s.heap.objs.size,x,I.Wk.fresh (RL _),rfl,rfl,λys hy=>by rw[I.zci hy hq];assumption⟩,⟨⟨u,?_⟩,?_,ne⟩,λb hb=>?_⟩
  .assumption
  .exact zjI.extBut Zr.extBut (Ne.symm ne)
  .rw[aY (λz=>?_)]
   .exact(hf b hb).1
   .rcases(by simpa using hb:b=e\/b=it) with w' |w'
    .lia
    .obtain⟨o,e1,_⟩:=h2;have:=RN e1;lia
 done:=by intro X hP hw hK hc i pins s σ H E I hf st hg;subst hP hw hK;obtain⟨xs,hq,hx⟩:=hg;obtain⟨VU,rv,p,hz⟩:=I.list hq;obtain⟨⟨old,h1⟩,h2,ne⟩:=st;have hl:=rv.length;refine wpAny_pyNext_enum_end (I.ok.hd hc) h1 h2 p.isList (by simp;lia) λh' eb=>⟨rfl,I.zfk (λb o nb q=>eb b o (λz=>nb (by simp[z])) q) hf⟩
 self:=λ_ _ _ _ _ st h=>by obtain⟨⟨old,h1⟩,_,_⟩:=st;exact wpAny_pyIter_enum h1 h
def Pe(K:Rv)(tl:TE):TI:=λσ H R=>tl σ H λx H1=>∃a,x=.ref a/\(∃xs,V5 K H1 a xs)/\R (vZ K a) H1
def QQ:bootBuiltins "enumerate"=Qs (.type "enumerate"):=by rfl
def DR(hg:Gl X "enumerate")(hm:X.mg "enumerate"=Qn)(hl:PE X l tl)(hs:RM [l] X.env=[(Qf,eval l X.env)]:=by rfl):PI X (.Tuple elts k tp) (.Call (.Name "enumerate" p) [l] [] pos) (Pe X.K tl):=by
 intro pins s σ H R I h;refine Call_ (jB I hg hm QQ (PyProof.Rows.callWith_type1 (aF ((fG hl gx hs) _ _ s σ H (λvs H1=>match vs with|[x]=>∃a,x=.ref a/\(∃xs,V5 _ H1 a xs)/\R (vZ _ a) H1|_=>False) I h) λus s1 ⟨vs,H1,I1,r1,q1⟩=>?_) hs rfl));cases r1 with
 |nil=>exact q1.elim
 |@cons x u xr ur ru rr=>
  cases rr with
  |cons _ _=>exact q1.elim
  |nil=>
  obtain⟨a,rfl,⟨xs,hq⟩,q⟩:=q1;cases ru;obtain⟨VU,rv,p,hz⟩:=I1.list hq;refine call_enumerate_list p.isList λh' he hit hz' hk=>?_;refine wpAny_pyIter_enum he ?_;refine⟨_,_,_,_,H1,rfl,(I1.kept (t':=s1.toks) hk),IZ a _ _,⟨⟨_,he⟩,hit,Nat.succ_ne_self _⟩,λb hb=>?_,q⟩;rcases(by simpa using hb) with rfl|rfl
  .exact I1.zau (VE _) (I1.Wk.fresh (VE _))
  .exact I1.zau (RL _) (I1.Wk.fresh (RL _))
end L2
namespace DL
open PySem.Spec L2
def fz(i:Nat):Ql D->Ql D
 |[]=>[]
 |d::ds=>.tup [.int i,d]::fz (i+1) ds
theorem mR:∀(i:Nat) (ds:Ql D),(fz i ds).length=ds.length
 |_,[]=>rfl
 |i,d::ds=>by simp[fz,mR _ _]
theorem Av:∀(i:Nat) (ds:Ql D) (j:Nat) (d:D),ds[j]?=Qs d->(fz i ds)[j]?=Qs (.tup [.int ((i+j:Nat):Int),d])
 |_,[],j,d,h=>by simp at h
 |i,e::ds,0,d,h=>by simp at h;subst h;rfl
 |i,e::ds,j+1,d,h=>by have:=Av (i+1) _ j d (h);simp only[fz,TQ,this];rw[show i+1+j=i+(j+1) by lia]
def oW(k:D->Th->Qo Th)(f:DE)(body:DS):DS:=λt=>(f t).bind λr=>match r.d with
 |.lst ds=>if r.ok then bY k body (fz 0 ds) t else Qn
 |_=>Qn
section
variable {X:Cx}{F:Ql ZE}{a b c:ZG}{es:Ql ZG}{fa:DE}{g g1 g2:DS}
def yy{p1 p2:Pos}(hp:PassesOwn (model X.prog X.w) X.A X.env X.xe)(hc:X.calm=Qt)(hge:Gl X "enumerate")(hm:X.mg "enumerate"=Qn)(hl:PE X a (dE X.K F fa))(hg:PG X (.Tuple elts kk tp) gt)(ht:cV X.K F gt kt)(hb:WH X body (dS X.K F g)) (WY:RM [a] X.env=[(Qf,eval a X.env)]:=by rfl) (hs:∀x,foldedSetIterable (.Call (.Name "enumerate" p1) [a] [] p2) X.env x=pure x:=by intro _;rfl):PS X (.For (.Tuple elts kk tp) (.Call (.Name "enumerate" p1) [a] [] p2) body [] pos) (dS X.K F (oW kt fa g)):=by
 refine PS.imp (kY hp hc (DR hge hm hl WY) hg hb hs) ?_;intro E σ H hh;obtain⟨A,t,o,R,e,h⟩:=kz hh;refine aA e λr e1 e=>?_;refine⟨A,t,r,R,e1,λv H1 gs q=>?_⟩;split at e
 case h_2=>cases e
 rename_i ds z;refine cH e λok e=>?_;have cl:=q.clean R.mu gs ok;rw[z]at cl;cases cl with
 |@lst _ p vs h1 h2=>
  refine⟨p,rfl,⟨vs,V5.mono (aR _ _) h1⟩,?_⟩;refine vl (λA H=>V5 _ (aj (A++F) H) p _/\VQ _ (aj (A++F) H) _ _) ht (R.grow gs) e (h.back (Gr.of_same R.mu.left gs)) ⟨h1,h2⟩ (λA H A' H' q gr=>⟨V5.mono gr.same q.1,VQ.mono gr.same q.2⟩) (λA H q=>⟨vs,V5.mono (aR _ _) q.1,by rw[h2.length,mR];simp⟩) (λA H i q hi=>?_) (λA H i x H' q mu y hi=>?_)
  .have hi':i<vs.length:=by rw[h2.length];rw[mR]at hi;assumption
   exact⟨vs,_,V5.mono (aR _ _) q.1,RH hi'⟩
  .obtain⟨l,v,Y8,rfl,rfl,hv⟩:=y;obtain⟨d,hd,rd⟩:=q.2.YM (hv vs (V5.mono (aR _ _) q.1));have sm:=dZ (o:=HO.tup [.int i,v]) Y8;refine⟨sm,_,Av 0 _ i d hd,?_⟩;rw[UC];exact .tup (WG.of (bH bK (eP mu Y8))) (.cons (.int _) (.cons (Rep.mono (cD sm) rd) .nil))
end
end DL
namespace L2
open PySem.Spec
noncomputable def eG(cells:Ql (Str×ZE)):Ql (Str×Tz)->Ql (Str×ZE)->Ql (Str×ZE)
 |[],acc=>acc
 |(n,k)::r,acc=>if k==.free then eG cells r ((n,(cells.lookup n).getD 0)::acc) else eG cells r acc
theorem AQ:∀{names:Ql (Str×Tz)}{acc:Ql (Str×ZE)}{x:Str}{c:ZE},(∀y∈names,y.2=.free->∃c,cells.lookup y.1=Qs c)->(eG cells names acc).lookup x=Qs c->acc.lookup x=Qs c\/cells.lookup x=Qs c
 |[],acc,x,c,_,h=>.inl h
 |(n,k)::r,acc,x,c,hy,h=>by
  unfold eG at h;have hr:∀y∈r,y.2=.free->∃c,cells.lookup y.1=Qs c:=λy h1=>hy y (Rx _ h1);split at h
  .rename_i hk;rcases AQ hr h with z|z
   .rw[SJ]at z;split at z
    .rename_i e;have e:x=n:=by lia
     obtain⟨c',hc'⟩:=hy _ (Rz ..) (by lia)
     simp_all
    .exact .inl z
   .exact .inr z
  .exact AQ hr h
theorem AO:∀{names:Ql (Str×Tz)}{acc:Ql (Str×ZE)}{x:Str},(∃c,acc.lookup x=Qs c)->∃c,(eG cells names acc).lookup x=Qs c
 |[],acc,x,h=>h
 |(n,k)::r,acc,x,h=>by
  unfold eG;split
  .refine AO ?_;rw[SJ];split
   .simp
   assumption
  .exact AO h
theorem vM:∀{names:Ql (Str×Tz)}{acc:Ql (Str×ZE)}{x:Str},(x,SS)∈names->∃c,(eG cells names acc).lookup x=Qs c
 |(n,k)::r,acc,x,h=>by
  unfold eG;rcases RB.mp h with z|z
  .cases z;refine AO ⟨(cells.lookup n).getD 0,?_⟩;simp[SJ]
  .split
   .exact vM z
   .exact vM z
def AN(h:∀y∈scope.names,y.2=.free->∃c,env.cells.lookup y.1=Qs c):closureFor scope env=pure (eG env.cells scope.names []):=by
 unfold closureFor;have key:∀names acc,(∀y∈names,y.2=.free->∃c,env.cells.lookup y.1=Qs c)-> (forIn names acc λx cs=>(do
    if x.2==.free then
     let a<-cellOf env x.1
     pure (Tw ((x.1,a)::cs))
    else pure (Tw cs):Sem _))=pure (eG env.cells names acc):=by
  intro names
  induction names with
  |nil=>intro acc _;rfl
  |cons y r ih=>
   intro acc hy;obtain⟨n,k⟩:=y;have hr:=λy h1=>hy y (Rx _ h1);rw[List.forIn_cons];unfold eG;by_cases hk:(k==SS)=Qt
   .obtain⟨c,hc⟩:=hy _ (Rz ..) (by lia);have hc':cellOf env n=pure c:=by unfold cellOf;rw[hc]
    simp only[hk,if_true,hc'];rw[<-ih _ hr];simp only[hc,Option.getD_some];rfl
   .simp_all
 have:=key _ [] h
 simp_all
theorem pM{env:Env}:∀{names:Ql (Str×Tz)}{x:Str}{k':Tz},(names.map λ(n,k)=>if(k==SS&&env.scope.kind==.function&&env.kindOf n==Qs .cell) then(n,T8) else(n,k)).lookup x=Qs k'->∃k,(x,k)∈names/\(k'=k\/(k=.free/\k'=.cell))
 |[],x,k',h=>by simp at h
 |(n,k)::r,x,k',h=>by
  rw[RK]at h;by_cases hc:(k==SS&&env.scope.kind==.function&&env.kindOf n==Qs .cell)=Qt
  .simp only[hc,if_true,SJ]at h;split at h
   .simp_all
   .obtain⟨q,a,b⟩:=pM h;exact⟨q,Rx _ a,b⟩
  .have hc':(k==SS&&env.scope.kind==.function&&env.kindOf n==Qs .cell)=Qf:=by simpa using hc
   simp only[hc',Uj,if_false,SJ]at h;split at h
   .simp_all
   .obtain⟨q,a,b⟩:=pM h;exact⟨q,Rx _ a,b⟩
def Qw(I:Nat->R7->Prop) (turn:∀n s,I n s->wpAny (model prog w) A (pyNext it) (λr s₁=>match r with
   |none=>R (.ok .next) s₁
   |some v=>wpAny (model prog w) A (letOwnedTupleGo target it v) (λ_ s₁'=>wpAny (model prog w) A (assign target env v) (λ_ s₂=>
     wpAny (model prog w) A (forIn ifs Qt λc r=>if r=Qt then do let ok<-isTrue c env (eval c env);pure (Tw ok) else pure (Tw r)) (λok s₃=>
      if ok=Qt then wpAny (model prog w) A (eval elt env) (λx s₄=>
       wpAny (model prog w) A (call (.builtin "list.append") [acc,x]) (λ_ s₅=>∃m,m<n/\I m s₅) (λ_ _=>False) s₄) (λ_ _=>False) s₃
      else ∃m,m<n/\I m s₃) (λ_ _=>False) s₂) (λ_ _=>False) s₁') (λ_ _=>False) s₁) (λ_ _=>False) s) (n:Nat) (h:I n s):codeAny (model prog w) A (.compLoop (.ListComp elt [⟨target,iter,ifs,0⟩] scope pos) 0 it acc env) R s:=by
 refine codeAny_loop rfl I (λn s hI=>?_) n h;refine wpAny_noted ?_;refine RA (wpAny_standAt (RA (wpAny_mono (turn n s hI) (λr s₁ h₁=>?_) λ_ _ h'=>h'.elim)));cases r with
 |none=>exact RP h₁
 |some v=>
  refine RA (wpAny_mono h₁ (λ_ s₁' h₁'=>?_) λ_ _ h'=>h'.elim);refine RA (wpAny_mono h₁' (λ_ s₂ h₂=>RA (wpAny_mono h₂ (λok s₃ h₃=>?_) λ_ _ h'=>h'.elim)) λ_ _ h'=>h'.elim);cases ok with
  |false=>exact RP ⟨rfl,h₃⟩
  |true=>exact RA (RA (wpAny_mono h₃ (λx s₄ h₄=>RA (wpAny_mono h₄ (λ_ s₅ h₅=>RP (RP ⟨rfl,h₅⟩)) λ_ _ h'=>h'.elim)) λ_ _ h'=>h'.elim))
theorem AZ:∀{names:Ql (Str×Tz)}{n:Nat}{acc:Ql (Str×ZE)},(cellsFrom n names acc).lookup x=Qs c->acc.lookup x=Qs c\/n<=c
 |[],n,acc,h=>.inl h
 |(y,k)::r,n,acc,h=>by
  unfold cellsFrom at h;split at h
  .rcases AZ h with z|z
   .rw[SJ]at z;split at z
    .simp_all
    .exact .inl z
   .exact .inr (by lia)
  .exact AZ h
theorem vN:∀{names:Ql (Str×Tz)}{n:Nat}{acc:Ql (Str×ZE)},(∃c,acc.lookup x=Qs c)->∃c,(cellsFrom n names acc).lookup x=Qs c
 |[],n,acc,h=>h
 |(y,k)::r,n,acc,h=>by
  unfold cellsFrom;split
  .refine vN ?_;rw[SJ];split
   .lia
   assumption
  .exact vN h
theorem AS:∀{names:Ql (Str×Tz)}{n:Nat}{acc:Ql (Str×ZE)},(x,T8)∈names->∃c,(cellsFrom n names acc).lookup x=Qs c
 |(y,k)::r,n,acc,h=>by
  unfold cellsFrom;rcases RB.mp h with z|z
  .cases z;exact vN ⟨n,by simp⟩
  .split
   .exact AS z
   .exact AS z
theorem AX{lo:Nat}:∀{names:Ql (Str×Tz)}{n:Nat}{acc:Ql (Str×ZE)},lo<=n->(∀c,acc.lookup x=Qs c->lo<=c)->(cellsFrom n names acc).lookup x=Qs c->lo<=c
 |[],n,acc,_,ha,h=>ha c h
 |(y,k)::r,n,acc,hn,ha,h=>by
  unfold cellsFrom at h;split at h
  .refine AX (by lia) (λc' h'=>?_) h;rw[SJ]at h';split at h'
   .cases h';assumption
   .exact ha _ h'
  .exact AX hn ha h
theorem AV:∀{names:Ql (Str×Tz)}{n:Nat}{acc:Ql (Str×ZE)},(x,T8)∈names->(cellsFrom n names acc).lookup x=Qs c->n<=c
 |(y,k)::r,n,acc,hm,h=>by
  unfold cellsFrom at h;rcases RB.mp hm with z|z
  .cases z;refine AX (by lia) (λc' h'=>?_) h
   simp_all
  .split at h
   .have:=AV z h;lia
   .exact AV z h
theorem AU:∀{names:Ql (Str×Tz)}{n:Nat}{acc:Ql (Str×ZE)},(x,T8)∉names->(cellsFrom n names acc).lookup x=acc.lookup x
 |[],n,acc,_=>rfl
 |(y,k)::r,n,acc,h=>by
  have hr:(x,T8)∉r:=λz=>h (Rx _ z);unfold cellsFrom;split
  .rw[AU hr,SJ];split
   .simp_all
   rfl
  .exact AU hr
theorem AW:∀{names:Ql (Str×Tz)}{n:Nat}{acc:Ql (Str×ZE)},(∀x c,acc.lookup x=Qs c->c<n)->(∀x y c,acc.lookup x=Qs c->acc.lookup y=Qs c->x=y)->∀x y c,(cellsFrom n names acc).lookup x=Qs c->(cellsFrom n names acc).lookup y=Qs c->x=y
 |[],n,acc,_,hi=>hi
 |(z,k)::r,n,acc,hb,hi=>by
  unfold cellsFrom;split
  .refine AW (n:=n+1) (λx c h=>?_) (λx y c h1 h2=>?_)
   .rw[SJ]at h;split at h
    .cases h;simp
    .exact Ur (hb x c h)
   .rw[SJ]at h1 h2;split at h1
    .grind
    .split at h2
     .cases h2;exact absurd (hb x _ h1) (T5 _)
     .exact hi x y c h1 h2
  .exact AW hb hi
theorem AY:∀{names:Ql (Str×Tz)}{h:ZF}{acc:Ql (Str×ZE)},(∀c,acc.lookup x=Qs c->∃v,h.IsCell c v)->(cellsFrom h.objs.size names acc).lookup x=Qs c->∃v,(pushCells h names).IsCell c v
 |[],h,acc,ha,e=>ha c e
 |(y,k)::r,h,acc,ha,e=>by
  unfold cellsFrom at e;unfold pushCells;split at e
  .rename_i hk;rw[V4 hk];rw[show h.objs.size+1=(h.push {cls:=.type "cell",data:=.cell Qn}).objs.size from(Uc ..).symm]at e;refine AY (λc' e'=>?_) e;rw[SJ]at e';split at e'
   .cases e';exact⟨Qn,_,RV _ rfl,rfl⟩
   .obtain⟨v,z⟩:=ha _ e';exact⟨v,z.keeps λb o q=>RC _ q⟩
  .rename_i hk;rw[Wh hk];exact AY ha e
def BW{code:R8}
  (hQ:∀h',h'.Ns s.heap.objs.size (λ_=>Qn)->(∀b o,s.heap.get? b=Qs o->h'.get? b=Qs o)->(∀x c,(∀c,cl.lookup x=Qs c->∃v,s.heap.IsCell c v)->(cellsFrom (s.heap.objs.size+1) scope.names cl).lookup x=Qs c->∃v,h'.IsCell c v) ->Q (newEnv scope s.heap.objs.size globals (cellsFrom (s.heap.objs.size+1) scope.names cl) qual func code (Qs env) builtins) { s with heap:=h',toks:=s.toks }) :wpAny M A (newFunctionEnv scope globals cl [] qual func code (Qs env) builtins) Q E s:=by simp only[newFunctionEnv,VF,if_true];refine RA (wpAny_alloc ?_);refine RA (wpAny_layCells _ (λname kind cells=>rfl) _ _ _ _ ?_);have sz:(s.heap.push { cls:=.type "dict",data:=.dict #[] }).objs.size=s.heap.objs.size+1:=Uc ..;rw[sz];refine RA (RP (RP ?_));refine hQ _ ((Heap.Ns.new _ _).keeps (pushCells_keeps _ _)) (λb o e=>pushCells_keeps _ _ b o (RC _ e)) λx c ha e=>?_;rw[<-sz]at e;exact AY (λc' e'=>let ⟨v,z⟩:=ha _ e';⟨v,z.keeps λb o q=>RC _ q⟩) e
abbrev bC(X:Cx)(N':Ql Str)(scope:XW)(C:ZE)(s₃:R7)(H₃:Hp)(fp:Ql ZE)(pins:Ql (ZE×Obj)):Cx:={X with N:=N',s₀:=s₃,H₀:=H₃,env:=compEnvC scope (cellsFrom (C+1) scope.names (eG X.env.cells scope.names [])) C X.env,outer:=X.stack,stack:=X.stack,ex:=fp,fn:=λx=>scope.names.lookup x==Qs .cell,calm:=Qt,pn:=X.pn++pins,xe:=λ_ _=>False}
structure Yk(X:Cx)(scope:XW):Prop where
 kind:scope.kind=.function
 free:∀y∈scope.names,y.2=.free->X.env.kindOf y.1=Qs .cell\/X.env.kindOf y.1=Qs .free
 names:∀y∈scope.names,scope.names.lookup y.1=Qs y.2
section
variable {X:Cx}{pins:Ql (ZE×Obj)}{σ:L2.St}{s:R7}{scope:XW}{N':Ql Str}{fp:Ql ZE}
def Yk.frees(S:Yk X scope)(ok:X.Ok):∀y∈scope.names,y.2=.free->∃c,X.env.cells.lookup y.1=Qs c:=λy hy hf=>ok.has _ (S.free y hy hf)
theorem Yk.cells(S:Yk X scope)(ok:X.Ok)(h:(eG X.env.cells scope.names []).lookup x=Qs c):X.env.cells.lookup x=Qs c:=by
 rcases AQ (S.frees ok) h with z|z
 .simp at z
 assumption
def Yk.nc(S:Yk X scope)(h:(x,SS)∈scope.names):(x,T8)∉scope.names:=λz=>by have w2:=S.names _ z;rw[(S.names _ h)]at w2;cases w2
def Yk.cls(S:Yk X scope)(I:Inv X pins σ H s)(h:(eG X.env.cells scope.names []).lookup x=Qs c):c<s.heap.objs.size:=by obtain⟨v,o,ho,_⟩:=I.cell x c (S.cells I.ok h);exact RN ho
def Yk.old(S:Yk X scope)(I:Inv X pins σ H s)(h:(cellsFrom (s.heap.objs.size+1) scope.names (eG X.env.cells scope.names [])).lookup x=Qs c):X.env.cells.lookup x=Qs c\/s.heap.objs.size<c:=by
 rcases AZ h with z|z
 .exact .inl (S.cells I.ok z)
 .exact .inr z
def QY(I:Inv X pins σ H s)(S:Yk X scope)(hc:X.calm=Qt)(hf:∀b∈fp,fJ X pins H b)(Yy:∀b∈fp,b<s.heap.objs.size):(bC X N' scope s.heap.objs.size s H fp pins).Ok where
 mod:=I.ok.mod
 kind:=S.kind
 glob:=I.ok.glob
 blt:=I.ok.blt
 above:=RL _
 inj:=AW (λx c h=>Ur (S.cls I h)) λx y c h1 h2=>I.ok.inj x y c (S.cells I.ok h1) (S.cells I.ok h2)
 has:=λx hx=>by
  have:(x,SS)∈scope.names\/(x,T8)∈scope.names:=by
   rcases hx with hx|hx
   .obtain⟨k,a,b⟩:=pM hx;lia
   .obtain⟨k,a,b⟩:=pM hx;lia
  rcases this with z|z
  .exact vN (vM z)
  .exact AS z
 cab:=λx c h e=>by exact Nat.le_of_succ_le (AV (PySem.mem_of_lookup (by simpa using h)) e)
 hd:=λ_=>I.ok.hd hc
 frames:=I.ok.frames
 stk:=.inl rfl
 exf:=λb hb=>⟨So (Yy b hb),λx c h=>by
  rcases S.old I h with z|z
  .exact(hf b hb).2.2.2.2.1 x c z
  .exact Uh (U4 (Yy b hb) z)⟩
 bs:=λb o e=>I.bs b o e
 Z8:=SH I.ok.Z8 I.sz
 zby:=λb o e hb=>by
  rcases(hf b hb).2.2.2.1 with z|z
  .exact I.ok.zby b o e z
  .exact absurd (RO (RN e) (SH I.ok.Z8 z)) (T5 _)
 zcB:=λb hb z=>(RB.mp (I.zbq b z)).elim (hf b hb).2.1 (hf b hb).2.2.1
 Zc:=I.stack
 frf:=I.zft
 tabs:=λp hp=>I.base.Y4 _ _ (I.ok.tabs p hp)
def HL(I:Inv X pins σ H s)(S:Yk X scope)(hc:X.calm=Qt)(hf:∀b∈fp,fJ X pins H b)(Yy:∀b∈fp,b<s.heap.objs.size){σ':L2.St} (hns:h1.Ns s.heap.objs.size m) (hk:∀b o,s.heap.get? b=Qs o->h1.get? b=Qs o) (hcl:∀x c,(∀c,(eG X.env.cells scope.names []).lookup x=Qs c->∃v,s.heap.IsCell c v)->(cellsFrom (s.heap.objs.size+1) scope.names (eG X.env.cells scope.names [])).lookup x=Qs c->∃v,h1.IsCell c v) (hl:σ'.length=N'.length) (cap:∀(i:Nat) (x:Str) (v:V),N'[i]?=Qs x->σ'[i]?=Qs (Qs v)->(x,SS)∈scope.names/\∃j:Nat,X.N[j]?=Qs x/\σ[j]?=Qs (Qs v)):Inv (bC X N' scope s.heap.objs.size s H fp pins) [] σ' H {s with heap:=h1,toks:=t1} where
 ok:=QY I S hc hf Yy
 os:=rfl
 bare:=I.bare
 base:=Un.kept hk
 loc:=⟨m,hns,λi x v e1 e2 vs=>by
  obtain⟨zcw,j,j1,j2⟩:=cap i x v e1 e2;obtain⟨m0,hn0,Y8⟩:=I.loc;have vis:dD X.env.scope x:=by
   rcases S.free _ zcw rfl with z|z
   .exact .inr (.inl z)
   .exact .inr (.inr z)
  obtain⟨u,r,l⟩:=Y8 j x v j1 j2 vis;refine⟨u,r,?_⟩;rcases l with⟨k,_⟩|⟨k,c,e,z⟩
  .rcases S.free _ zcw rfl with q|q
   .lia
   .lia
  .obtain⟨c',hc'⟩:=vM (cells:=X.env.cells) (acc:=[]) zcw;have e':=S.cells I.ok hc';rw[e]at e';cases e';refine .inr ⟨?_,c,by rw[show(bC X _ _ _ s H _ _).env.cells.lookup x=_ from AU (S.nc zcw)];assumption,?_⟩
   .have vs:(relabel scope X.env).names.lookup x=Qs .local\/(relabel scope X.env).names.lookup x=Qs .cell\/(relabel scope X.env).names.lookup x=Qs .free:=vs;rcases vs with q|q
    .obtain⟨k2,a,b⟩:=pM q;rcases b with b|b
     .rw[<-b]at a;have w1:=S.names _ a;rw[(S.names _ zcw)]at w1;cases w1
     .cases b.2
    .assumption
   .obtain⟨o,ho,hd⟩:=z;exact⟨o,hk _ _ ho,hd⟩⟩
 cell:=λx c h=>hcl x c (λc' h'=>I.cell x _ (S.cells I.ok h')) h
 free:=I.Wk.fresh (RL _)
 ZQ:=λx c h=>by
  rcases S.old I h with z|z
  .exact I.ZQ x c z
  .exact I.Wk.fresh (Uz z)
 pin:=λp hp=>by rw[SE]at hp;obtain⟨a,b,c,d,e⟩:=I.pin p hp;exact⟨hk _ _ a,b,So (RN a),λz=>(RB.mp (I.zbq _ z)).elim c d,e⟩
 Wk:=I.Wk.kept hk
 len:=hl
def Be{σ':L2.St}{C:ZE}(I:Inv X pins σ H3 s)(hf:∀b∈fp,fJ X pins H3 b)(hC:C=s.heap.objs.size)(I':Inv (bC X N' scope C s H3 fp pins) Y6 σ' H' s')(hb:Heap.SameBut C s'.heap h''):Inv X pins σ H' {s' with heap:=h''}:=by
 subst hC;have bs:=I'.base;have nC:∀b o,s.heap.get? b=Qs o->b≠s.heap.objs.size:=λb o e=>So (RN e);have tr:=λb n=>hb.2 b n;have cf:H' s.heap.objs.size=Qn:=I'.free;obtain⟨h0,g0,d0,t0,o0⟩:=s';have e:=I'.os;subst e;exact I.call (⟨λb o e n h1 h2=>(tr b (nC b o e)).trans (bs.keep b o e n h1 h2),λb o e n h1 h2=>by obtain⟨sl,q⟩:=bs.slot b o e n h1 h2;exact⟨sl,(tr b (nC b o e)).trans q⟩,bs.free,λb o e h1=>by obtain⟨o',q⟩:=bs.there b o e h1;simp_all,bs.zab,bs.Z3,bs.Y4⟩) (λb o e=>by
  have nb:b≠s.heap.objs.size:=λz=>by lia
  refine(I'.Wk b o e).YQ (λc v hc q=>(tr c ?_).trans q) (λ_ q=>q) (λ_ _ q=>q) λ_ _ _ q=>q;lia) I'.bare λb ZN=>by obtain⟨f0,f1,f2,f3,f4,f5⟩:=hf b ZN;exact⟨f3,f1,f4,f5⟩
end
def XZ(Y:Cx)(ifs:Ql ZG)(t:TT):Prop:=∀(pins:Ql (ZE×Obj)) (s:R7) (σ:L2.St) (H:Hp) (Q:Bool->Hp->Prop),Inv Y pins σ H s->t σ H Q->wpAny (model Y.prog Y.w) Y.A (forIn ifs Qt λc r=>if r=Qt then do let ok<-isTrue c Y.env (eval c Y.env);pure (Tw ok) else pure (Tw r)) (TP Y pins σ Q) Y.xe s
def Dr:XZ Y [] (λ_ H Q=>Q Qt H):=λpins s σ H Q I h=>wpAny_tests_nil ⟨H,I,h⟩
def K6(h:PT Y c t):XZ Y [c] t:=λpins s σ H Q I q=>wpAny_tests_one (h _ s σ H Q I q)
def g9(n:Nat)(cap:Ql Nat)(σ:L2.St):L2.St:=RT n Qn++cap.map λj=>(σ[j]?).getD Qn
def nL(n:Nat)(cap:Ql Nat)(wi:TI)(g:TG)(tt:TT)(te:TE):TE:=λσ H Q=>wi σ H λJ H1=>∀D,H1 D=Qn->∃W:Nat->Nat->L2.St->Hp->Prop,(∃m,W 0 m (g9 n cap σ) (upd H1 D (.lst [])))/\∀i m σ' H',W i m σ' H'->(J.stop i H'/\Q (.ref D) H')\/(J.go i H'/\∃N:L2.St->Hp->Prop,(∀Zh YO,N Zh YO->∃m',m'<m/\W (i+1) m' Zh YO)/\∀x H2,J.XH i H' x H2->g x σ' H2 λσ2 H3=>tt σ2 H3 λb H4=>
  if b=Qt then te σ2 H4 λv H5=>∃vs,H5 D=Qs (.lst vs)/\vs.length<Sf/\N σ2 (upd H5 D (.lst (vs++[v]))) else N σ2 H4)
def Hn{σ:L2.St}{Q:VK}(S:Yk X scope)(hc:X.calm=Qt)
  (hN:N'.length=n+cap.length) (XQ:∀(k:Nat) (j:Nat),cap[k]?=Qs j->∃x,N'[n+k]?=Qs x/\X.N[j]?=Qs x/\(x,SS)∈scope.names)
  (hg:∀C s₃ H₃ fp pins,PG (bC X N' scope C s₃ H₃ fp pins) tg g) (ht:∀C s₃ H₃ fp pins,XZ (bC X N' scope C s₃ H₃ fp pins) ifs tt) (he:∀C s₃ H₃ fp pins,PE (bC X N' scope C s₃ H₃ fp pins) elt te)
  (fin:∀(C:ZE) (s3:R7) (H3:Hp) (fp:Ql ZE) (D:ZE) (σ4:L2.St) (H4:Hp) (s4:R7) (f:Flow),Inv X pins σ H3 s3->(∀b∈fp,fJ X pins H3 b)->C=s3.heap.objs.size->Inv (bC X N' scope C s3 H3 fp pins) [] σ4 H4 s4->Q (.ref D) H4->compPost (model X.prog X.w) X.A X.xe use PQ (.ref D) C (.ok f) s4)
  (h2:vY X pins σ tg (λJ H1 => ∀D,H1 D=Qn->∃W:Nat->Nat->L2.St->Hp->Prop,(∃m,W 0 m (g9 n cap σ) (upd H1 D (.lst [])))/\∀i m σ' H',W i m σ' H' ->(J.stop i H'/\Q (.ref D) H')\/(J.go i H'/\∃N:L2.St->Hp->Prop,(∀Zh YO,N Zh YO->∃m',m' < m/\W (i+1) m' Zh YO)/\∀x H2,J.XH i H' x H2->g x σ' H2 λσ2 H3=>tt σ2 H3 λb H4 =>
  if b=Qt then te σ2 H4 λv H5 => ∃vs,H5 D=Qs (.lst vs)/\vs.length<Sf/\N σ2 (upd H5 D (.lst (vs++[v]))) else N σ2 H4)) itv s2) :wpAny (model X.prog X.w) X.A (newList []) (λacc s₃=>wpAny (model X.prog X.w) X.A (newFunctionEnv scope X.env.globals (eG X.env.cells scope.names []) [] X.env.qual Qn .none (Qs X.env)) (λzcI s₄ =>
   codeAny (model X.prog X.w) X.A (.compStart (.ListComp elt [⟨tg,iter,ifs,0⟩] scope pos) 0 itv acc { zcI with scope:=relabel scope X.env }) (compPost (model X.prog X.w) X.A X.xe use PQ acc zcI.locals) s₄) X.xe s₃) X.xe s2:=by
 obtain⟨it,fp,tn,J,H2,e,I2,T,Zk,f2,R⟩:=h2;subst e;have lt2:∀b∈fp,b<s2.heap.objs.size:=λb hb=>by obtain⟨o,e,_⟩:=T.obj _ _ Zk b hb;exact RN e
 have hD:H2 s2.heap.objs.size=Qn:=I2.fresh;obtain⟨W,⟨m0,w0⟩,turn⟩:=R s2.heap.objs.size hD;have I3:Inv X pins σ (upd H2 s2.heap.objs.size (.lst [])) { s2 with heap:=s2.heap.push { cls:=.type "list",data:=.seq ([]:Ql R8).toArray },toks:=s2.toks }:=I2.zd7 (t':=s2.toks) .nil (by simp);have f3:∀b∈fp,fJ X pins (upd H2 s2.heap.objs.size (.lst [])) b:=λb hb=>⟨by rw[aY (So (lt2 b hb))];exact(f2 b hb).1,(f2 b hb).2⟩;refine wpAny_newObj_type (BW λh₁ zel hk zet=>?_);have lt3:∀b∈fp,b<(s2.heap.push { cls:=.type "list",data:=.seq ([]:Ql R8).toArray }).objs.size:=λb hb=>by rw[Uc];exact Ur (lt2 b hb)
 have I4:Inv (bC X N' scope (s2.heap.push { cls:=.type "list",data:=.seq ([]:Ql R8).toArray }).objs.size { s2 with heap:=s2.heap.push { cls:=.type "list",data:=.seq ([]:Ql R8).toArray },toks:=s2.toks } (upd H2 s2.heap.objs.size (.lst [])) fp pins) [] (g9 n cap σ) (upd H2 s2.heap.objs.size (.lst [])) { s2 with heap:=h₁,toks:=s2.toks } :=HL I3 S hc f3 lt3 (t1:=s2.toks) zel hk zet (by simp[g9,hN]) (λi x v e1 e2=>by
   unfold g9 at e2;by_cases hi:i<n
   .rw[Ta (by simpa using hi),Ug]at e2;lia
   .rw[T1 (by simpa using hi),Vq,Se]at e2;rcases ej:cap[i - n]? with _|j
    .rw[ej]at e2;cases e2
    rw[ej]at e2;obtain⟨x',a1,a2,a3⟩:=XQ _ j ej;have:n+(i - n)=i:=by lia
    rw[this,e1]at a1;cases a1;refine⟨a3,j,a2,?_⟩;have e2:=by simpa using e2
    cases q:σ[j]? with
    |none=>rw[q]at e2;cases e2
    |some z=>simp_all)
 have loop:codeAny (model X.prog X.w) X.A (.compLoop (.ListComp elt [⟨tg,iter,ifs,0⟩] scope pos) 0 (.ref it) (.ref s2.heap.objs.size) (compEnvC scope (cellsFrom ((s2.heap.push { cls:=.type "list",data:=.seq ([]:Ql R8).toArray }).objs.size+1) scope.names (eG X.env.cells scope.names [])) (s2.heap.push { cls:=.type "list",data:=.seq ([]:Ql R8).toArray }).objs.size X.env))
   (compPost (model X.prog X.w) X.A X.xe use PQ (.ref s2.heap.objs.size) (s2.heap.push { cls:=.type "list",data:=.seq ([]:Ql R8).toArray }).objs.size) { s2 with heap:=h₁,toks:=s2.toks }:=by
  generalize hY:(bC X N' scope (s2.heap.push { cls:=.type "list",data:=.seq ([]:Ql R8).toArray }).objs.size { s2 with heap:=s2.heap.push { cls:=.type "list",data:=.seq ([]:Ql R8).toArray },toks:=s2.toks } (upd H2 s2.heap.objs.size (.lst [])) fp pins)=Y at I4;have st4:tn 0 h₁:=T.keep _ _ _ Zk λb hb o e=>hk b o (RC _ e);have Zx:∀{H':Hp},(∀b∈fp,H' b=Qn)->∀b∈fp,fJ Y [] H' b:=λhn b hb=>by
   subst hY;obtain⟨f0,f1,f2',f3',f4,f5⟩:=f3 b hb;exact⟨hn b hb,So (lt3 b hb),λz=>(RB.mp (I3.zbq b z)).elim f1 f2',.inl hb,λx c e=>(by
    rcases S.old I3 e with z | z
    .exact f4 x c z
    .exact Uh (U4 (lt3 b hb) z)),λp hp=>f5 p (by simpa using hp)⟩
  have hgY:PG Y tg g:=hY ▸ hg _ _ _ _ _;have htY:XZ Y ifs tt:=hY ▸ ht _ _ _ _ _;have heY:PE Y elt te:=hY ▸ he _ _ _ _ _;have yp:Y.prog=X.prog:=by subst hY;rfl
  have yw:Y.w=X.w:=by subst hY;rfl
  have yK:Y.K=X.K:=by subst hY;rfl
  have yA:Y.A=X.A:=by subst hY;rfl
  have yc:Y.calm=Qt:=by subst hY;rfl
  have yx:Y.xe=λ_ _=>False:=by subst hY;rfl
  have ye:Y.env=compEnvC scope (cellsFrom ((s2.heap.push { cls:=.type "list",data:=.seq ([]:Ql R8).toArray }).objs.size+1) scope.names (eG X.env.cells scope.names [])) (s2.heap.push { cls:=.type "list",data:=.seq ([]:Ql R8).toArray }).objs.size X.env:=by subst hY;rfl
  rw[<-ye];refine Qw (λn s' => ∃i σ' H',Inv Y [] σ' H' s'/\tn i s'.heap/\(∀b∈fp,H' b=Qn)/\W i n σ' H') ?_ m0 ⟨0,_,_,I4,st4,λb hb=>(f3 b hb).1,w0⟩;rintro n s3 ⟨i,σ3,H3,I5,st3,fr3,w3⟩;rcases turn i n σ3 H3 w3 with⟨stop,qn⟩ | ⟨go,N,hNN,step⟩
  .have d:=T.done Y yp yw yK yc i [] s3 σ3 H3 (λ_ _=>False) I5 (Zx fr3) st3 stop;rw[yA]at d;refine aF d λr s4 ⟨hr,I6⟩=>?_;subst hr;subst hY;exact fin _ _ _ _ _ _ _ _ _ I3 f3 rfl I6 qn
  .have d:=T.item Y yp yw yK yc i [] s3 σ3 H3 (λ_ _=>False) I5 (Zx fr3) st3 go;rw[yA]at d;refine aF d λr s4 ⟨u,hr,h4⟩=>?_;subst hr;refine aF h4 λ_ s5 ⟨x,H5,I6,r5,y5,Zy,fr5⟩=>?_;have I6':=I6.pinned (Zx fr5) (T.obj _ _ Zy);have a:=hgY _ s5 σ3 H5 x u _ I6' r5 (step x H5 y5);rw[yp,yw,yA,yx]at a;refine aF a λ_ s6 ⟨σ6,H6,I7,q6⟩=>?_;have b:=htY _ s6 σ6 H6 _ I7 q6;rw[yp,yw,yA,yx]at b;refine aF b λok s7 ⟨H7,I8,q7⟩=>?_;have again:∀{s9:R7}{H9:Hp},Inv Y ([]++oa fp s5.heap) σ6 H9 s9->N σ6 H9->∃m,m<n/\∃i σ' H',Inv Y [] σ' H' s9/\tn i s9.heap/\(∀b∈fp,H' b=Qn)/\W i m σ' H':=λ{s9 H9} I9 n9=>by obtain⟨m',hm,w9⟩:=hNN σ6 H9 n9;refine⟨m',hm,i+1,σ6,H9,I9.zbY,T.keep _ _ _ Zy λb hb o e=>(I9.pin (b,o) (Ru _ (Ru _ (ot hb e)))).1,λb hb=>?_,w9⟩;obtain⟨o,e,d⟩:=T.obj _ _ Zy b hb;exact(I9.pin (b,o) (Ru _ (Ru _ (ot hb e)))).2.1
   cases ok with
   |false=>exact mF (again I8 (by simpa using q7))
   |true =>rw[V4 rfl]at q7;refine mE ?_;have c:=heY _ s7 σ6 H7 _ I8 q7;rw[yp,yw,yA,yx]at c;refine aF c λz s8 ⟨vz,H8,I9,r9,vs,hv,hl,n9⟩=>?_;have ap:=pX (X:=Y) ([]++oa fp s5.heap) s8 σ6 H8 (.ref s2.heap.objs.size) [vz] (.ref s2.heap.objs.size) [z] (λ_ H9=>N σ6 H9) I9 rfl (.cons r9 .nil) ⟨_,vs,vz,rfl,rfl,hv,hl,n9⟩;rw[yp,yw,yA,yx]at ap;exact aF ap λ_ s9 ⟨_,H9,I10,_,n10⟩=>again I10 n10
 exact codeAny_compStart_list loop (T.self _ 0 _ _ _ (T.keep _ _ _ Zk λb hb o e=>hk b o (RC _ e)) loop)
def DZ(S:Yk X scope)(hc:X.calm=Qt)(hi:PI X tg iter wi) (hN:N'.length=n+cap.length) (XQ:∀(k:Nat) (j:Nat),cap[k]?=Qs j->∃x,N'[n+k]?=Qs x/\X.N[j]?=Qs x/\(x,SS)∈scope.names) (hg:∀C s₃ H₃ fp pins,PG (bC X N' scope C s₃ H₃ fp pins) tg g) (ht:∀C s₃ H₃ fp pins,XZ (bC X N' scope C s₃ H₃ fp pins) ifs tt) (he:∀C s₃ H₃ fp pins,PE (bC X N' scope C s₃ H₃ fp pins) elt te) (hs:∀x,foldedSetIterable iter X.env x=pure x:=by intro _;rfl):PE X (.ListComp elt [⟨tg,iter,ifs,0⟩] scope pos) (nL n cap wi g tt te):=by intro pins s σ H Q I h;refine wpAny_comprehension_free rfl hs (AN (S.frees I.ok)) S.kind (λx hx hl=>by rw[S.names x hx,hl]) (aF (hi _ s σ H _ I h) λv s1 h1=>aF h1 λitv s2 h2=>Hn S hc hN XQ hg ht he (λC s3 H3 fp D σ4 H4 s4 f I3 f3 hC I6 qn=>?_) h2);obtain⟨m,hm,_⟩:=I6.loc;exact⟨m,hm,λh' hb=>⟨.ref D,H4,Be I3 f3 hC I6 hb,rfl,qn⟩⟩
def DC(S:Yk X scope)(hc:X.calm=Qt)(hi:PI X tg iter wi) (hN:N'.length=n+cap.length) (XQ:∀(k:Nat) (j:Nat),cap[k]?=Qs j->∃x,N'[n+k]?=Qs x/\X.N[j]?=Qs x/\(x,SS)∈scope.names) (hg:∀C s₃ H₃ fp pins,PG (bC X N' scope C s₃ H₃ fp pins) tg g) (ht:∀C s₃ H₃ fp pins,XZ (bC X N' scope C s₃ H₃ fp pins) ifs tt) (he:∀C s₃ H₃ fp pins,PE (bC X N' scope C s₃ H₃ fp pins) elt te) (ZO:X.N.Nodup) (ZL:X.N[i₀]?=Qs y₀) (hy:Loc X.env.scope y₀) (X8:swapsWith (.ListComp elt [⟨tg,iter,ifs,0⟩] scope pos) (Qs (.Name y₀ py)) Zl.line X.env=pure Qt) (hf:X.fn y₀=Qt\/X.env.scope.names.lookup y₀=Qs .local) (hs:∀x,foldedSetIterable iter X.env x=pure x:=by intro _;rfl):PS X (.Assign [.Name y₀ py] (.ListComp elt [⟨tg,iter,ifs,0⟩] scope pos) Zl) (λD σ H=>nL n cap wi g tt te σ H λv H1=>D.nx (σ.set i₀ (Qs v)) H1):=by
 intro pins s σ H Ed I h;rw[exec_Assign_Name_used _ _ _ _ X8];refine RA (wpAny_standAt (RA ?_));refine RA (aF ?_ λ_ s' hq=>RP (RP hq));refine wpAny_comprehension_free rfl hs (AN (S.frees I.ok)) S.kind (λx hx hl=>by rw[S.names x hx,hl]) (aF (hi _ s σ H _ I h) λv s1 h1=>aF h1 λitv s2 h2=>Hn (Q:=λv H1=>Ed.nx (σ.set _ (Qs v)) H1) S hc hN XQ hg ht he (λC s3 H3 fp D σ4 H4 s4 f I3 f3 hC I6 qn=>?_) h2);obtain⟨m,hm,_⟩:=I6.loc;have fC:fJ X _ _ C:=I3.zau (by lia) I6.free;obtain⟨c0,c1,c2,c3,c4,c5⟩:=fC;refine wpAny_assign_Name (wX (Be I3 f3 hC I6 (h'':=s4.heap) ⟨rfl,λ_ _=>rfl⟩) ZO ZL hy (v:=.ref D) rfl (λs5 I7 ⟨a,sb,ha⟩=>?_) hf);have na:a≠C:=by
  rcases ha with z|z
  .lia
  .exact c4 _ _ z
 refine⟨m,hm.sameBut sb (Ne.symm na),λh' hb=>⟨_,H4,?_,qn⟩⟩;exact I7.turned (λb o n e=>(hb.2 b n).trans e) c0 c1 c3 c4 c5
end L2
namespace DL
open PySem.Spec L2
structure Src(K:Rv)(ds:List D)(J:It)(Good:List ZE->Hp->Prop):Prop where
 keep:∀P H P' H',Good P H->VJ (aj P H) (aj P' H')->Good P' H'
 stop:∀P H,Good P H->J.stop ds.length H
 go:∀P H i,Good P H->i<ds.length->J.go i H
 XH:∀P H i x H',Good P H->WM H P->J.XH i H x H'->i<ds.length->VJ H H'/\∃d,ds[i]?=Qs d/\Rep K (aj P H') d x
abbrev DI:=Th->Qo (Bool×Ql D)
def Xn(b:Bool)(A F:Ql ZE):Ql ZE:=if b then A++F else F
inductive dI(K:Rv)(F:List ZE)(fs:DI)(σ:L2.St)(H:Hp)(R:It->Hp->Prop):Prop
 |mk (A t b ds:_) (_:RS K F H A t σ) (_:fs t=Qs (b,ds)) (_:∀J H1 Good,VJ H H1->Src K ds J Good->Good (Xn b A F) H1->R J H1)
def PI.imp(h:PI X tg iter t)(i:∀σ H R,t' σ H R->t σ H R):PI X tg iter t':=λpins s σ H R I q=>h _ s σ H R I (i σ H R q)
def bA(f:DE):DI:=λt=>(f t).bind λr=>match r.d with
 |.lst ds=>Qs (r.ok,ds)
 |_=>Qn
def mO(f:DE):DI:=λt=>(f t).bind λr=>match r.d with
 |.lst ds=>Qs (r.ok,fz 0 ds)
 |_=>Qn
def km(f:DE):DI:=λt=>(f t).bind λr=>match r.d with
 |.int n=>if eI n then Qs (Qt,fN 0 n.toNat) else Qn
 |_=>Qn
def jb(f f':DE):DI:=λt=>(f t).bind λr=>(f' t).bind λr'=>match r.d,r'.d with
 |.int lo,.int n=>if eI n&&eI lo then Qs (Qt,fN lo (n-lo).toNat) else Qn
 |_,_=>Qn
def JZ (hl:vs.length=ds.length):Src K ds (BH K p) (λP H=>V5 K (aj P H) p vs/\VQ K (aj P H) ds vs) where
 keep:=λP H P' H' q s=>⟨V5.mono s q.1,VQ.mono s q.2⟩
 stop:=λP H q=>⟨vs,V5.mono (aR _ _) q.1,by lia⟩
 go:=λP H i q hi=>⟨vs,_,V5.mono (aR _ _) q.1,RH (by lia)⟩
 XH:=λP H i x H' q mu y hi=>by obtain⟨e1,e2⟩:=y;subst e1;exact⟨VJ.refl _,q.2.YM (e2 _ (V5.mono (aR _ _) q.1))⟩
def J0 (hl:vs.length=ds.length):Src K (fz 0 ds) (vZ K p) (λP H=>V5 K (aj P H) p vs/\VQ K (aj P H) ds vs) where
 keep:=λP H P' H' q s=>⟨V5.mono s q.1,VQ.mono s q.2⟩
 stop:=λP H q=>⟨vs,V5.mono (aR _ _) q.1,by rw[mR];lia⟩
 go:=λP H i q hi=>by rw[mR]at hi;exact⟨vs,_,V5.mono (aR _ _) q.1,RH (by lia)⟩
 XH:=λP H i x H' q mu y hi=>by obtain⟨l,v,Y8,rfl,rfl,hv⟩:=y;obtain⟨d,hd,rd⟩:=q.2.YM (hv _ (V5.mono (aR _ _) q.1));have sm:=dZ (o:=HO.tup [.int i,v]) Y8;refine⟨sm,_,Av 0 _ i d hd,?_⟩;rw[UC];exact .tup (WG.of (bH bK (eP mu Y8))) (.cons (.int _) (.cons (Rep.mono (cD sm) rd) .nil))
def w6:Src K (fN lo n) (lM lo n) (λ_ _=>True) where
 keep:=λ_ _ _ _ _ _=>trivial
 stop:=λP H _=>by rw[nV];exact RL n
 go:=λP H i _ hi=>by rw[nV]at hi;assumption
 XH:=λP H i x H' _ _ y hi=>by rw[nV]at hi;obtain⟨e1,e2⟩:=y;subst e1;refine⟨VJ.refl _,.int (lo+i),by simp[fN,hi],?_⟩;rw[e2];exact .int _
theorem Wt.Xn{K:Rv}(m:WM H (A++F))(gs:VJ H H')(q:Wt K F A H H' r v):Rep K (aj (DL.Xn r.ok A F) H') r.d v:=by
 unfold DL.Xn;split
 .rename_i c;exact q.clean m gs c
 .exact q.Ze m
section
variable {X:Cx}{F:Ql ZE}{a b c:ZG}{es:Ql ZG}{fa:DE}{tg:ZG}
def dJ(hl:PE X a (dE X.K F fa)):PI X tg a (dI X.K F (bA fa)):=by
 refine PI.imp (t8 hl) ?_;rintro σ H R ⟨A,t,b,ds,RR,e,h⟩;refine aA e λr e1 e=>?_;refine⟨A,t,r,RR,e1,λv H1 gs q=>?_⟩;split at e
 case h_2=>cases e
 rename_i ds' z;cases e;have cl:=Wt.Xn RR.mu gs q;rw[z]at cl;cases cl with
 |@lst _ p vs h1 h2=>exact⟨p,rfl,⟨vs,V5.mono (aR _ _) h1⟩,h _ _ _ gs (JZ h2.length) ⟨h1,h2⟩⟩
def DP(hge:Gl X "enumerate")(hm:X.mg "enumerate"=Qn)(hl:PE X a (dE X.K F fa))(WY:RM [a] X.env=[(Qf,eval a X.env)]:=by rfl):PI X (.Tuple elts kk tp) (.Call (.Name "enumerate" p1) [a] [] p2) (dI X.K F (mO fa)):=by
 refine PI.imp (DR hge hm hl WY) ?_;rintro σ H R ⟨A,t,b,ds,RR,e,h⟩;refine aA e λr e1 e=>?_;refine⟨A,t,r,RR,e1,λv H1 gs q=>?_⟩;split at e
 case h_2=>cases e
 rename_i ds' z;cases e;have cl:=Wt.Xn RR.mu gs q;rw[z]at cl;cases cl with
 |@lst _ p vs h1 h2=>exact⟨p,rfl,⟨vs,V5.mono (aR _ _) h1⟩,h _ _ _ gs (J0 h2.length) ⟨h1,h2⟩⟩
def yH(hgr:Gl X "range")(hm:X.mg "range"=Qn)(ha:PE X a (dE X.K F fa))(WY:RM [a] X.env=[(Qf,eval a X.env)]:=by rfl):PI X tg (.Call (.Name "range" p1) [a] [] p2) (dI X.K F (km fa)):=by
 refine PI.imp (yI hgr hm (fG ha gx WY) WY) ?_;rintro σ H R ⟨A,t,b,ds,RR,e,h⟩;refine aA e λr e1 e=>?_;refine⟨A,t,r,RR,e1,λv H1 gs q=>?_⟩;split at e
 case h_2=>cases e
 rename_i n z;refine cH e λok e=>?_;simp only[eI,XT]at ok;cases e;have p:=q.full;rw[z]at p;cases cL p;exact⟨n,rfl,by lia,by lia,h _ _ _ gs w6 trivial⟩
def yG{p1 p2:Pos}(hgr:Gl X "range")(hm:X.mg "range"=Qn)(ha:PE X a (dE X.K F fa))(hb:PE X b (dE X.K F fb))(WY:RM [a,b] X.env=[(Qf,eval a X.env),(Qf,eval b X.env)]:=by rfl)(zaH:RM [b] X.env=[(Qf,eval b X.env)]:=by rfl):PI X tg (.Call (.Name "range" p1) [a,b] [] p2) (dI X.K F (jb fa fb)):=by
 refine PI.imp (LW hgr hm (fG ha (fG hb gx zaH) (by lia)) WY zaH) ?_;rintro σ H R ⟨A,t,b,ds,RR,e,h⟩;unfold jb at e;rcases e1:fa t with _|r
 .rw[e1]at e;cases e
 rcases e2:fb t with _|r'
 .rw[e1,e2]at e;cases e
 rw[e1,e2]at e;refine⟨A,t,r,RR,e1,λv H1 gs q=>⟨A,t,r',RR.grow gs,e2,λv2 H2 Wz q2=>?_⟩⟩;have e:(match r.d,r'.d with
  |.int _,.int n=>if eI n&&eI _ then Qs _ else Qn
  |_,_=>Qn)=Qs _:=e
 split at e
 case h_2=>cases e
 rename_i lo n z1 z2;replace e:=Xz e;obtain⟨ok,e⟩:=e;simp only[eI,RJ,XT]at ok;cases e;have p:=q.full;rw[z1]at p;cases cL p;have p':=q2.full;rw[z2]at p';cases cL p';exact⟨lo,n,rfl,⟨by lia,by lia,by lia,by lia⟩,h _ _ _ (gs.trans Wz) w6 trivial⟩
end
noncomputable def gC(t:Th):Ql Nat->Qo (Bool×Ql D)
 |[]=>Qs (Qt,[])
 |j::js=>(gC t js).bind λq=>match t[j]? with
  |some (.val d)=>Qs (q.1,d::q.2)
  |some (.own xs)=>Qs (Qf,.lst xs::q.2)
  |some (.dp d)=>Qs (Qf,d::q.2)
  |_=>Qn
theorem r8{K:Rv}(R:RS K F H A t σ):∀{cap:Ql Nat}{b:Bool}{ds:Ql D},gC t cap=Qs (b,ds)->∃vs:Ql V,(cap.map λj=>(σ[j]?).getD Qn)=vs.map Qs/\VQ K (aj (Xn b A F) H) ds vs
 |[],b,ds,e=>by cases e;exact⟨[],rfl,.nil⟩
 |j::js,b,ds,e=>by
  unfold gC at e;rcases e1:gC t _ with _|q
  .rw[e1]at e;cases e
  obtain⟨b',ds'⟩:=q;rw[e1]at e;obtain⟨vs,h1,h2⟩:=r8 R e1;have e:=e;have less:∀c,VJ _ (aj (Xn c A F) H):=λc=>bE H λx z=>by
   cases c with
   |true=>assumption
   |false=>exact Ru _ z
  split at e
  .rename_i d z;cases e;obtain⟨v,a1,a2⟩:=R.rel.zaR z;exact⟨_,by simp[a1,h1],.cons (Rep.mono (less _) a2) h2⟩
  .rename_i xs z;cases e;obtain⟨p,us,a1,a2,a3,a4⟩:=R.rel.Yw z;refine⟨_,by simp[a1,h1],.cons (.lst (V5.of (bH a3 (R.dj p a2))) (VQ.mono (less _) a4)) (VQ.mono (bE H λx z=>?_) h2)⟩;cases b' with
   |true=>exact Ru _ z
   |false=>assumption
  .rename_i d z;cases e;obtain⟨v,B,a1,a2,a3,a4⟩:=R.rel.zeA R.nd z;refine⟨_,by simp[a1,h1],.cons (a4.rep (less _) λb hb o w=>bH w (R.dj b (a2 b hb))) (VQ.mono (bE H λx z=>?_) h2)⟩;cases b' with
   |true=>exact Ru _ z
   |false=>assumption
  .cases e
noncomputable def bJ(k:D->Th->Qo Th)(ft:DT)(fe:DE):Ql D->Th->Qo (Ql D)
 |[],_=>Qs []
 |d::ds,t=>(k d t).bind λt1=>(ft t1).bind λb=>if b then(fe t1).bind λr=>(bJ k ft fe ds t1).map λxs=>r.d::xs else bJ k ft fe ds t1
def aM(n:Nat)(cap:Ql Nat)(fs:DI)(k:D->Th->Qo Th)(ft:DT)(fe:DE):DE:=λt=>(fs t).bind λq=>(gC t cap).bind λc=>if q.2.length<=50000 then(bJ k ft fe q.2 (RT n Sl.no++c.2.map Sl.val)).bind λxs=>if(q.1&&c.1)||Wv xs then Qs (.nw xs) else Qn else Qn
theorem AM:∀{ds:Ql D}{t:Th}{xs:Ql D},bJ k ft fe ds t=Qs xs->xs.length<=ds.length
 |[],t,xs,e=>by cases e;simp
 |d::ds,t,xs,e=>by
  unfold bJ at e;refine aA e λt1 e1 e=>?_;have e:((ft t1).bind λb=>if b then(fe t1).bind λr=>(bJ k ft fe ds t1).map λxs=>r.d::xs else bJ k ft fe ds t1)=Qs xs:=e;refine aA e λb e2 e=>?_;cases b with
  |false=>have:=AM (ds:=ds) (t:=t1) e;simp;lia
  |true=>
   have e:((fe t1).bind λr=>(bJ k ft fe ds t1).map λxs=>r.d::xs)=Qs xs:=e;refine aA e λr e3 e=>?_;have e:((bJ k ft fe ds t1).map λxs=>r.d::xs)=Qs xs:=e;cases e4:bJ k ft fe ds t1 with
   |none=>rw[e4]at e;cases e
   |some ys=>rw[e4]at e;cases e;have:=AM e4;simp;lia
theorem We.zda{K:Rv}(r:VQ K H0 ds vs):∀n,We K H0 H (RT n Sl.no++ds.map Sl.val) (RT n Qn++vs.map Qs) []
 |0=>by simpa using We.start .nil r
 |n+1=>.no (We.zda r n)
def oQ(hp:p∈P):VJ (aj P H) (aj P (upd H p o)):=λb u e=>by obtain⟨n,e⟩:=cN e;exact bH (by rw[aY (λz=>n (by lia))];assumption) n
def RS.zbX (R:RS K P H [] t σ)(hp:p∈P):RS K P (upd H p (.lst ws)) [] t σ where
 mu:=λq hq=>by
  by_cases z:q=p
  .exact⟨mL _,by rw[z];exact bK⟩
  .obtain⟨us,w⟩:=R.mu q hq;exact⟨us,by rw[aY z];assumption⟩
 nd:=Sv
 dj:=λp hp=>by cases hp
 rel:=We.mono (oQ hp) R.rel λq hq=>by cases hq
def um (R:RS K P H A t σ)(g:Gr [] H A H):A=[]:=by
 cases A with
 |nil=>rfl
 |cons a r=>
  rcases g.nw a (Rz ..) with z|z
  .cases z
  .obtain⟨vs,q⟩:=R.mu a (Rw _ (Rz ..));lia
def aZ:DT:=λ_=>Qs Qt
def XZ.imp(h:XZ Y ifs t)(i:∀σ H Q,t' σ H Q->t σ H Q):XZ Y ifs t':=λpins s σ H Q I q=>h _ s σ H Q I (i σ H Q q)
def iY:XZ Y [] (dT Y.K F aZ):=XZ.imp Dr λσ H Q ⟨A,t,b,R,e,h⟩=>by cases e;exact h H (VJ.refl H)
def iC(h:PT Y c (dT Y.K F ft)):XZ Y [c] (dT Y.K F ft):=K6 h
def Ax{α:Type}{ds:Ql α}{d:α}(Yz:i<ds.length)(hd:ds[i]?=Qs d):ds.drop i=d::ds.drop (i+1):=by rw[RH Yz]at hd;rw[<-SX hd];simp
def uX:∀x∈Xn b A F,x∈A++F:=by
 cases b with
 |true=>exact λx hx=>hx
 |false=>exact λx hx=>Ru _ hx
def uY:∀x∈F,x∈Xn b A F:=by
 cases b with
 |true=>exact λx hx=>Ru _ hx
 |false=>exact λx hx=>hx
def FV:∀x∈Xn (b&&c) A F,x∈Xn b A F:=by
 cases b with
 |true=>cases c with
  |true=>simp
  |false=>exact uY
 |false=>simp
def FU:∀x∈Xn (b&&c) A F,x∈Xn c A F:=by
 cases b with
 |true=>simp
 |false=>exact uY
def uy{α β:Type}{x:Qo α}{f:α->β}{r:β}{G:Prop}(e:x.map f=Qs r)(h:∀a,x=Qs a->f a=r->G):G:=by
 cases x with
 |none=>cases e
 |some a=>simp_all
def N4(h:n<50000):n<Sf:=RO h (by decide)
def Bx{α β:Type}{acc ys xs:Ql α}{y:α}{vs:Ql β}(l:vs.length=acc.length)(ex:acc++y::ys=xs)(hx:xs.length<=50000):vs.length<Sf:=by refine N4 ?_;rw[<-ex,SD,Su]at hx;lia
def CM(hn:H1 p=Qn)(sm:VJ H1 H)(s:VJ H H'):VJ H1 (upd H' p o):=λb u z=>by rw[aY (λw=>by lia)];exact s _ _ (sm _ _ z)
inductive CI(K:Rv)(kt:D->Th->Option Th)(ft:DT)(fe:DE)(ds xs:List D)(H1:Hp)(P:List ZE)(p:ZE)(Good:List ZE->Hp->Prop)(i m:Nat)(σ:L2.St)(H:Hp):Prop
 |mk (th:Th) (acc rest:List D) (vs:List V) (hm:i+m=ds.length) (R:RS K P H [] th σ) (ec:bJ kt ft fe (ds.drop i) th=Qs rest) (ex:acc++rest=xs) (hv:H p=Qs (.lst vs)) (hr:VQ K (aj P H) acc vs) (sm:VJ H1 H) (gg:Good P H)
def CI.step (src:Src K ds J Good)(hk:cV K P g kt)(hp:p∈P)(hn:H1 p=Qn)(hx:xs.length<=50000) (c:CI K kt ft fe ds xs H1 P p Good i (m+1) σ H):J.go i H/\∃N:L2.St->Hp->Prop,(∀σ2 H2,N σ2 H2->∃m',m'<m+1/\CI K kt ft fe ds xs H1 P p Good (i+1) m' σ2 H2)/\∀x H2,J.XH i H x H2->g x σ H2 λσ2 H3=>∃F',dT K F' ft σ2 H3 λb H4=>
   if b=Qt then ∃F',dE K F' fe σ2 H4 λv H5=>∃vs,H5 p=Qs (.lst vs)/\vs.length<Sf/\N σ2 (upd H5 p (.lst (vs++[v]))) else N σ2 H4:=by
 obtain⟨th,acc,rest,vs,hm,R,ec,ex,hv,hr,sm,gg⟩:=c;have Yz:i<ds.length:=by lia
 have hm':i+1+m=ds.length:=by lia
 refine⟨src.go _ _ i gg Yz,_,λ_ _ q=>⟨m,SO m,q⟩,λx H2 y=>?_⟩;obtain⟨Wz,d,hd,rd⟩:=src.XH _ _ i x _ gg R.mu y Yz;rw[Ax Yz hd]at ec;refine aA ec λt1 k1 ec=>?_;refine aA ec λbb k2 ec=>?_;refine hk σ _ _ _ _ d x _ (R.grow Wz) rd k1 λσ2 A2 X3 R2=>?_;cases um R2 X3;refine⟨P,[],t1,bb,R2,k2,λH3 YB=>?_⟩;have s3:=Wz.trans YB;have R3:=R2.grow YB;cases bb with
 |false=>exact mF ⟨t1,acc,rest,vs,hm',R3,ec,ex,s3 _ _ hv,VQ.mono (cD s3) hr,sm.trans s3,src.keep _ _ _ _ gg (cD s3)⟩
 |true=>refine aA (ec) λre k3 ec=>?_;refine uy ec λys k4 ec=>?_;subst ec;refine mE ⟨P,[],t1,re,R3,k3,λv H4 gs4 q4=>⟨vs,gs4 _ _ (s3 _ _ hv),Bx hr.length ex hx,?_⟩⟩;have s4:=s3.trans gs4;have hu:VJ _ (aj P (upd H4 p (.lst (vs++[v])))):=oQ hp;have s5:=(cD s4).trans hu;exact⟨t1,_,ys,_,hm',RS.zbX (R3.grow gs4) hp,k4,by rw[SI];assumption,bK,(VQ.mono s5 hr).app (VQ.one (Rep.mono hu (q4.Ze R3.mu))),CM hn sm s4,src.keep _ _ _ _ gg s5⟩
def RS.block (Z9:WM H1 (A++F))(hp:H1 p=Qn)(sF:∀x∈F',x∈A++F)(lc:∀x∈F',x∈Xn c A F)(gs:VJ H H1)(cv1:cap.map (λj=>(σ[j]?).getD Qn)=cvs.map Qs)(cv2:VQ K (aj (Xn c A F) H) zbS cvs):RS K (p::F') (upd H1 p (.lst [])) [] (RT n Sl.no++zbS.map Sl.val) (g9 n cap σ):=by
 refine⟨λq hq=>?_,Sv,λp hp=>(by cases hp),?_⟩
 .rcases RB.mp hq with z|z
  .exact⟨mL _,by rw[z];exact bK⟩
  .obtain⟨us,w⟩:=Z9 q (sF q z);exact⟨us,(dZ hp) _ _ w⟩
 .unfold g9;rw[cv1];exact We.zda (VQ.mono (((cD gs).trans (bE _ lc)).trans (kh hp)) cv2) n
def Cn{X:Cx}(hk:∀F',cV X.K F' g kt)(h:dE X.K F (aM n cap fs kt ft fe) σ H Q):nL n cap (dI X.K F fs) g (λσ H Q=>∃F',dT X.K F' ft σ H Q) (λσ H Q=>∃F',dE X.K F' fe σ H Q) σ H Q:=by
 obtain⟨A,t,r,R,e,h⟩:=h;refine aA e λq e1 e=>?_;refine aA e λc e2 e=>?_;obtain⟨b,ds⟩:=q;obtain⟨c,zbS⟩:=c;refine cH e λhlen e=>?_;refine aA e λxs e3 e=>?_;refine cH e λok e=>?_;cases e;obtain⟨cvs,cv1,cv2⟩:=r8 R e2;refine⟨A,t,b,ds,R,e1,λJ H1 Good gs src gd p hD=>?_⟩;have Z9:=R.mu.mono gs;refine⟨CI _ _ _ _ _ _ _ _ p _,⟨_,⟨_,[],xs,[],UC _,RS.block Z9 hD uX FU gs cv1 cv2,e3,rfl,bK,.nil,dZ hD,src.keep _ _ _ _ gd ((bE _ FV).trans (kh hD))⟩⟩,λi m σ' H' c'=>?_⟩;cases m with
 |succ m=>exact .inr (c'.step src (hk _) (Rz ..) hD (SH (AM e3) hlen))
 |zero=>
  obtain⟨th,acc,rest,vs,hm,_,ec,ex,hv,hr,sm,gg⟩:=c';cases hm;rw[Tr]at ec;cases ec;rw[SE]at ex;subst ex;refine .inl ⟨src.stop _ _ gg,h _ _ (gs.trans sm) ⟨p,vs,rfl,VJ.free gs hD,hv,?_⟩⟩;rcases US _ _▸ok with k|k
  .rw[k]at hr;assumption
  .refine VQ.W2 (λq hq=>?_) k (VQ.mono (aR _ _) hr);rcases RB.mp hq with z|z
   .exact⟨mL _,by rw[z];assumption⟩
   .obtain⟨us,w⟩:=Z9 q z;exact⟨us,sm _ _ w⟩
def L8(S:Yk X scope)(hc:X.calm=Qt)(hi:PI X tg iter (dI X.K F fs)) (hN:N'.length=n+cap.length) (XQ:∀(k:Nat) (j:Nat),cap[k]?=Qs j->∃x,N'[n+k]?=Qs x/\X.N[j]?=Qs x/\(x,SS)∈scope.names) (hg:∀C s₃ H₃ fp pins,PG (bC X N' scope C s₃ H₃ fp pins) tg g) (hk:∀F',cV X.K F' g kt) (ht:∀C s₃ H₃ fp pins F',XZ (bC X N' scope C s₃ H₃ fp pins) ifs (dT X.K F' ft)) (he:∀C s₃ H₃ fp pins F',PE (bC X N' scope C s₃ H₃ fp pins) elt (dE X.K F' fe)) (hs:∀x,foldedSetIterable iter X.env x=pure x:=by intro _;rfl):PE X (.ListComp elt [⟨tg,iter,ifs,0⟩] scope pos) (dE X.K F (aM n cap fs kt ft fe)):=PE.imp (DZ S hc hi hN XQ hg (λC s₃ H₃ fp pins Y6 s σ H Q I ⟨F',q⟩=>ht C _ _ _ _ _ _ s σ H Q I q) (λC s₃ H₃ fp pins Y6 s σ H Q I ⟨F',q⟩=>he C _ _ _ _ _ _ s σ H Q I q) hs) λ_ _ _ h=>Cn hk h
def lG(names:Ql (Str×Tz))(kind:Str->Qo Tz):Bool:=names.all λy=>(y.2 !=.free||kind y.1==Qs .cell||kind y.1==Qs .free)&&(names.lookup y.1==Qs y.2)
def rW{X:Cx}{scope:XW}(hk:scope.kind=.function:=by rfl)(h:lG scope.names X.env.kindOf=Qt:=by rfl):Yk X scope:=by
 have h':=SW.mp h;refine⟨hk,λy hy hf=>?_,λy hy=>?_⟩
 .grind
 .have:=h' y hy;simp at this;exact this.2
noncomputable def jN(N' N:Ql Str)(n:Nat)(names:Ql (Str×Tz)):Nat->Ql Nat->Bool
 |_,[]=>Qt
 |k,j::js=>(match N'[n+k]?,N[j]? with
  |some x,Qs y=>x==y&&names.any λz=>z.1==x&&z.2==.free
  |_,_=>Qf)&&jN N' N n names (k+1) js
theorem oX:∀{cap:Ql Nat}{k0:Nat},jN N' N n names k0 cap=Qt->∀(k j:Nat),cap[k]?=Qs j->∃x,N'[n+(k0+k)]?=Qs x/\N[j]?=Qs x/\(x,SS)∈names
 |[],k0,_,k,j,e=>by simp at e
 |i::js,k0,h,k,j,e=>by
  unfold jN at h;rw[RJ]at h;cases k with
  |zero=>
   simp at e;subst e;have h1:=h.1;split at h1
   .rename_i x y z1 z2;rw[RJ,beq_iff_eq]at h1
    simp_all
   .cases h1
  |succ k=>obtain⟨x,a,b,c⟩:=oX h.2 k j (e);exact⟨x,by lia,b,c⟩
def gW (n:Nat)(cap:Ql Nat)(N':Ql Str)(hc:X.calm=Qt)(hi:PI X tg iter (dI X.K F fs)) (hg:∀C s₃ H₃ fp pins,PG (bC X N' scope C s₃ H₃ fp pins) tg g) (hk:∀F',cV X.K F' g kt) (ht:∀C s₃ H₃ fp pins F',XZ (bC X N' scope C s₃ H₃ fp pins) ifs (dT X.K F' ft)) (he:∀C s₃ H₃ fp pins F',PE (bC X N' scope C s₃ H₃ fp pins) elt (dE X.K F' fe)) (Y9:scope.kind=.function:=by rfl) (Zb:lG scope.names X.env.kindOf=Qt:=by rfl) (hN:N'.length=n+cap.length:=by rfl) (XQ:jN N' X.N n scope.names 0 cap=Qt:=by rfl) (hs:∀x,foldedSetIterable iter X.env x=pure x:=by intro _;rfl):PE X (.ListComp elt [⟨tg,iter,ifs,0⟩] scope pos) (dE X.K F (aM n cap fs kt ft fe)):=L8 (rW Y9 Zb) hc hi hN (λk j e=>by simpa using oX XQ k j e) hg hk ht he hs
def WZ:Ev->Ev->Qo Ev:=λr1 r2=>match r2.d with
 |.lst ds=>if bz r1.d&&ds.all (λd=>bz d&&bZ 0 d r1.d) then Qs (.cl (.bl (ds.any λd=>cP d r1.d))) else Qn
 |.tup ds=>if bz r1.d&&ds.all (λd=>bz d&&bZ 0 d r1.d) then Qs (.cl (.bl (ds.any λd=>cP d r1.d))) else Qn
 |_=>Qn
theorem qT{K:Rv}(q:Rep K H e u)(se:bz e=Qt):∀{ds:Ql D}{vs:Ql V},VQ K H ds vs->ds.all (λd=>bz d&&bZ 0 d e)=Qt->vs.all eA=Qt/\mG u vs=ds.any λd=>cP d e
 |_,_,.nil,_=>⟨rfl,rfl⟩
 |_,_,.cons h r,k=>by
  simp only[SK,RJ]at k;obtain⟨f1,f2,e1⟩:=Aq h q k.1.1 se k.1.2;obtain⟨a,b⟩:=qT q se r (k.2);unfold mG at b ⊢
  simp_all
def tx (q:Rep K H e u)(se:bz e=Qt):eA u=Qt:=by cases q<;>simp_all [bz,eA]
def k9:Xx X F (compareOp .In) WZ:=by
 intro pins s σ H0 H A x y v u Q r1 r2 r I m g0 rx ry q1 q2 e hq;unfold WZ at e;have p1:=q1.full;have p2:=q2.full;split at e
 .rename_i ds z;rw[z]at p2;refine cH e λc e=>?_;rw[RJ]at c;cases e;cases p2 with
  |@lst _ p vs h1 h2=>
   obtain⟨a,b⟩:=qT p1 c.1 h2 c.2;exact D5 _ s σ H x _ v u Q I rx ry ⟨p,vs,rfl,.inl h1,tx p1 c.1,a,by
    rw[b];exact hq _ H (VJ.refl H) (.bl _)⟩
 .rename_i ds z;rw[z]at p2;refine cH e λc e=>?_;rw[RJ]at c;cases e;cases p2 with
  |@tup _ p vs h1 h2=>
   obtain⟨a,b⟩:=qT p1 c.1 h2 c.2;exact D5 _ s σ H x _ v u Q I rx ry ⟨p,vs,rfl,.inr h1,tx p1 c.1,a,by
    rw[b];exact hq _ H (VJ.refl H) (.bl _)⟩
 .cases e
section
variable {X:Cx}{F:Ql ZE}{a b c:ZG}{es:Ql ZG}{fa:DE}
def fZ:Ql Ev->Qo Ev:=λrs=>match rs with
 |[r]=>(match r.d with
  |.lst ds=>if r.ok||Wv ds then Qs (.nw ds) else Qn
  |_=>Qn)
 |_=>Qn
def mX:X0 X F (.type "list") fZ:=X0.of QK λH0 H A xs rs e Q m g q ek hq=>by
 unfold fZ at ek;split at ek
 .cases q with
  |cons q1 q2=>
   cases q2;split at ek
   .rename_i ds z;refine cH ek λc ek=>?_;cases ek;obtain⟨p,vs,rfl,h1,h2⟩:=q1.items m g z c;exact⟨p,vs,rfl,.inl h1,λl hl=>hq _ _ (dZ hl) ⟨l,vs,rfl,VJ.free g hl,bK,VQ.mono (kh hl) h2⟩⟩
   .cases ek
 .cases ek
def mC(f:Int->Int->Int):Ql Ev->Qo Ev:=λrs=>match rs with
 |[r1,r2]=>(match r1.d,r2.d with
  |.int i,.int j=>Qs (.cl (.int (f i j)))
  |_,_=>Qn)
 |_=>Qn
def HE(h:gj X v (λxs H Q=>∃i j,xs=[.int i,.int j]/\Q (.int (f i j)) H)):X0 X F v (mC f):=X0.of h λH0 H A xs rs e Q m g q ek hq=>by
 unfold mC at ek;split at ek
 .cases q with
  |cons q1 q'=>
   cases q' with
   |cons q2 q3=>
    cases q3;split at ek
    .rename_i i j z1 z2;cases ek;have p1:=q1.full;have p2:=q2.full;rw[z1]at p1;rw[z2]at p2;cases cL p1;cases cL p2;exact⟨i,j,rfl,hq _ H (VJ.refl H) (.int _)⟩
    .cases ek
 .cases ek
def HB(hc:X.calm=Qt):X0 X F (.builtin "min") (mC λi j=>if j<i then j else i):=HE (QI hc)
def HC(hc:X.calm=Qt):X0 X F (.builtin "max") (mC λi j=>if j>i then j else i):=HE (QJ hc)
def uT:D->Bool
 |.Wj=>Qt
 |_=>Qf
def mB:Ev->Ev->Qo Ev:=λr1 r2=>match r2.d with
 |.Wj=>Qs (.cl (.bl (uT r1.d)))
 |_=>Qn
def uM:Ev->Ev->Qo Ev:=λr1 r2=>match r2.d with
 |.Wj=>Qs (.cl (.bl (! uT r1.d)))
 |_=>Qn
def CV (h:Rep K H d v):decide (v=.Wj)=uT d:=by cases h<;>simp[uT]
def yW:Xx X F (compareOp .Is) mB:=by
 intro pins s σ H0 H A x y v u Q r1 r2 r I m g0 rx ry q1 q2 e hq;unfold mB at e;split at e
 .rename_i z;cases e;have p2:=q2.full;rw[z]at p2;cases p2;exact MA _ s σ H x _ v u Q I rx ry ⟨rfl,by rw[CV q1.full];exact hq _ H (VJ.refl H) (.bl _)⟩
 .cases e
def Nx:Xx X F (compareOp .IsNot) uM:=by
 intro pins s σ H0 H A x y v u Q r1 r2 r I m g0 rx ry q1 q2 e hq;unfold uM at e;split at e
 .rename_i z;cases e;have p2:=q2.full;rw[z]at p2;cases p2;exact Mu _ s σ H x _ v u Q I rx ry ⟨rfl,by rw[CV q1.full];exact hq _ H (VJ.refl H) (.bl _)⟩
 .cases e
end
noncomputable def dX:Ql D->Qo (Ql Int)
 |[]=>Qs []
 |.int i::r=>(dX r).map λns=>i::ns
 |_::_=>Qn
theorem kf:∀{ds:Ql D}{ns:Ql Int},dX ds=Qs ns->ds=ns.map D.int
 |[],ns,e=>by cases e;rfl
 |.int i::r,ns,e=>by
  unfold dX at e;cases e1:dX r with
  |none=>rw[e1]at e;cases e
  |some m=>rw[e1]at e;cases e;rw[kf e1];rfl
 |.Wj::r,ns,e=>by cases e
 |.bl _::r,ns,e=>by cases e
 |.str _::r,ns,e=>by cases e
 |.tup _::r,ns,e=>by cases e
 |.lst _::r,ns,e=>by cases e
def qQ(ns:Ql Int):dX (ns.map D.int)=Qs ns:=by
 induction ns with
 |nil=>rfl
 |cons n r ih=>simp[dX,ih]
theorem iA{K:Rv}:∀{ns:Ql Int}{vs:Ql V},VQ K H (ns.map D.int) vs->vs=ns.map V.int
 |[],_,.nil=>rfl
 |n::r,_,.cons h q=>by cases cL h;rw[iA q];rfl
section
variable {X:Cx}{F:Ql ZE}{a b c:ZG}{es:Ql ZG}{fa:DE}
def QE(hc:X.calm=Qt):gj X (.builtin "sum") (λxs H Q=>∃(p:ZE) (ns:Ql Int),xs=[.ref p]/\V5 X.K H p (ns.map V.int)/\Q (.int ns.sum) H):=by
 intro pins s σ H xs us Q I r h;obtain⟨p,ns,rfl,hs,q⟩:=h;obtain⟨u,rfl,ru⟩:=jT r;cases ru;obtain⟨VU,rv,pl,_⟩:=I.list hs;have hi:=oN rv;obtain⟨ys,e⟩:=hi.allInts.items;refine sum_intListG (I.ok.hd hc) (by rw[<-e];exact PlainL.XY pl) λh' tk t' hk=>⟨.int _,H,I.kept hk,⟨t',rfl⟩,?_⟩;rw[preSum_eq,TU (by simp)];have e2:numsOf (intItems ys).toList=ns:=by rw[<-e];exact hi.numsOf
 rw[<-nums_intItems,e2];assumption
def i8:Ql Ev->Qo Ev:=λrs=>match rs with
 |[r]=>(match r.d with
  |.lst ds=>(dX ds).map λns=>.cl (.int ns.sum)
  |_=>Qn)
 |_=>Qn
def A6(hc:X.calm=Qt):X0 X F (.builtin "sum") i8:=X0.of (QE hc) λH0 H A xs rs e Q m g q ek hq=>by
 unfold i8 at ek;split at ek
 .cases q with
  |cons q1 q2=>
   cases q2;split at ek
   .rename_i ds z;rcases e1:dX _ with _|ns
    .rw[e1]at ek;cases ek
    rw[e1]at ek;cases ek;have p:=q1.full;rw[z,kf e1]at p;cases p with
    |lst h1 h2=>rw[iA h2]at h1;exact⟨_,ns,rfl,h1,hq _ H (VJ.refl H) (.int _)⟩
   .cases ek
 .cases ek
end
def Qb(i j:Int):cP (.int i) (.int j)=decide (i=j):=rfl
def zh7:sm i=Qt↔i.natAbs<Wq:=by simp[sm]
def Yh(h:i.natAbs<2^256):sm i=Qt:=zh7.mpr (RO h (by exact S7 (by decide) (by decide)))
def kM(h1:-10000000000000000000000000000000000000000000000000000000000000000000000000000<i)(h2:i<10000000000000000000000000000000000000000000000000000000000000000000000000000):sm i=Qt:=by apply Yh;lia
def As(d:D):cP d d=Qt:=Zt.mpr rfl
def aG(h:g1 t=Qs (.nx t')):aB g1 g2 t=g2 t':=by simp[aB,h]
theorem Wf.length{K:Rv}:∀{ds:Ql D}{vs:Ql V}{B:Ql ZE},Wf K H0 H ds vs B->vs.length=ds.length
 |_,_,_,.nil=>rfl
 |_,_,_,.cons _ r=>by simp[Wf.length r]
inductive Fcs(K:Rv)(H0 H:Hp)(ds:List D)(vs:List V)(B:List ZE)(j:Nat)(d:D):Prop
 |mk (v B1:_) (_:vs[j]?=Qs v) (_:Wn K H0 H d v B1) (_:(∀b∈B1,b∈B)) (_:(B.Nodup->B1.Nodup)) (_:∀Xe H' d2 B2,VJ H0 Xe->Wn K Xe H' d2 v B2->B2.Sublist B1->(∀q∈B,q∉B1->∀o,H q=Qs o->H' q=Qs o)->B.Nodup->∃B',Wf K Xe H' (ds.set j d2) vs B'/\B'.Sublist B)
theorem Wf.focus{K:Rv}:∀{ds:Ql D}{vs:Ql V}{B:Ql ZE},Wf K H0 H ds vs B->∀{j:Nat}{d:D},ds[j]?=Qs d->Fcs K H0 H ds vs B j d
 |_,_,_,.nil,j,d,e=>by simp at e
 |_,_,_,.cons (v:=v) (B:=B) h r,0,d,e=>by
  simp at e;subst e;refine⟨v,B,rfl,h,λb hb=>Rw _ hb,λn=>(RI.mp n).1,λXe H' d2 B2 s q sb k nd=>⟨_,.cons q (Wf.mono s r λp hp o w=>?_),S4 sb (Sh _)⟩⟩
  grind
 |_,_,_,.cons h r,j+1,d,e=>by obtain⟨v1,B1,a1,a2,a3,a5,a4⟩:=Wf.focus r (e);refine⟨v1,B1,a1,a2,λb hb=>Ru _ (a3 b hb),λn=>a5 (RI.mp n).2.1,λXe H' d2 B2 s q sb k nd=>?_⟩;have n:=RI.mp nd;obtain⟨B',b1,b2⟩:=a4 _ _ _ _ s q sb (λq hq=>k q (Ru _ hq)) n.2.1;refine⟨_,.cons (Wn.mono s h λp hp o w=>k p (Rw _ hp) (λz=>n.2.2 p hp p (a3 p z) rfl) o w) b1,S4 (Sh _) b2⟩
def Reach(K:Rv)(H:Hp):V->Ql Int->V->Prop
 |v,[],w=>v=w
 |v,n::ns,w=>∃p vs x,v=.ref p/\(V5 K H p vs\/WG K H p vs)/\W7 vs n=Qs x/\Reach K H x ns w
def Q7(e:W7 xs n=Qs x):∃j,XD xs.length n=Qs j/\xs[j]?=Qs x:=by
 unfold L2.W7 at e;cases e1:XD _ n with
 |none=>rw[e1]at e;cases e
 |some j=>simp_all
inductive FDp(K:Rv)(H0 H:Hp)(t:Th)(σ:L2.St)(A:List ZE)(i:Nat)(d:D):Prop
 |mk (v B:_) (_:σ[i]?=Qs (Qs v)) (_:(∀b∈B,b∈A)) (_:B.Nodup) (_:Wn K H0 H d v B) (_:∀Xe H' d2 B2,VJ H0 Xe->Wn K Xe H' d2 v B2->B2.Sublist B->(∀q∈A,q∉B->∀o,H q=Qs o->H' q=Qs o)->∃A2,We K Xe H' (t.set i (.dp d2)) σ A2/\A2.Sublist A)
def We.zkF:∀{t:Th}{σ:L2.St}{A:Ql ZE},We K H0 H t σ A->A.Nodup->∀{i:Nat}{d:D},t[i]?=Qs (.dp d)->FDp K H0 H t σ A i d:=by
 intro _ _ _ h
 induction h with
 |nil=>simp
 |@no _ _ _ _ r ih=>
  intro n i d e;cases i with
  |zero=>simp at e
  |succ i=>obtain⟨v,B,a,b,n',c,k⟩:=ih n (e);refine⟨v,B,a,b,n',c,λXe H' d2 B2 s q sb w=>?_⟩;obtain⟨A2,x,y⟩:=k _ _ _ _ s q sb w;exact⟨A2,.no x,y⟩
 |@val _ v _ _ _ h r ih=>
  intro n i d e;cases i with
  |zero=>simp at e
  |succ i=>obtain⟨v,B,a,b,n',c,k⟩:=ih n (e);refine⟨v,B,a,b,n',c,λXe H' d2 B2 s q sb w=>?_⟩;obtain⟨A2,x,y⟩:=k _ _ _ _ s q sb w;exact⟨A2,.val (Rep.mono s h) x,y⟩
 |@own p _ _ _ _ _ h1 h2 r ih=>
  intro n i d e;cases i with
  |zero=>simp at e
  |succ i=>have n0:=RQ.mp n;obtain⟨v,B,a,b,n',c,k⟩:=ih n0.2 (e);refine⟨v,B,a,λx hx=>Rx _ (b x hx),n',c,λXe H' d2 B2 s q sb w=>?_⟩;obtain⟨A2,x,y⟩:=k _ _ _ _ s q sb (λq hq=>w q (Rx _ hq));exact⟨_,.own (w p (Rz ..) (λz=>n0.1 (b p z)) _ h1) (VQ.mono s h2) x,y.cons₂ _⟩
 |@dp _ v C _ _ _ h r ih=>
  intro n i d e;cases i with
  |zero=>simp at e;subst e;have n0:=RI.mp n;refine⟨v,C,rfl,λx hx=>Rw _ hx,n0.1,h,λXe H' d2 B2 s q sb w=>?_⟩;exact⟨_,.dp q (We.mono s r λp hp=>w p (Ru _ hp) λz=>n0.2.2 p z p hp rfl),S4 sb (Sh _)⟩
  |succ i=>have n0:=RI.mp n;obtain⟨v,B,a,b,n',c,k⟩:=ih n0.2.1 (e);refine⟨v,B,a,λx hx=>Ru _ (b x hx),n',c,λXe H' d2 B2 s q sb w=>?_⟩;obtain⟨A2,x,y⟩:=k _ _ _ _ s q sb (λq hq=>w q (Ru _ hq));exact⟨_,.dp (Wn.mono s h λp hp=>w p (Rw _ hp) λz=>n0.2.2 p hp p (b p z) rfl) x,S4 (Sh _) y⟩
def j5:Ql DE->Th->Qo (Ql Int)
 |[],_=>Qs []
 |f::fs,t=>(f t).bind λr=>match r.d with
  |.int n=>(j5 fs t).map (n::·)
  |_=>Qn
theorem Ds:∀{fs:Ql DE}{ns':Ql Int},j5 (fs++[f]) t=Qs ns'->∃ns n r,j5 fs t=Qs ns/\f t=Qs r/\r.d=.int n/\ns'=ns++[n]
 |[],ns',e=>by
  simp only[UT,j5]at e;rcases e1:f t with _|r
  .rw[e1]at e;cases e
  rw[e1]at e;simp at e;split at e
  .rename_i n z;cases e;exact⟨[],n,r,rfl,rfl,z,rfl⟩
  .cases e
 |g::fs,ns',e=>by
  simp only[TC,j5]at e;rcases e1:g t with _|r
  .rw[e1]at e;cases e
  rw[e1]at e;simp at e;split at e
  .rename_i n z;rcases e2:j5 (fs++[f]) t with _|ms
   .rw[e2]at e;cases e
   rw[e2]at e;cases e;obtain⟨ns,m,r',a1,a2,a3,a4⟩:=Ds e2;refine⟨n::ns,m,r',?_,a2,a3,by rw[a4];rfl⟩;simp only[j5,e1,RF,z,a1];rfl
  .cases e
theorem Reach.snoc{K:Rv}{H:Hp}{n:Int}{w:V}:∀{ns:Ql Int}{v:V},Reach K H v (ns++[n]) w->∃p vs,Reach K H v ns (.ref p)/\(V5 K H p vs\/WG K H p vs)/\W7 vs n=Qs w
 |[],v,h=>by obtain⟨p,vs,x,rfl,h1,h2,h3⟩:=h;cases h3;exact⟨p,vs,rfl,h1,h2⟩
 |m::ns,v,h=>by obtain⟨p,vs,x,rfl,h1,h2,h3⟩:=h;obtain⟨p',XO,a1,a2,a3⟩:=Reach.snoc h3;exact⟨p',XO,⟨p,vs,x,rfl,h1,h2,a1⟩,a2,a3⟩
inductive plE(K:Rv)(F:List ZE)(i:Nat)(fs:List DE)(σ:L2.St)(H:Hp)(Q:VK):Prop
 |mk (A t v ns w:_) (_:RS K F H A t σ) (_:j5 fs t=Qs ns) (_:σ[i]?=Qs (Qs v)) (_:Reach K H v ns w) (_:∀H',VJ H H'->Q w H')
section
variable {X:Cx}{F:Ql ZE}{a b c o:ZG}{es:Ql ZG}{fa:DE}{fs:Ql DE}{g g1 g2:DS}{ft:DT}{st:ZH}{tg:ZG}
def DK(i:Nat)(hN:X.N[i]?=Qs x:=by rfl)(hv:autoParam (dD X.env.scope x) qzA._auto_1)(hd:Xg x:=by decide) (W3:X4 x:=by decide):PE X (.Name x pos) (plE X.K F i []):=by refine PE.imp (dU hN hv hd W3) ?_;rintro σ H Q ⟨A,t,v,ns,w,R,e,h1,h2,h⟩;cases e;cases h2;exact⟨v,h1,h H (VJ.refl H)⟩
def DO(ha:PE X a (plE X.K F i fs))(hb:PE X b (dE X.K F fb))(hs:o5 b:=by intro _ _;rfl):PE X (.Subscript a b pos) (plE X.K F i (fs++[fb])):=by
 refine PE.imp (pS (zck.or uS) ha hb hs) ?_;rintro σ H Q ⟨A,t,v,ns,w,R,e,h1,h2,h⟩;obtain⟨ms,n,r,a1,a2,a3,rfl⟩:=Ds e;obtain⟨p,vs,b1,b2,b3⟩:=h2.snoc;refine⟨A,t,v,ms,_,R,a1,h1,b1,λH1 gs=>⟨A,t,r,R.grow gs,a2,λy H2 Wz q=>?_⟩⟩;have p2:=q.full;rw[a3]at p2;cases cL p2;rcases b2 with b2|b2
 .exact .inl ⟨p,vs,n,w,rfl,rfl,V5.mono (gs.trans Wz) b2,b3,h _ (gs.trans Wz)⟩
 .exact .inr ⟨p,vs,n,w,rfl,rfl,WG.mono (gs.trans Wz) b2,b3,h _ (gs.trans Wz)⟩
end
def toDn:Ev->Qo D
 |.cl d=>if flat d then Qs d else Qn
 |.tm d=>if flat d then Qs d else Qn
 |.nw xs=>if Wv xs then Qs (.lst xs) else Qn
 |.dn d=>Qs d
theorem Wt.toDn{K:Rv}(m:WM H (A++F))(g:VJ H H')(h:Wt K F A H H' r v)(e:toDn r=Qs d):Wt K F A H H' (.dn d) v:=by
 cases r with
 |cl d0=>
  simp only[DL.toDn]at e;split at e
  .rename_i f;cases e;exact⟨[],Sv,λb hb=>(by cases hb),.flat f h⟩
  .cases e
 |tm d0=>
  simp only[DL.toDn]at e;split at e
  .rename_i f;cases e;exact⟨[],Sv,λb hb=>(by cases hb),.flat f (Rep.W2 (m.mono g) f (Rep.mono (aR _ _) h))⟩
  .cases e
 |nw xs=>
  simp only[DL.toDn]at e;split at e
  .rename_i f;cases e;obtain⟨p,vs,rfl,h1,h2,h3⟩:=h;exact⟨[p],by simp,λb hb=>by simp_all,.lst h2 (Wf.za7 f h3)⟩
  .cases e
 |dn d0=>cases e;assumption
abbrev DN:=Th->Qo (D×Ql Nat)
abbrev nh:=Th->Qo (Ql D×Ql Nat)
def Ip(H:Hp)(t:Th)(σ:L2.St)(I:Ql Nat)(b:ZE):Prop:=H b=Qn\/∃i∈I,∃xs,t[i]?=Qs (.own xs)/\σ[i]?=Qs (Qs (.ref b))
inductive dN(K:Rv)(F:List ZE)(f:DN)(σ:L2.St)(H:Hp)(Q:VK):Prop
 |mk (A t d I:_) (_:RS K F H A t σ) (_:f t=Qs (d,I)) (_:∀v H' B,VJ H H'->B.Nodup->(∀b∈B,Ip H t σ I b)->Wn K (aj (B++(A++F)) H') H' d v B->Q v H')
inductive dNs(K:Rv)(F:List ZE)(f:nh)(σ:L2.St)(H:Hp)(Q:List V->Hp->Prop):Prop
 |mk (A t ds I:_) (_:RS K F H A t σ) (_:f t=Qs (ds,I)) (_:∀vs H' B,VJ H H'->B.Nodup->(∀b∈B,Ip H t σ I b)->Wf K (aj (B++(A++F)) H') H' ds vs B->Q vs H')
def We.ziA:∀{t:Th}{σ:L2.St}{A:Ql ZE},We K H0 H t σ A->A.Nodup->∀{i j:Nat}{xs ys:Ql D},t[i]?=Qs (.own xs)->t[j]?=Qs (.own ys)->σ[i]?=Qs (Qs (.ref b))->σ[j]?=Qs (Qs (.ref b))->i=j:=by
 intro _ _ _ h
 induction h with
 |nil=>intro w0 i j xs ys e1 e2 s1 s2;simp at e1
 |@no _ _ _ _ r ih=>
  intro n i j xs ys e1 e2 s1 s2;cases i with
  |zero=>simp at e1
  |succ i=>
   cases j with
   |zero=>simp at e2
   |succ j=>exact congrArg _ (ih n (e1) (e2) (s1) (s2))
 |@val _ _ _ _ _ _ r ih=>
  intro n i j xs ys e1 e2 s1 s2;cases i with
  |zero=>simp at e1
  |succ i=>
   cases j with
   |zero=>simp at e2
   |succ j=>exact congrArg _ (ih n (e1) (e2) (s1) (s2))
 |@own _ _ _ _ _ _ _ _ r ih=>
  intro n i j xs ys e1 e2 s1 s2;cases i with
  |zero=>
   cases j with
   |zero=>rfl
   |succ j=>
    obtain⟨p,vs,a1,a2,_⟩:=r.Yw (e2)
    simp_all
  |succ i=>
   cases j with
   |zero=>
    obtain⟨p,vs,a1,a2,_⟩:=r.Yw (e1)
    simp_all
   |succ j=>exact congrArg _ (ih (RQ.mp n).2 (e1) (e2) (s1) (s2))
 |@dp _ _ _ _ _ _ _ r ih=>
  intro n i j xs ys e1 e2 s1 s2;cases i with
  |zero=>simp at e1
  |succ i=>
   cases j with
   |zero=>simp at e2
   |succ j=>exact congrArg (·+1) (ih (RI.mp n).2.1 (i:=i) (j:=j) (xs:=xs) (ys:=ys) (by simpa using e1) (by simpa using e2) (by simpa using s1) (by simpa using s2))
section
variable {X:Cx}{F:Ql ZE}{a b c o:ZG}{es:Ql ZG}{fa:DE}{fs:Ql DE}{fn:DN}{fns:nh}
def zb(i:Nat):DN:=λt=>match t[i]? with
 |some (.own xs)=>if Wv xs then Qs (.lst xs,[i]) else Qn
 |some (.val d)=>if flat d then Qs (d,[]) else Qn
 |_=>Qn
def LN(i:Nat)(hN:X.N[i]?=Qs x:=by rfl)(hv:autoParam (dD X.env.scope x) qzA._auto_1)(hd:Xg x:=by decide) (W3:X4 x:=by decide):PE X (.Name x pos) (dN X.K F (zb i)):=by
 refine PE.imp (dU (i:=i) hN hv hd W3) ?_;rintro σ H Q ⟨A,t,d,I,R,e,h⟩;unfold zb at e;split at e
 .rename_i xs q;split at e
  .rename_i f;cases e;obtain⟨p,vs,h1,h2,h3,h4⟩:=R.rel.Yw q;refine⟨_,h1,h _ H [p] (VJ.refl H) (by simp) (λb hb=>?_) (.lst h3 (Wf.za7 f (VQ.W2 (λb hb=>?_) f (VQ.mono (aR _ _) h4))))⟩
   .simp at hb;subst hb;exact .inr ⟨i,by simp,xs,q,h1⟩
   .rcases RB.mp hb with rfl|hb
    .exact⟨mL _,h3⟩
    .exact R.mu b hb
  .cases e
 .rename_i d0 q;split at e
  .rename_i f;cases e;obtain⟨v,h1,h2⟩:=R.rel.zaR q;exact⟨v,h1,h v H _ (VJ.refl H) Sv (λb hb=>by cases hb) (.flat f h2)⟩
  .cases e
 .cases e
def eQ(f:DE):DN:=λt=>(f t).bind λr=>(toDn r).map λd=>(d,[])
def kZ(he:PE X a (dE X.K F fa)):PE X a (dN X.K F (eQ fa)):=by
 refine PE.imp he ?_;rintro σ H Q ⟨A,t,d,I,R,e,h⟩;unfold eQ at e;rcases e1:fa t with _|r
 .rw[e1]at e;cases e
 rw[e1]at e;simp only[RF]at e;rcases e2:toDn r with _|d0
 .rw[e2]at e;cases e
 rw[e2]at e;cases e;refine⟨A,t,r,R,e1,λv H' gs q=>?_⟩;obtain⟨B,b1,b2,b3⟩:=q.toDn R.mu gs e2;exact h v _ B gs b1 (λb hb=>.inl (b2 b hb)) b3
def kb:nh:=λ_=>Qs ([],[])
def eR(f:DN)(g:nh):nh:=λt=>(f t).bind λq=>(g t).bind λw=>if q.2.all (λi=>!w.2.contains i) then Qs (q.1::w.1,q.2++w.2) else Qn
def pQ:PA X [] (dNs X.K F kb):=PA.imp gx λσ H Q ⟨A,t,rs,I,R,e,h⟩=>by cases e;exact h _ H _ (VJ.refl H) Sv (λb hb=>by cases hb) .nil
def jv(ha:PE X a (dN X.K F fn))(hr:PA X es (dNs X.K F fns))(hs:RM (a::es) X.env=(Qf,eval a X.env)::RM es X.env:=by rfl):PA X (a::es) (dNs X.K F (eR fn fns)):=by
 refine PA.imp (fG ha hr hs) ?_;rintro σ H Q ⟨A,t,ds,I,R,e,h⟩;unfold eR at e;rcases e1:fn t with _|q1
 .rw[e1]at e;cases e
 rcases e2:fns t with _|q2
 .rw[e1,e2]at e;cases e
 obtain⟨d1,I1⟩:=q1;obtain⟨YC,I2⟩:=q2;rw[e1,e2]at e;simp only[RF]at e;replace e:=Xz e;obtain⟨dj,e⟩:=e;cases e;have dj:∀i∈I1,i∉I2:=λi hi=>by
  simp_all
 refine⟨A,t,d1,I1,R,e1,λv H1 B1 g1 n1 f1 r1=>⟨A,t,YC,I2,R.grow g1,e2,λvs H2 B2 g2 n2 f2 r2=>?_⟩⟩;have g:=g1.trans g2;have l1:=r1.lists;have l1':=l1.mono g2;have l2:=r2.lists;have lA:=R.mu.mono g;refine h _ _ _ g (RI.mpr ⟨n1,n2,λx hx y hy e=>?_⟩) (λb hb=>?_) (.cons (Wn.W2 ((l1'.app l2).app lA) (aR _ _) (Wn.mono (cD g2) r1 λ_ _ _ w=>g2 _ _ w)) (Wf.W2 ((l1'.app l2).app lA) (aR _ _) r2))
 .subst e;obtain⟨ws,hw⟩:=l1 x hx;rcases f2 x hy with z|⟨j,hj,ys,j1,j2⟩
  .lia
  .rcases f1 x hx with z|⟨i,hi,xs,i1,i2⟩
   .obtain⟨p,us,a1,_,a3,_⟩:=R.rel.Yw j1;lia
   .have:=R.rel.ziA R.nd i1 j1 i2 j2;subst this;exact dj i hi hj
 .rcases Ry.mp hb with z|z
  .rcases f1 b z with w|⟨i,hi,w⟩
   .exact .inl w
   .exact .inr ⟨i,Rw _ hi,w⟩
  .rcases f2 b z with w|⟨i,hi,w⟩
   .exact .inl (VJ.free g1 w)
   .exact .inr ⟨i,Ru _ hi,w⟩
def za(g:nh):DN:=λt=>(g t).bind λq=>if q.1.length<=1000 then Qs (.tup q.1,q.2) else Qn
def LM(h:PA X es (dNs X.K F fns)):PE X (.Tuple es x1 pos) (dN X.K F (za fns)):=by
 refine PE.imp (ud h) ?_;rintro σ H Q ⟨A,t,d,I,R,e,h⟩;unfold za at e;rcases e1:fns t with _|q
 .rw[e1]at e;cases e
 obtain⟨ds,I'⟩:=q;rw[e1]at e;simp only[RF]at e;refine cH e λhl e=>?_;cases e;refine⟨A,t,ds,I,R,e1,λvs H1 B g1 n1 f1 r1=>⟨by rw[r1.length];exact ZZ (by lia),λp hp=>?_⟩⟩;have s1:=dZ (o:=HO.tup vs) hp;exact h _ _ B (g1.trans s1) n1 f1 (.tup (WG.of (bH bK (eP (r1.lists.app (R.mu.mono g1)) hp))) (Wf.mono (cD s1) r1 λ_ _ _ w=>s1 _ _ w))
end
theorem Wf.zhh{K:Rv}(q:Wn K H0 H d v C):∀{ds:Ql D}{vs:Ql V}{B:Ql ZE},Wf K H0 H ds vs B->Wf K H0 H (ds++[d]) (vs++[v]) (B++C)
 |_,_,_,.nil=>by have:=Wf.cons q .nil;simpa using this
 |_,_,_,.cons h r=>by have:=Wf.cons h (Wf.zhh q r);simpa[SI] using this
noncomputable def fI(k:D->Th->Qo Th)(ft:DT)(fe:DE):Ql D->Th->Qo (Ql D)
 |[],_=>Qs []
 |d::ds,t=>(k d t).bind λt1=>(ft t1).bind λb=>if b then(fe t1).bind λr=>(toDn r).bind λd=>(fI k ft fe ds t1).map λxs=>d::xs else fI k ft fe ds t1
def jL(n:Nat)(cap:Ql Nat)(fs:DI)(k:D->Th->Qo Th)(ft:DT)(fe:DE):DE:=λt=>(fs t).bind λq=>(gC t cap).bind λc=>if q.2.length<=50000 then(fI k ft fe q.2 (RT n Sl.no++c.2.map Sl.val)).map λxs=>.dn (.lst xs) else Qn
theorem AK:∀{ds:Ql D}{t:Th}{xs:Ql D},fI k ft fe ds t=Qs xs->xs.length<=ds.length
 |[],t,xs,e=>by cases e;simp
 |d::ds,t,xs,e=>by
  unfold fI at e;refine aA e λt1 e1 e=>?_;have e:((ft t1).bind λb=>if b then(fe t1).bind λr=>(toDn r).bind λd=>(fI k ft fe ds t1).map λxs=>d::xs else fI k ft fe ds t1)=Qs xs:=e;refine aA e λb e2 e=>?_;cases b with
  |false=>have:=AK (ds:=ds) (t:=t1) e;simp;lia
  |true=>
   have e:((fe t1).bind λr=>(toDn r).bind λd=>(fI k ft fe ds t1).map λxs=>d::xs)=Qs xs:=e;refine aA e λr e3 e=>?_;have e:((toDn r).bind λd=>(fI k ft fe ds t1).map λxs=>d::xs)=Qs xs:=e;refine aA e λd0 e5 e=>?_;have e:((fI k ft fe ds t1).map λxs=>d0::xs)=Qs xs:=e;cases e4:fI k ft fe ds t1 with
   |none=>rw[e4]at e;cases e
   |some ys=>rw[e4]at e;cases e;have:=AK e4;simp;lia
inductive CN(K:Rv)(kt:D->Th->Option Th)(ft:DT)(fe:DE)(ds xs:List D)(H1:Hp)(P:List ZE)(p:ZE)(Good:List ZE->Hp->Prop)(i m:Nat)(σ:L2.St)(H:Hp):Prop
 |mk (th:Th) (acc rest:List D) (vs:List V) (B:List ZE) (hm:i+m=ds.length) (R:RS K P H [] th σ) (ec:fI kt ft fe (ds.drop i) th=Qs rest) (ex:acc++rest=xs) (hv:H p=Qs (.lst vs)) (hr:Wf K (aj P H) H acc vs B) (nd:B.Nodup) (np:p∉B) (fr:∀b∈B,H1 b=Qn) (sm:VJ H1 H) (gg:Good P H)
def CN.step (src:Src K ds J Good)(hk:cV K P g kt)(hp:p∈P)(hn:H1 p=Qn)(hx:xs.length<=50000) (c:CN K kt ft fe ds xs H1 P p Good i (m+1) σ H):J.go i H/\∃N:L2.St->Hp->Prop,(∀σ2 H2,N σ2 H2->∃m',m'<m+1/\CN K kt ft fe ds xs H1 P p Good (i+1) m' σ2 H2)/\∀x H2,J.XH i H x H2->g x σ H2 λσ2 H3=>∃F',dT K F' ft σ2 H3 λb H4=>
   if b=Qt then ∃F',dE K F' fe σ2 H4 λv H5=>∃vs,H5 p=Qs (.lst vs)/\vs.length<Sf/\N σ2 (upd H5 p (.lst (vs++[v]))) else N σ2 H4:=by
 obtain⟨th,acc,rest,vs,B,hm,R,ec,ex,hv,hr,nd,np,fr,sm,gg⟩:=c;have Yz:i<ds.length:=by lia
 have hm':i+1+m=ds.length:=by lia
 refine⟨src.go _ _ i gg Yz,_,λ_ _ q=>⟨m,SO m,q⟩,λx H2 y=>?_⟩;obtain⟨Wz,d,hd,rd⟩:=src.XH _ _ i x _ gg R.mu y Yz;rw[Ax Yz hd]at ec;refine aA ec λt1 k1 ec=>?_;refine aA ec λbb k2 ec=>?_;refine hk σ _ _ _ _ d x _ (R.grow Wz) rd k1 λσ2 A2 X3 R2=>?_;cases um R2 X3;refine⟨P,[],t1,bb,R2,k2,λH3 YB=>?_⟩;have s3:=Wz.trans YB;have R3:=R2.grow YB;cases bb with
 |false=>exact mF ⟨t1,acc,rest,vs,B,hm',R3,ec,ex,s3 _ _ hv,Wf.mono (cD s3) hr λp _ o w=>s3 _ _ w,nd,np,fr,sm.trans s3,src.keep _ _ _ _ gg (cD s3)⟩
 |true=>
  refine aA (ec) λre k3 ec=>?_;refine aA ec λde k5 ec=>?_;refine uy ec λys k4 ec=>?_;subst ec;refine mE ⟨P,[],t1,re,R3,k3,λv H4 gs4 q4=>⟨vs,gs4 _ _ (s3 _ _ hv),Bx hr.length ex hx,?_⟩⟩;have s4:=s3.trans gs4;have hu:VJ _ (aj P (upd H4 p (.lst (vs++[v])))):=oQ hp;have s5:=(cD s4).trans hu;obtain⟨B4,n4,f4,r4⟩:=q4.toDn R3.mu gs4 k5;have nD4:p∉B4:=λz=>by cases(f4 _ z).symm.trans (s3 _ _ hv)
  refine⟨t1,acc++[de],ys,_,B++B4,hm',RS.zbX (R3.grow gs4) hp,k4,by rw[SI];assumption,bK,?_,?_,?_,?_,CM hn sm s4,src.keep _ _ _ _ gg s5⟩
  .refine Wf.zhh (Wn.mono hu (Wn.W2 (R3.mu.mono gs4) (aR _ _) r4) λb hb o w=>?_) (Wf.mono s5 hr λb hb o w=>?_)
   .rw[aY (λz:b=p=>nD4 (z▸hb))];assumption
   .rw[aY (λz:b=p=>np (z▸hb))];exact s4 _ _ w
  .refine RI.mpr ⟨nd,n4,λx hx y hy e=>?_⟩;subst e;obtain⟨us,w⟩:=hr.lists x hx;have:=s3 _ _ w;rw[f4 x hy]at this;cases this
  .simp_all
  .exact λb hb=>(Ry.mp hb).elim (fr b) λz=>VJ.free (sm.trans s3) (f4 b z)
def Jn{X:Cx}(hk:∀F',cV X.K F' g kt)(h:dE X.K F (jL n cap fs kt ft fe) σ H Q):nL n cap (dI X.K F fs) g (λσ H Q=>∃F',dT X.K F' ft σ H Q) (λσ H Q=>∃F',dE X.K F' fe σ H Q) σ H Q:=by
 obtain⟨A,t,r,R,e,h⟩:=h;refine aA e λq e1 e=>?_;refine aA e λc e2 e=>?_;obtain⟨b,ds⟩:=q;obtain⟨c,zbS⟩:=c;refine cH e λhlen e=>?_;refine uy e λxs e3 e=>?_;subst e;obtain⟨cvs,cv1,cv2⟩:=r8 R e2;refine⟨A,t,b,ds,R,e1,λJ H1 Good gs src gd p hD=>?_⟩;have Z9:=R.mu.mono gs;refine⟨CN _ _ _ _ _ _ _ _ p _,⟨_,⟨_,[],xs,[],[],UC _,RS.block Z9 hD uX FU gs cv1 cv2,e3,rfl,bK,.nil,Sv,UD,λ_ z=>(UD z).elim,dZ hD,src.keep _ _ _ _ gd ((bE _ FV).trans (kh hD))⟩⟩,λi m σ' H' c'=>?_⟩;cases m with
 |succ m=>exact .inr (c'.step src (hk _) (Rz ..) hD (SH (AK e3) hlen))
 |zero=>
  obtain⟨th,acc,rest,vs,B,hm,_,ec,ex,hv,hr,nd,np,fr,sm,gg⟩:=c';cases hm;rw[Tr]at ec;cases ec;rw[SE]at ex;subst ex;refine .inl ⟨src.stop _ _ gg,h _ _ (gs.trans sm) ⟨_,RQ.mpr ⟨np,nd⟩,λx hx=>?_,.lst hv (Wf.W2 (λq hq=>?_) (aR _ _) hr)⟩⟩
  .rcases RB.mp hx with rfl|z
   .exact VJ.free gs hD
   .exact VJ.free gs (fr x z)
  .rcases Ry.mp hq with z|z
   .rcases RB.mp z with rfl|z
    .exact⟨mL _,hv⟩
    .exact hr.lists q z
   .obtain⟨us,w⟩:=Z9 q z;exact⟨us,sm _ _ w⟩
def L7(S:Yk X scope)(hc:X.calm=Qt)(hi:PI X tg iter (dI X.K F fs)) (hN:N'.length=n+cap.length) (XQ:∀(k:Nat) (j:Nat),cap[k]?=Qs j->∃x,N'[n+k]?=Qs x/\X.N[j]?=Qs x/\(x,SS)∈scope.names) (hg:∀C s₃ H₃ fp pins,PG (bC X N' scope C s₃ H₃ fp pins) tg g) (hk:∀F',cV X.K F' g kt) (ht:∀C s₃ H₃ fp pins F',XZ (bC X N' scope C s₃ H₃ fp pins) ifs (dT X.K F' ft)) (he:∀C s₃ H₃ fp pins F',PE (bC X N' scope C s₃ H₃ fp pins) elt (dE X.K F' fe)) (hs:∀x,foldedSetIterable iter X.env x=pure x:=by intro _;rfl):PE X (.ListComp elt [⟨tg,iter,ifs,0⟩] scope pos) (dE X.K F (jL n cap fs kt ft fe)):=PE.imp (DZ S hc hi hN XQ hg (λC s₃ H₃ fp pins Y6 s σ H Q I ⟨F',q⟩=>ht C _ _ _ _ _ _ s σ H Q I q) (λC s₃ H₃ fp pins Y6 s σ H Q I ⟨F',q⟩=>he C _ _ _ _ _ _ s σ H Q I q) hs) λ_ _ _ h=>Jn hk h
def yP (n:Nat)(cap:Ql Nat)(N':Ql Str)(hc:X.calm=Qt)(hi:PI X tg iter (dI X.K F fs)) (hg:∀C s₃ H₃ fp pins,PG (bC X N' scope C s₃ H₃ fp pins) tg g) (hk:∀F',cV X.K F' g kt) (ht:∀C s₃ H₃ fp pins F',XZ (bC X N' scope C s₃ H₃ fp pins) ifs (dT X.K F' ft)) (he:∀C s₃ H₃ fp pins F',PE (bC X N' scope C s₃ H₃ fp pins) elt (dE X.K F' fe)) (Y9:scope.kind=.function:=by rfl) (Zb:lG scope.names X.env.kindOf=Qt:=by rfl) (hN:N'.length=n+cap.length:=by rfl) (XQ:jN N' X.N n scope.names 0 cap=Qt:=by rfl) (hs:∀x,foldedSetIterable iter X.env x=pure x:=by intro _;rfl):PE X (.ListComp elt [⟨tg,iter,ifs,0⟩] scope pos) (dE X.K F (jL n cap fs kt ft fe)):=L7 (rW Y9 Zb) hc hi hN (λk j e=>by simpa using oX XQ k j e) hg hk ht he hs
section
variable {X:Cx}{F:Ql ZE}{a b c o:ZG}{es:Ql ZG}{fa:DE}{fs:Ql DE}{g g1 g2:DS}{ft:DT}{st:ZH}{tg:ZG}
def yk (h:Rep K H (.bl p) v):v=.bl p:=by cases h;rfl
def zD:Ev->Ev->Qo Ev:=λr1 r2=>match r1,r2.d with
 |.nw xs,.int k=>if xs.length<=100&&decide (-1000000<=k/\k<=1000) then Qs (.nw (RT k.toNat xs).flatten) else Qn
 |_,_=>Qn
theorem VQ.rep{K:Rv}(r:VQ K H ds vs):∀k:Nat,VQ K H (RT k ds).flatten (RT k vs).flatten
 |0=>.nil
 |k+1=>by simpa[UL] using r.app (VQ.rep r k)
def eO:Xx X F (binaryOp .Mult) zD:=by
 intro pins s σ H0 H A x y v u Q r1 r2 r I m g0 rx ry q1 q2 e hq;unfold zD at e;split at e
 .rename_i xs k z;split at e
  .rename_i ok;simp at ok;cases e;have p2:=q2.full;rw[z]at p2;cases cL p2;obtain⟨p,vs,rfl,h1,h2,h3⟩:=q1;refine Ms _ s σ H _ _ v u Q I rx ry ⟨p,k,vs,rfl,rfl,h2,by lia,by lia,?_,λl hl=>hq _ _ (dZ hl) ⟨l,_,rfl,VJ.free g0 hl,bK,VQ.mono (kh hl) (VQ.rep (VQ.mono (bE H λa z=>Rx _ z) h3) _)⟩⟩;rw[h3.length];have h5:k.toNat<=1000:=by lia
   exact SH (VB ok.1 h5) (by decide)
  .cases e
 .cases e
def lH:Ql D->Qo (Ql Bool)
 |[]=>Qs []
 |.bl i::r=>(lH r).map λns=>i::ns
 |_::_=>Qn
theorem HK:∀{ds:Ql D}{ns:Ql Bool},lH ds=Qs ns->ds=ns.map D.bl
 |[],ns,e=>by cases e;rfl
 |.bl i::r,ns,e=>by
  unfold lH at e;cases e1:lH r with
  |none=>rw[e1]at e;cases e
  |some m=>rw[e1]at e;cases e;rw[HK e1];rfl
 |.Wj::r,ns,e=>by cases e
 |.int _::r,ns,e=>by cases e
 |.str _::r,ns,e=>by cases e
 |.tup _::r,ns,e=>by cases e
 |.lst _::r,ns,e=>by cases e
theorem CU{K:Rv}:∀{ns:Ql Bool}{vs:Ql V},VQ K H (ns.map D.bl) vs->vs=ns.map V.bl
 |[],_,.nil=>rfl
 |n::r,_,.cons h q=>by cases yk h;rw[CU q];rfl
theorem A8:∀{bs:Ql Bool}{VU:Ql R8},Vals (bs.map V.bl) VU->LSm.BoolsAre VU bs
 |[],VU,h=>by cases h;exact .nil
 |b::bs,VU,h=>by
  cases h with
  |cons r rr=>cases r;exact .cons b (A8 rr)
def A7(hc:X.calm=Qt):gj X (.builtin "all") (λxs H Q=>∃(p:ZE) (bs:Ql Bool),xs=[.ref p]/\V5 X.K H p (bs.map V.bl)/\Q (.bl (bs.all id)) H):=by
 intro pins s σ H xs us Q I r h;obtain⟨p,bs,rfl,hs,q⟩:=h;obtain⟨u,rfl,ru⟩:=jT r;cases ru;obtain⟨VU,rv,pl,_⟩:=I.list hs;have hb:=A8 rv;have hl:=PlainL.XY pl;have Yy:p<s.heap.objs.size:=by obtain⟨_,e,_⟩:=hl;exact RN e
 refine call_all_walk (wpAny_pyIter_list hl ⟨s.heap.objs.size,[s.heap.objs.size,p],[s.heap.objs.size],VU.toArray.size,_,_,λi=>(bs[i]?).getD Qt,rfl,Walks.list (A:=X.A.in1) (I.ok.hd hc) _ p (So Yy) VU.toArray,⟨⟨_,RV _ rfl,rfl,rfl⟩,hl.push _⟩,λi v s' Q' E' hP hQ=>?_,λh' tk hk=>?_⟩)
 .obtain⟨b,e,rfl⟩:=hb.get i v (by simpa using hP);have hQ:Q' ((bs[i]?).getD _) _:=hQ;rw[e]at hQ;exact wpAny_truthy_bool hQ
 .have e:((Si VU.toArray.size).all λi=>(bs[i]?).getD Qt)=bs.all id:=by rw[R9,hb.length,LSm.range_all]
  refine⟨.bl _,H,I.kept (LSm.kept_iter hk),rfl,?_⟩;rw[e];assumption
def HG(hc:X.calm=Qt):gj X (.builtin "any") (λxs H Q=>∃(p:ZE) (bs:Ql Bool),xs=[.ref p]/\V5 X.K H p (bs.map V.bl)/\Q (.bl (bs.any id)) H):=by
 intro pins s σ H xs us Q I r h;obtain⟨p,bs,rfl,hs,q⟩:=h;obtain⟨u,rfl,ru⟩:=jT r;cases ru;obtain⟨VU,rv,pl,_⟩:=I.list hs;have hb:=A8 rv;have hl:=PlainL.XY pl;have Yy:p<s.heap.objs.size:=by obtain⟨_,e,_⟩:=hl;exact RN e
 refine call_any_walk (wpAny_pyIter_list hl ⟨s.heap.objs.size,[s.heap.objs.size,p],[s.heap.objs.size],VU.toArray.size,_,_,λi=>(bs[i]?).getD Qf,rfl,Walks.list (A:=X.A.in1) (I.ok.hd hc) _ p (So Yy) VU.toArray,⟨⟨_,RV _ rfl,rfl,rfl⟩,hl.push _⟩,λi v s' Q' E' hP hQ=>?_,λh' tk hk=>?_⟩)
 .obtain⟨b,e,rfl⟩:=hb.get i v (by simpa using hP);have hQ:Q' ((bs[i]?).getD _) _:=hQ;rw[e]at hQ;exact wpAny_truthy_bool hQ
 .have e:((Si VU.toArray.size).any λi=>(bs[i]?).getD Qf)=bs.any id:=by rw[R9,hb.length,LSm.range_any]
  refine⟨.bl _,H,I.kept (LSm.kept_iter hk),rfl,?_⟩;rw[e];assumption
def oI(f:Ql Bool->Bool):Ql Ev->Qo Ev:=λrs=>match rs with
 |[r]=>(match r.d with
  |.lst ds=>(lH ds).map λbs=>.cl (.bl (f bs))
  |_=>Qn)
 |_=>Qn
def r6(h:gj X (.builtin id') (λxs H Q=>∃(p:ZE) (bs:Ql Bool),xs=[.ref p]/\V5 X.K H p (bs.map V.bl)/\Q (.bl (f bs)) H)):X0 X F (.builtin id') (oI f):=by
 refine X0.of h λH0 H A xs rs e Q m g q ek hq=>?_;unfold oI at ek;split at ek
 case h_2=>cases ek
 cases q with
 |@cons _ v _ vs q1 q2=>
  cases q2;split at ek
  case h_2=>cases ek
  rename_i ds z;rcases e1:lH _ with _|bs
  .rw[e1]at ek;cases ek
  rw[e1]at ek;cases ek;have p:=q1.full;rw[z,HK e1]at p;cases p with
  |@lst _ l us h1 h2=>have:=CU h2;subst this;exact⟨l,bs,rfl,h1,hq _ H (VJ.refl H) (.bl _)⟩
end
noncomputable def nW(a b c:Int):Bool:=Builtin.Range.small a b c&&decide (c≠0/\c.natAbs<1000000/\0<=Builtin.Range.rangeSize a b c)
def tK(a b c:Int):Ql D:=(Si (Builtin.Range.rangeSize a b c).toNat).map λi=>.int (a+(i:Nat)*c)
def cB(k:Nat)(N:Ql Str)(g:DS):Ql D->Qo Ev:=λds=>if ds.length=k then(g (pG N ds)).bind iq else Qn
def NT(e:cB k N g ds=Qs r):ds.length=k:=by unfold cB at e;lia
def NS(e:cB k N g ds=Qs r):∃o,g (pG N ds)=Qs o/\iq o=Qs r:=by
 unfold cB at e;split at e
 .cases e1:g _ with
  |none=>rw[e1]at e;cases e
  |some o=>simp_all
 .cases e
section
variable {X:Cx}{F:Ql ZE}{elt tg iter:ZG}{ifs:Ql ZG}{scope:XW}{fs:DI}{g:TG}{ft:DT}{fe:DE}{i:Nat}{y:Str}
def Qr(up:∀{σ:L2.St}{H:Hp}{Q:VK},dE X.K F fc σ H Q->nL n cap (dI X.K F fs) g (λσ H Q=>∃F',dT X.K F' ft σ H Q) (λσ H Q=>∃F',dE X.K F' fe σ H Q) σ H Q)(hc:X.calm=Qt)(hi:PI X tg iter (dI X.K F fs)) (hg:∀C s₃ H₃ fp pins,PG (bC X N' scope C s₃ H₃ fp pins) tg g) (ht:∀C s₃ H₃ fp pins F',XZ (bC X N' scope C s₃ H₃ fp pins) ifs (dT X.K F' ft)) (he:∀C s₃ H₃ fp pins F',PE (bC X N' scope C s₃ H₃ fp pins) elt (dE X.K F' fe)) (ZO:X.N.Nodup) (ZL:X.N[i]?=Qs y) (hy:Loc X.env.scope y) (X8:swapsWith (.ListComp elt [⟨tg,iter,ifs,0⟩] scope pos) (Qs (.Name y py)) Zl.line X.env=pure Qt) (hf:X.fn y=Qt\/X.env.scope.names.lookup y=Qs .local) (Y9:scope.kind=.function) (Zb:lG scope.names X.env.kindOf=Qt) (hN:N'.length=n+cap.length) (XQ:jN N' X.N n scope.names 0 cap=Qt) (hs:∀x,foldedSetIterable iter X.env x=pure x):PS X (.Assign [.Name y py] (.ListComp elt [⟨tg,iter,ifs,0⟩] scope pos) Zl) (dS X.K F (aW i fc)):=by
 refine PS.imp (DC (tt:=λσ H Q=>∃F',dT _ _ _ σ H Q) (te:=λσ H Q=>∃F',dE _ _ _ σ H Q) (rW Y9 Zb) hc hi hN (λk j e=>by simpa using oX XQ k j e) hg (λC s₃ H₃ fp pins Y6 s σ H Q I ⟨F',q⟩=>ht C _ _ _ _ F' _ s σ H Q I q) (λC s₃ H₃ fp pins Y6 s σ H Q I ⟨F',q⟩=>he C _ _ _ _ F' _ s σ H Q I q) ZO ZL hy X8 hf hs) ?_;rintro E σ H ⟨A,t,o,R,e,h⟩;refine aA e λr1 e1 e=>?_;rcases e2:dR t i _ with _|t'
 .rw[e2]at e;cases e
 rw[e2]at e;cases e;refine up ⟨A,t,r1,R,e1,λv H' gs q=>?_⟩;obtain⟨A',g',R'⟩:=R.put gs q e2;exact h _ _ _ g' R'
def pP(n:Nat)(cap:Ql Nat)(N':Ql Str)(ZO:X.N.Nodup)(ZL:X.N[i]?=Qs y)(hy:Loc X.env.scope y)(hc:X.calm=Qt)(hi:PI X tg iter (dI X.K F fs)) (hg:∀C s₃ H₃ fp pins,PG (bC X N' scope C s₃ H₃ fp pins) tg g) (hk:∀F',cV X.K F' g kt) (ht:∀C s₃ H₃ fp pins F',XZ (bC X N' scope C s₃ H₃ fp pins) ifs (dT X.K F' ft)) (he:∀C s₃ H₃ fp pins F',PE (bC X N' scope C s₃ H₃ fp pins) elt (dE X.K F' fe)) (X8:swapsWith (.ListComp elt [⟨tg,iter,ifs,0⟩] scope pos) (Qs (.Name y py)) Zl.line X.env=pure Qt:=by rfl) (hf:X.fn y=Qt\/X.env.scope.names.lookup y=Qs .local:=by first|exact .inl rfl|exact .inr rfl) (Y9:scope.kind=.function:=by rfl) (Zb:lG scope.names X.env.kindOf=Qt:=by rfl) (hN:N'.length=n+cap.length:=by rfl) (XQ:jN N' X.N n scope.names 0 cap=Qt:=by rfl) (hs:∀x,foldedSetIterable iter X.env x=pure x:=by intro _;rfl):PS X (.Assign [.Name y py] (.ListComp elt [⟨tg,iter,ifs,0⟩] scope pos) Zl) (dS X.K F (aW i (aM n cap fs kt ft fe))):=Qr (λh=>Cn hk h) hc hi hg ht he ZO ZL hy X8 hf Y9 Zb hN XQ hs
end
section
variable {X:Cx}{F:Ql ZE}{a b c o:ZG}{es:Ql ZG}{fa:DE}{fs:Ql DE}{g g1 g2:DS}{ft:DT}{st:ZH}{tg:ZG}
def jE:Ev->Ev->Qo Ev:=λr1 r2=>match r2.d with
 |.lst ds=>if bz r1.d&&ds.all (λd=>bz d&&bZ 0 d r1.d) then Qs (.cl (.bl (!ds.any λd=>cP d r1.d))) else Qn
 |.tup ds=>if bz r1.d&&ds.all (λd=>bz d&&bZ 0 d r1.d) then Qs (.cl (.bl (!ds.any λd=>cP d r1.d))) else Qn
 |_=>Qn
def yU:Xx X F (compareOp .NotIn) jE:=by
 intro pins s σ H0 H A x y v u Q r1 r2 r I m g0 rx ry q1 q2 e hq;unfold jE at e;have p1:=q1.full;have p2:=q2.full;split at e
 .rename_i ds z;rw[z]at p2;refine cH e λc e=>?_;rw[RJ]at c;cases e;cases p2 with
  |@lst _ p vs h1 h2=>
   obtain⟨a,b⟩:=qT p1 c.1 h2 c.2;exact D4 _ s σ H x _ v u Q I rx ry ⟨p,vs,rfl,.inl h1,tx p1 c.1,a,by
    rw[b];exact hq _ H (VJ.refl H) (.bl _)⟩
 .rename_i ds z;rw[z]at p2;refine cH e λc e=>?_;rw[RJ]at c;cases e;cases p2 with
  |@tup _ p vs h1 h2=>
   obtain⟨a,b⟩:=qT p1 c.1 h2 c.2;exact D4 _ s σ H x _ v u Q I rx ry ⟨p,vs,rfl,.inr h1,tx p1 c.1,a,by
    rw[b];exact hq _ H (VJ.refl H) (.bl _)⟩
 .cases e
def fD:Int->Ql Int->Int
 |m,[]=>m
 |m,n::r=>fD (if n<m then n else m) r
theorem zp:∀(r:Ql Int) (m:Int),fD m r∈m::r/\∀a∈m::r,fD m r<=a
 |[],m=>⟨by simp[fD],by simp[fD]⟩
 |n::r,m=>by
  obtain⟨h1,h2⟩:=zp r (if n<m then n else m);have h3:=h2 (if n<m then n else m) (Rz ..);have k1:(if n<m then n else m)<=m:=by split<;>lia
  have k2:(if n<m then n else m)<=n:=by split<;>lia
  refine⟨?_,λa ha=>?_⟩
  .show fD _ r∈m::n::r;rcases RB.mp h1 with z|z
   .rw[z];split<;>simp
   .simp[z]
  .show fD _ r<=a;rcases RB.mp ha with z|z
   .lia
   .grind
def NF(hj:j<ys.size):numAt ys j∈ys.toList.map (·.1):=by rw[numAt_eq];exact getD_mem (by simpa using hj)
def QH(hc:X.calm=Qt):gj X (.builtin "min") (λxs H Q=>∃(p:ZE) (ns:Ql Int) (M:Int),xs=[.ref p]/\V5 X.K H p (ns.map V.int)/\M∈ns/\(∀a∈ns,M<=a)/\Q (.int M) H):=by
 intro pins s σ H xs us Q I r h;obtain⟨p,ns,M,rfl,hs,hm,hle,q⟩:=h;obtain⟨u,rfl,ru⟩:=jT r;cases ru;obtain⟨VU,rv,pl,_⟩:=I.list hs;have hi:=oN rv;obtain⟨ys,e⟩:=hi.allInts.items;have hns:ys.toList.map (·.1)=ns:=by rw[<-nums_intItems];exact(by rw[<-e];exact hi.numsOf)
 have hsz:=by have:=Ul hm;rw[<-hns]at this;simpa using this
 refine min_intList (I.ok.hd hc) (by rw[<-e];exact PlainL.XY pl) hsz λv h' tk hv hk=>?_;obtain⟨t,rfl⟩:=intItems_at hv;obtain⟨h1,h2⟩:=argBest_lt (numAt ys) (ys.size-1);refine⟨.int M,H,I.kept hk,⟨t,?_⟩,q⟩;have a1:=hle _ (hns▸NF (j:=argBest (λi j=>decide (numAt ys i<numAt ys j)) (ys.size-1)) (by lia));rw[<-hns]at hm;obtain⟨j,hj,ej⟩:=mem_getD hm;have hj':=by simpa using hj
 have a2:=h2 j (by lia);rw[numAt_eq _ j]at a2;congr 1;lia
end
section
variable {X:Cx}{F:Ql ZE}{a b c o:ZG}{es:Ql ZG}{fa:DE}{fs:Ql DE}{g g1 g2:DS}{ft:DT}{st:ZH}{tg:ZG}
def oH(f:Int->Ql Int->Int):Ql Ev->Qo Ev:=λrs=>match rs with
 |[r]=>(match r.d with
  |.lst ds=>(match dX ds with
   |some (n::ns)=>Qs (.cl (.int (f n ns)))
   |_=>Qn)
  |_=>Qn)
 |_=>Qn
def QB(h:∀n ns,gj X (.builtin id') (λxs H Q=>∃p:ZE,xs=[.ref p]/\V5 X.K H p ((n::ns).map V.int)/\Q (.int (f n ns)) H)):X0 X F (.builtin id') (oH f):=by
 intro pins s σ H0 H A xs us Q rs r I m g v q ek hq;unfold oH at ek;split at ek
 case h_2=>cases ek
 cases q with
 |@cons _ y _ ys q1 q2=>
  cases q2;split at ek
  case h_2=>cases ek
  rename_i ds z;split at ek
  case h_2=>cases ek
  rename_i n ns z2;cases ek;have p:=q1.full;rw[z,kf z2]at p;cases p with
  |@lst _ l ws h1 h2=>rw[iA h2]at h1;exact h n _ _ s σ H _ _ Q I v ⟨l,rfl,h1,hq _ H (VJ.refl H) (.int _)⟩
def QA(hc:X.calm=Qt):X0 X F (.builtin "min") (oH fD):=QB λn ns pins s σ H xs us Q I v ⟨p,e,h1,q⟩=>QH hc _ s σ H _ _ Q I v ⟨p,_,_,e,h1,(zp _ n).1,(zp _ n).2,q⟩
def QT:bootBuiltins "list"=Qs (.type "list"):=by rfl
theorem B5:∀{xs:Ql V}{us:Ql R8},xs.length=us.length->(∀(i:Nat) (x:V) (u:R8),xs[i]?=Qs x->us[i]?=Qs u->RelV x u)->Vals xs us
 |[],[],_,_=>.nil
 |[],_::_,h,_=>by simp at h
 |_::_,[],h,_=>by simp at h
 |x::xs,u::us,h,k=>.cons (k 0 x u rfl rfl) (B5 (by simpa using h) λi y w e1 e2=>k (i+1) y w (e1) (e2))
def OR{k:Int}(h:ItemsOf (λi v=>∃t,v=.int (lo+i*k) t) acc n):Vals ((Si n).map λi=>V.int (lo+(i:Nat)*k)) acc.toList:=by
 refine B5 (by simp[h.1]) λi x u e1 e2=>?_;obtain⟨t,rfl⟩:=h.2 i u (by simpa using e2);rw[Se,Tt (by
  cases Nat.lt_or_ge i n with
  |inl z=>assumption
  |inr z=>simp_all)]at e1
 simp at e1;subst e1;exact⟨t,rfl⟩
def zm{σ:L2.St}{hi k:Int}(hc:X.calm=Qt)(I:L2.Inv X pins σ H s)(ok:nW lo hi k=Qt)(sz:Builtin.Range.rangeSize lo hi k<=50000) (q:∀p,H p=Qn->Q (.ref p) (upd H p (.lst ((Si (Builtin.Range.rangeSize lo hi k).toNat).map λi=>V.int (lo+(i:Nat)*k))))):wpAny (model X.prog X.w) X.A (call (.type "list") [.ref s.heap.objs.size]) (EP X pins σ Q) X.xe {s with heap:=s.heap.push {cls:=.type "range",data:=.fields #[.int lo t,.int hi u,.int k v]},toks:=tk}:=by
 simp only[nW,RJ,XT]at ok;have I1:L2.Inv X _ σ H {s with heap:=s.heap.push {cls:=.type "range",data:=.fields #[.int lo t,.int hi u,.int k v]},toks:=tk}:=I.kept λb o e=>RC _ e;have en:Builtin.Range.rangeSize lo hi k=(((Builtin.Range.rangeSize lo hi k).toNat:Nat)):=by lia
 refine call_list_range (I.ok.hd hc) (IsRange.new ..) ok.1 en (by lia) λh' tk' acc c' hk hS zj2=>?_;refine⟨.ref _,_,I1.laid (o:=HO.lst _) hk (RL _) ⟨?_,_,c',OR zj2,hS⟩,rfl,q _ I1.fresh⟩;refine ZZ ?_;rw[RE,T3];lia
noncomputable def tQ:Ql D->Qo (Int×Int×Int)
 |[.int n]=>Qs (0,n,1)
 |[.int i,.int j]=>Qs (i,j,1)
 |[.int i,.int j,.int k]=>Qs (i,j,k)
 |_=>Qn
def jd(g:DA):DE:=λt=>(g t).bind λrs=>(tQ (rs.map Ev.d)).bind λq=>if nW q.1 q.2.1 q.2.2&&decide (Builtin.Range.rangeSize q.1 q.2.1 q.2.2<=50000) then Qs (.nw (tK q.1 q.2.1 q.2.2)) else Qn
def uc{p0 p1 p2:Pos}(hc:X.calm=Qt)(hgl:Gl X "list")(hml:X.mg "list"=Qn)(hgr:Gl X "range")(hmr:X.mg "range"=Qn)(ha:PA X (a::es) (dA X.K F ga)) (WY:RM [.Call (.Name "range" p1) (a::es) [] p2] X.env=[(Qf,eval (.Call (.Name "range" p1) (a::es) [] p2) X.env)]:=by rfl) (zcs:RM (a::es) X.env=(Qf,eval a X.env)::RM es X.env:=by rfl) (zaH:(TV p2 (RM es X.env)).any (·.1)=Qf:=by rfl):PE X (.Call (.Name "list" p0) [.Call (.Name "range" p1) (a::es) [] p2] [] pos) (dE X.K F (jd ga)):=by
 intro pins s σ H Q I h;obtain⟨A,t,r,R,e,h⟩:=h;unfold jd at e;rcases e1:ga t with _|rs
 .rw[e1]at e;cases e
 rw[e1]at e;simp only[RF]at e;rcases e2:tQ _ with _|q
 .rw[e2]at e;cases e
 rw[e2]at e;simp only[RF]at e;replace e:=Xz e;obtain⟨ok,e⟩:=e;simp at ok;cases e;have mk:∀H1,VJ H _->∀p,H1 p=Qn->Q _ (upd H1 p (.lst ((Si _).map _))):=λH1 g1 p hp=>by
  refine h _ _ (g1.trans (dZ hp)) ⟨p,_,rfl,VJ.free g1 hp,bK,?_⟩;have e3:tK q.1 q.2.1 q.2.2=((Si (Builtin.Range.rangeSize q.1 q.2.1 q.2.2).toNat).map λi=>q.1+(i:Nat)*q.2.2).map D.int:=by simp[tK]
  have e4:((Si (Builtin.Range.rangeSize q.1 q.2.1 q.2.2).toNat).map λi=>V.int (q.1+(i:Nat)*q.2.2))=((Si (Builtin.Range.rangeSize q.1 q.2.1 q.2.2).toNat).map λi=>q.1+(i:Nat)*q.2.2).map V.int:=by simp
  rw[e3,e4];exact VQ.ints _
 refine wpAny_Call_Name_kw (jB I hgl hml QT (PyProof.Rows.callWith_type1 ?_ (rfl) rfl));rw[WY];show wpAny _ _ _ _ _ s;refine Calls.spliced_cons (Call_ (jB I hgr hmr boot_range (PyProof.Rows.callWith_type1 (aF (ha _ _ s σ H (λvs H1=>VJ H _/\Xo _ F A H _ _ _) I ⟨A,t,rs,R,e1,λvs H1 g1 q1=>⟨g1,q1⟩⟩) λus s1 ⟨vs,H1,I1,r1,g1,q1⟩=>?_) zcs zaH)));have full:=q1.full;obtain⟨q0,qh,qk⟩:=q;unfold tQ at e2;split at e2
 .rename_i n z;cases e2;rw[z]at full;have ev:=iA (ns:=[qh]) full;subst ev;obtain⟨u,rfl,ru⟩:=r1.one;obtain⟨t1,rfl⟩:=ru;exact call_range_1 (Calls.spliced_nil (zm hc I1 ok.1 ok.2 (mk _ g1)))
 .rename_i i j z;cases e2;rw[z]at full;have ev:=iA (ns:=[q0,qh]) full;subst ev;obtain⟨u,w,rfl,ru,YR⟩:=r1.two;obtain⟨t1,rfl⟩:=ru;obtain⟨t2,rfl⟩:=YR;exact call_range_2 (Calls.spliced_nil (zm hc I1 ok.1 ok.2 (mk _ g1)))
 .rename_i i j k z;cases e2;rw[z]at full;have ev:=iA (ns:=[q0,qh,qk]) full;subst ev;cases r1 with
  |cons r rr=>
   cases rr with
   |cons r' rr=>
    cases rr with
    |cons r'' rr=>cases rr;obtain⟨t1,rfl⟩:=r;obtain⟨t2,rfl⟩:=r';obtain⟨t3,rfl⟩:=r'';have ok':=ok.1;simp only[nW,RJ,XT]at ok';exact call_range_3 ok'.2.1 (Calls.spliced_nil (zm hc I1 ok.1 ok.2 (mk _ g1))) (.inl (PyProof.noPylong_of_log2 (Sr (Ff (k:=20) (by lia)) (by decide))))
 .cases e2
end
section
variable {X:Cx}{F:Ql ZE}{a b c o:ZG}{es:Ql ZG}{fa:DE}{fs:Ql DE}{g g1 g2:DS}{ft:DT}{st:ZH}{tg:ZG}
def zY:Ij X (pN X.K):=by
 intro pins s σ H o i ov iv Q I ro ri h;obtain⟨p,xs,k,z,rfl,rfl,hq,he,q⟩:=h;cases ro;obtain⟨t,rfl⟩:=ri;obtain⟨VU,r,pl,hz⟩:=I.list hq;obtain⟨j,h1,h2,h3,h4,h5⟩:=Bp he;obtain⟨w,ew,YR⟩:=r.get h2;have hl:=r.length;have hn:=oz;have fin:EP X _ σ Q w s:=⟨z,H,I,YR,q⟩;cases Int.lt_or_le k 0 with
 |inr h0=>have hj:k.toNat=j:=SX (by rw[<-seqIndex_of h0 h5];assumption);exact wpAny_getItem_list (PlainL.XY pl) h0 (by lia) (by rw[hj];simpa using ew) fin
 |inl h0=>
  have hj:(k+VU.toArray.size).toNat=j:=by rw[R9,<-hl];exact SX (by rw[<-seqIndex_neg h0 h4];assumption)
  exact wpAny_getItem_list_neg (PlainL.XY pl) h0 (by rw[R9];lia) (by lia) (by rw[hj];simpa using ew) fin
def uO(f:Int->Int->Int)(t:Th)(i:Nat)(k r:Ev):Qo Out:=match t[i]?,k.d,r.d with
 |some (.own xs),.int n,.int m=>(XD xs.length n).bind λj=>match xs[j]? with
  |some (.int v)=>Qs (.nx (t.set i (.own (xs.set j (.int (f v m))))))
  |_=>Qn
 |_,_,_=>Qn
def rS(f:Int->Int->Int)(i:Nat)(fk fe:DE):DS:=λt=>(fk t).bind λk=>(fe t).bind λr=>uO f t i k r
def Lm(i:Nat){p0:Pos}(ho:sv X op (uU f))(hb:PE X b (dE X.K F fb))(he:PE X a (dE X.K F fa))(hN:X.N[i]?=Qs x:=by rfl)(hv:autoParam (dD X.env.scope x) qzA._auto_1)(hd:Xg x:=by decide) (W3:X4 x:=by decide) (ha:∀ov iv new,augStore b ov iv new=(do holding [new,ov,iv] (setItem ov iv new);release [new,ov,iv] [];pure .next):=by intros;rfl):PS X (.AugAssign (.Subscript (.Name x p0) b X9) op a pos) (dS X.K F (rS f i fb fa)):=by
 refine PS.imp (yB (dU hN hv hd W3) hb zY he ho pL ha) ?_;rintro E σ H ⟨A,t,o,R,e,h⟩;unfold rS at e;rcases e1:fb t with _|kk
 .rw[e1]at e;cases e
 rcases e2:fa t with _|r
 .rw[e1,e2]at e;cases e
 rw[e1,e2]at e;have e:uO f t i _ r=Qs o:=e;unfold uO at e;split at e
 case h_2=>cases e
 rename_i xs n m z1 z2 z3;rcases e3:XD _ n with _|j
 .rw[e3]at e;cases e
 rw[e3]at e;simp at e;split at e
 case h_2=>cases e
 rename_i v z4;cases e;obtain⟨p,vs,a1,a2,a3,a4⟩:=R.rel.Yw z1;obtain⟨v0,b1,b2⟩:=a4.get z4;cases cL b2;refine⟨_,a1,A,t,kk,R,e1,λw H1 XR q1=>?_⟩;have p1:=q1.full;rw[z2]at p1;cases cL p1;refine⟨p,vs,n,_,rfl,rfl,V5.of (XR _ _ a3),(by unfold L2.W7;rw[a4.length,e3];assumption),A,t,r,R.grow XR,e2,λy H2 Wz q2=>?_⟩;have p2:=q2.full;rw[z3]at p2;cases cL p2;have gs:=XR.trans Wz;refine⟨v,m,rfl,rfl,p,vs,n,j,rfl,rfl,gs _ _ a3,by rw[a4.length];assumption,?_⟩;obtain⟨R',g'⟩:=(R.grow gs).write z1 a1 (VQ.set (.int _) j (VQ.mono (cD gs) a4));exact h _ _ _ ((Gr.of_same R.mu.left gs).trans g') R'
end
def PH:Sl->Sl
 |.own xs=>.val (.lst xs)
 |.dp d=>.val d
 |s=>s
def mP(t:Th)(i:Nat):Th:=match t[i]? with
 |some s=>t.set i (PH s)
 |none=>t
def vh(s:Sl)(t:Th)(i:Nat):mP (s::t) (i+1)=s::mP t i:=by unfold mP;simp;cases t[i]?<;>simp
theorem We.give{K:Rv}:∀{t:Th}{σ:L2.St}{A:Ql ZE} (i:Nat),We K H0 H t σ A->A.Nodup->∃(B A':Ql ZE),A'.Sublist A/\(∀b∈B,b∈A/\b∉A')/\∀H1,VJ H0 H1->(∀b∈B,∀o,H b=Qs o->H1 b=Qs o)->We K H1 H (mP t i) σ A'
 |_,_,_,i,.nil,_=>⟨[],[],Sh _,λb hb=>(by cases hb),λH1 e _=>by simpa[mP] using We.nil⟩
 |_,_,A,0,.no r,n=>⟨[],A,Sh _,λb hb=>(by cases hb),λH1 e _=>.no (We.mono e r λ_ _ _ h=>h)⟩
 |_,_,A,0,.val h r,n=>⟨[],A,Sh _,λb hb=>(by cases hb),λH1 e _=>.val (Rep.mono e h) (We.mono e r λ_ _ _ h=>h)⟩
 |_,_,_,0,.own (p:=p) (A:=A) h1 h2 r,n=>by
  refine⟨[p],A,TR _ _,λb hb=>?_,λH1 e k=>?_⟩
  .simp_all
  .exact .val (.lst (V5.of (k p (by simp) _ h1)) (VQ.mono e h2)) (We.mono e r λ_ _ _ h=>h)
 |_,_,_,0,.dp (B:=B) (A:=A) h r,n=>by refine⟨B,A,T7 _ _,λb hb=>⟨Rw _ hb,λz=>(RI.mp n).2.2 b hb b z rfl⟩,λH1 e k=>?_⟩;exact .val (h.rep e k) (We.mono e r λ_ _ _ h=>h)
 |_,_,_,i+1,.no r,n=>by obtain⟨B,A',a1,a2,a3⟩:=We.give i r n;refine⟨B,A',a1,a2,λH1 e k=>?_⟩;rw[vh];exact .no (a3 _ e k)
 |_,_,_,i+1,.val h r,n=>by obtain⟨B,A',a1,a2,a3⟩:=We.give i r n;refine⟨B,A',a1,a2,λH1 e k=>?_⟩;rw[vh];exact .val (Rep.mono e h) (a3 _ e k)
 |_,_,_,i+1,.own h1 h2 r,n=>by
  have n0:=RQ.mp n;obtain⟨B,A',a1,a2,a3⟩:=We.give i r n0.2;refine⟨B,_,a1.cons₂ _,λb hb=>⟨Rx _ (a2 b hb).1,λz=>?_⟩,λH1 e k=>?_⟩
  .simp_all
  .rw[vh];exact .own h1 (VQ.mono e h2) (a3 _ e k)
 |_,_,_,i+1,.dp h r,n=>by
  have n0:=RI.mp n;obtain⟨B,A',a1,a2,a3⟩:=We.give i r n0.2.1;refine⟨B,_,S4 (Sh _) a1,λb hb=>⟨Ru _ (a2 b hb).1,λz=>?_⟩,λH1 e k=>?_⟩
  .grind
  .rw[vh];exact .dp (Wn.mono e h λ_ _ _ w=>w) (a3 _ e k)
theorem RS.give{K:Rv}(R:RS K F H A t σ)(i:Nat):∃A',RS K F H A' (mP t i) σ/\Gr A H A' H:=by
 obtain⟨B,A',a1,a2,a3⟩:=R.rel.give i R.nd;have sub:∀x∈A',x∈A:=λx hx=>a1.subset hx;refine⟨A',⟨λq hq=>R.mu q ((Ry.mp hq).elim (λz=>Rw _ (sub q z)) λz=>Ru _ z),R.nd.sublist a1,λp hp=>R.dj p (sub p hp),a3 _ (bE H λa z=>(Ry.mp z).elim (λz=>Rw _ (sub a z)) λz=>Ru _ z) λb hb o h=>bH h λz=>?_⟩,⟨λ_ _ _ h=>h,λb hb=>?_,λb hb=>.inl (sub b hb)⟩⟩
 .rcases Ry.mp z with w|w
  .exact(a2 b hb).2 w
  .exact R.dj b (a2 b hb).1 w
 .obtain⟨vs,q⟩:=R.mu b (Rw _ hb);rw[q];simp
def rQ(i:Nat)(g:DS):DS:=λt=>g (mP t i)
def Qm (h:dS K F (rQ i g) E σ H):dS K F g E σ H:=by obtain⟨A,t,o,R,e,p⟩:=kz h;obtain⟨A',R',gr⟩:=R.give i;exact lF R' e (p.back gr)
def Dy{st:ZH}(i:Nat)(h:PS X st (dS X.K F g)):PS X st (dS X.K F (rQ i g)):=PS.imp h λ_ _ _ q=>Qm q
end DL
namespace L2
open PySem.Spec
def BF(K:Rv)(a b:ZE):It:=⟨λi H=>∃xs ys x y,V5 K H a xs/\V5 K H b ys/\xs[i]?=Qs x/\ys[i]?=Qs y,λi H x H'=>∃p v u,H p=Qn/\x=.ref p/\H'=upd H p (.tup [v,u])/\(∀xs,V5 K H a xs->xs[i]?=Qs v)/\∀ys,V5 K H b ys->ys[i]?=Qs u,λi H=>∃xs ys,V5 K H a xs/\V5 K H b ys/\i=min xs.length ys.length⟩
def Ri(z TI TO i1 i2 l1 l2:ZE)(i:Nat)(h:ZF):Prop:=IsZip h z TI TO .none/\IsPair h TI (.ref i1) (.ref i2)/\(∃a b,IsPair h TO a b)/\h.IsListIter i1 l1 i/\h.IsListIter i2 l2 i
def IV (l1 l2 z TI TO i1 i2:ZE)(D:ZipApart z TI TO i1 i2 l1 l2):Turn P w K (.Tuple elts k pos) (BF K l1 l2) [z,TI,TO,i1,i2] z (Ri z TI TO i1 i2 l1 l2) where
 mem:=Rz ..
 obj:=λi h st b hb=>by
  obtain⟨h1,h2,⟨a,c,h3⟩,h4,h5⟩:=st;simp only[RB,UD,or_false]at hb;rcases hb with rfl | rfl | rfl | rfl | rfl
  .simp_all
  .simp_all
  .simp_all
  .obtain⟨o,e1,_,d⟩:=h4
   simp_all
  .obtain⟨o,e1,_,d⟩:=h5
   simp_all
 keep:=λi h h' st kk=>by obtain⟨h1,h2,⟨a,c,h3⟩,h4,h5⟩:=st;exact⟨kk z (by simp) _ h1,kk _ (by simp) _ h2,⟨a,c,kk _ (by simp) _ h3⟩,h4.at λo q=>kk _ (by simp) o q,h5.at λo q=>kk _ (by simp) o q⟩
 item:=λX hP hw hK hc i pins s σ H E I hf st hg=>by
  subst hP hw hK;obtain⟨xs,ys,x,y,hq1,hq2,hx,hy⟩:=hg;obtain⟨zcl,rv1,p1,_⟩:=I.list hq1;obtain⟨zbd,rv2,p2,_⟩:=I.list hq2;obtain⟨u1,hu1,ru1⟩:=rv1.get hx;obtain⟨u2,hu2,ru2⟩:=rv2.get hy;have W:=WalksT.zip2 (prog:=X.prog) (w:=X.w) (I.ok.hd hc) z _ _ _ _ _ _ D zcl.toArray zbd.toArray;have L1:=(RZ.mp hu1).1;have L2':=(RZ.mp hu2).1;obtain⟨z1,z2,z3,z4,z5⟩:=st;refine W.item i s _ _ (by simp;lia) ⟨z1,z2,z3,z4,z5,p1.isList,p2.isList⟩ λT vals h1 tk pt hT it md kp=>?_;obtain⟨w1,w2,e1,e2,rfl⟩:=pt;have Z5:w1=u1:=by
   simp_all
  have Z4:w2=u2:=by
   simp_all
  subst Z5;subst Z4;have nT:=W.apart i T h1 md;refine⟨_,rfl,W.go elts k pos i T { s with heap:=h1,toks:=tk } _ _ md λh2 Zk kp2=>?_⟩;have kk:∀b o,b∉[z,TI,TO,i1,i2]->s.heap.get? b=Qs o->h2.get? b=Qs o:=λb o nb q=>by have nw:b∉[z,TO,i1,i2]:=λw=>nb (by simp_all);exact kp2 b o nw (kp b o nw q)
  obtain⟨o,t1,t2,t3⟩:=it;have it2:IsTup h2 T #[w1,w2]:=⟨o,kp2 T o nT t1,t2,t3⟩;have I2:Inv X pins σ (upd H T (.tup [x,y])) { s with heap:=h2,toks:=tk }:=I.zfj (t':=tk) kk hf hT
   ⟨by show 2<=Sf;decide,[w1,w2],.cons ru1 (.cons ru2 .nil),it2⟩
  obtain⟨y1,y2,y3,y4,y5,_,_⟩:=Zk;refine⟨.ref T,_,I2,rfl,⟨T,x,y,I.Wk.fresh hT,rfl,rfl,λas ha=>by rw[I.zci ha hq1];assumption,λbs hb=>by rw[I.zci hb hq2];assumption⟩,⟨y1,y2,y3,y4,y5⟩,λb hb=>?_⟩;have Yy:b<s.heap.objs.size:=by
   simp at hb;rcases hb with rfl | rfl | rfl | rfl | rfl
   .exact RN z1
   .exact RN z2
   .obtain⟨_,_,e⟩:=z3;exact RN e
   .obtain⟨_,e,_⟩:=z4;exact RN e
   .obtain⟨_,e,_⟩:=z5;exact RN e
  have nb:b≠T:=λe=>by rw[e]at Yy;exact absurd Yy (Nat.not_lt.mpr hT)
  rw[aY nb];exact(hf b hb).1
 done:=λX hP hw hK hc i pins s σ H E I hf st hg=>by
  subst hP hw hK;obtain⟨xs,ys,hq1,hq2,hi⟩:=hg;obtain⟨zcl,rv1,p1,_⟩:=I.list hq1;obtain⟨zbd,rv2,p2,_⟩:=I.list hq2;have W:=WalksT.zip2 (prog:=X.prog) (w:=X.w) (I.ok.hd hc) z TI TO i1 i2 l1 l2 D zcl.toArray zbd.toArray;have e:i=min zcl.toArray.size zbd.toArray.size:=by have:=rv1.length;have:=rv2.length;simp only[R9];lia
  obtain⟨z1,z2,z3,z4,z5⟩:=st;refine W.done s _ _ (e ▸ ⟨z1,z2,z3,z4,z5,p1.isList,p2.isList⟩) λh' tk kp=>⟨rfl,I.zfk (t':=tk) (λb o nb q=>kp b o (λw=>nb (by simp only[RB,UD,or_false]at w ⊢;rcases w with w | w | w | w<;>simp[w])) q) hf⟩
 self:=λX i s Q E st h=>by obtain⟨z1,_⟩:=st;exact wpAny_pyIter_zip z1 h
def O7(K:Rv)(ta:TA):TI:=λσ H R=>ta σ H λvs H1=>∃a b,vs=[.ref a,.ref b]/\(∃xs,V5 K H1 a xs)/\(∃ys,V5 K H1 b ys)/\R (BF K a b) H1
def QO:bootBuiltins "zip"=Qs (.type "zip"):=by rfl
def DQ{elts:Ql ZG}{k:Nat}{p:Pos}(hg:Gl X "zip")(hm:X.mg "zip"=Qn)(ha:PA X [a,b] ta)(hs:RM [a,b] X.env=(Qf,eval a X.env)::RM [b] X.env:=by rfl)(Zr:(TV pos (RM [b] X.env)).any (·.1)=Qf:=by rfl):PI X (.Tuple elts k tp) (.Call (.Name "zip" p) [a,b] [] pos) (O7 X.K ta):=by
 intro pins s σ H R I h;refine Call_ (jB I hg hm QO (PyProof.Rows.callWith_type1 (aF (ha _ _ s σ H _ I h) λus s1 ⟨vs,H1,I1,r1,q1⟩=>?_) hs Zr));obtain⟨l1,l2,rfl,⟨xs,hx⟩,⟨ys,hy⟩,q⟩:=q1;obtain⟨u,w,rfl,ru,YR⟩:=r1.two;cases ru;cases YR;obtain⟨zcl,rv1,p1,_⟩:=I1.list hx;obtain⟨zbd,rv2,p2,_⟩:=I1.list hy;refine call_zip_2 p1.isList p2.isList λh' z1 z2 z3 z4 z5 z6 hk=>?_;refine wpAny_pyIter_zip z1 ⟨_,_,_,_,H1,rfl,(I1.kept (t':=s1.toks) hk),IV _ _ _ _ _ _ _ (zipApart_new (by obtain⟨_,e,_⟩:=p1.isList;exact RN e) (by obtain⟨_,e,_⟩:=p2.isList;exact RN e)),⟨z1,z2,⟨_,_,z3⟩,z4,z5⟩,λc hc=>?_,q⟩;have le:s1.heap.objs.size<=c:=by
  grind
 exact I1.zau le (I1.Wk.fresh le)
end L2
namespace DL
open PySem.Spec L2
section
variable {X:Cx}{F:Ql ZE}{a b c:ZG}{es:Ql ZG}{fa:DE}{g g1 g2:DS}
def hZ:Ql D->Ql D->Ql D
 |x::xs,y::ys=>.tup [x,y]::hZ xs ys
 |_,_=>[]
theorem nv:∀(xs ys:Ql D),(hZ xs ys).length=min xs.length ys.length
 |[],ys=>rfl
 |x::xs,[]=>rfl
 |x::xs,y::ys=>by simp[hZ,nv _ _]
theorem wx:∀(xs ys:Ql D) (j:Nat) (x y:D),xs[j]?=Qs x->ys[j]?=Qs y->(hZ xs ys)[j]?=Qs (.tup [x,y])
 |[],ys,j,x,y,e1,e2=>by simp at e1
 |x'::xs,[],j,x,y,e1,e2=>by simp at e2
 |x'::xs,y'::ys,0,x,y,e1,e2=>by simp at e1 e2;subst e1;subst e2;rfl
 |x'::xs,y'::ys,j+1,x,y,e1,e2=>by simpa[hZ] using wx _ _ j x y (e1) (e2)
def AA(k:D->Th->Qo Th)(f f':DE)(body:DS):DS:=λt=>(f t).bind λr=>(f' t).bind λr'=>match r.d,r'.d with
 |.lst ds,.lst es=>if r.ok&&r'.ok then bY k body (hZ ds es) t else Qn
 |_,_=>Qn
def Le{p1 p2:Pos}(hp:PassesOwn (model X.prog X.w) X.A X.env X.xe)(hc:X.calm=Qt)(hge:Gl X "zip")(hm:X.mg "zip"=Qn)(ha:PE X a (dE X.K F fa))(ZN:PE X b (dE X.K F fb))(hg:PG X (.Tuple elts kk tp) gt)(ht:cV X.K F gt kt)(hb:WH X body (dS X.K F g)) (WY:RM [a,b] X.env=(Qf,eval a X.env)::RM [b] X.env:=by rfl) (zcs:RM [b] X.env=[(Qf,eval b X.env)]:=by rfl) (zaH:(TV p2 (RM [b] X.env)).any (·.1)=Qf:=by rfl) (hs:∀x,foldedSetIterable (.Call (.Name "zip" p1) [a,b] [] p2) X.env x=pure x:=by intro _;rfl):PS X (.For (.Tuple elts kk tp) (.Call (.Name "zip" p1) [a,b] [] p2) body [] pos) (dS X.K F (AA kt fa fb g)):=by
 refine PS.imp (kY hp hc (DQ hge hm (fG ha (fG ZN gx zcs) WY) WY zaH) hg hb hs) ?_;intro E σ H hh;obtain⟨A,t,o,R,e,h⟩:=kz hh;unfold AA at e;rcases e1:fa t with _|r
 .rw[e1]at e;cases e
 rcases e2:fb t with _|r'
 .rw[e1,e2]at e;cases e
 rw[e1,e2]at e;refine⟨A,t,r,R,e1,λv H1 XR q1=>⟨A,t,r',R.grow XR,e2,λv2 H2 Wz q2=>?_⟩⟩;have e:(match r.d,r'.d with
  |.lst _,.lst _=>if r.ok&&r'.ok then bY _ g _ t else Qn
  |_,_=>Qn)=Qs o:=e
 split at e
 case h_2=>cases e
 rename_i ds es z1 z2;replace e:=Xz e;obtain⟨ok,e⟩:=e;rw[RJ]at ok;have gs:=XR.trans Wz;have cl:=(q1.mono Wz).clean R.mu gs ok.1;rw[z1]at cl;have cl2:=(q2.back XR).clean R.mu gs ok.2;rw[z2]at cl2;cases cl with
 |@lst _ p vs h1 h2=>
 cases cl2 with
 |@lst _ p' ws Yf Xi=>
  refine⟨p,p',rfl,⟨vs,V5.mono (aR _ _) h1⟩,⟨ws,V5.mono (aR _ _) Yf⟩,?_⟩;refine vl (λA H=>(V5 _ (aj (A++F) H) p _/\VQ _ (aj (A++F) H) _ _)/\V5 _ (aj (A++F) H) _ _/\VQ _ (aj (A++F) H) _ _) ht (R.grow gs) e (h.back (Gr.of_same R.mu.left gs)) ⟨⟨h1,h2⟩,Yf,Xi⟩ (λA H A' H' q gr=>⟨⟨V5.mono gr.same q.1.1,VQ.mono gr.same q.1.2⟩,V5.mono gr.same q.2.1,VQ.mono gr.same q.2.2⟩) (λA H q=>⟨vs,ws,V5.mono (aR _ _) q.1.1,V5.mono (aR _ _) q.2.1,by rw[nv,h2.length,Xi.length]⟩) (λA H i q hi=>?_) (λA H i x H' q mu y hi=>?_)
  .rw[nv]at hi;have Za:i<vs.length:=by rw[h2.length];lia
   have hi2:i<ws.length:=by rw[Xi.length];lia
   exact⟨vs,ws,_,_,V5.mono (aR _ _) q.1.1,V5.mono (aR _ _) q.2.1,RH Za,RH hi2⟩
  .obtain⟨l,v,u,Y8,rfl,rfl,hv,hu⟩:=y;obtain⟨d,hd,rd⟩:=q.1.2.YM (hv _ (V5.mono (aR _ _) q.1.1));obtain⟨d',YA,rd'⟩:=q.2.2.YM (hu _ (V5.mono (aR _ _) q.2.1));have sm:=dZ (o:=HO.tup [v,u]) Y8;refine⟨sm,_,wx _ _ i d _ hd YA,?_⟩;exact .tup (WG.of (bH bK (eP mu Y8))) (.cons (Rep.mono (cD sm) rd) (.cons (Rep.mono (cD sm) rd') .nil))
end
section
variable {X:Cx}{F:Ql ZE}{a b c o:ZG}{es:Ql ZG}{fa:DE}{fs:Ql DE}{g g1 g2:DS}{ft:DT}{st:ZH}{tg:ZG}
def kg(n:Int):Ql Int->Ql Int
 |[]=>[n]
 |m::r=>if n<=m then n::m::r else m::kg n r
noncomputable def e9:Ql Int->Ql Int
 |[]=>[]
 |n::r=>kg n (e9 r)
theorem zQ(n:Int):∀r:Ql Int,(kg n r).Perm (n::r)
 |[]=>Ue _
 |m::r=>by
  unfold kg;split
  .rfl
  .exact(Wl m (zQ n r)).trans (Wm n m r)
theorem jW:∀r:Ql Int,(e9 r).Perm r
 |[]=>Ue _
 |n::r=>(zQ n _).trans (Wl n (jW r))
theorem FP(n:Int):∀r:Ql Int,r.Pairwise (·<=·)->(kg n r).Pairwise (·<=·)
 |[],_=>by simp[kg]
 |m::r,h=>by
  unfold kg;have hc:=Sy.mp h;split
  .rename_i hle;refine Sy.mpr ⟨λx hx=>?_,h⟩;rcases RB.mp hx with rfl|z
   .assumption
   .exact Xd hle (hc.1 x z)
  .refine Sy.mpr ⟨λx hx=>?_,FP n r hc.2⟩;rcases RB.mp ((zQ n r).mem_iff.mp hx) with rfl|z
   .lia
   .exact hc.1 x z
theorem pJ:∀r:Ql Int,(e9 r).Pairwise (·<=·)
 |[]=>List.Pairwise.nil
 |n::r=>FP n _ (pJ r)
theorem xa:∀{xs ys:Ql Int},xs.Perm ys->xs.Pairwise (·<=·)->ys.Pairwise (·<=·)->xs=ys
 |[],ys,p,_,_=>(List.Perm.nil_eq p)
 |x::xs,[],p,_,_=>absurd p.length_eq (by simp)
 |x::xs,y::ys,p,h1,h2=>by
  have c1:=Sy.mp h1;have c2:=Sy.mp h2;have e:x=y:=by
   have l1:y<=x:=by rcases RB.mp (p.mem_iff.mp (Rz ..)) with z|z;lia;exact c2.1 x z
   have l2:x<=y:=by rcases RB.mp (p.mem_iff.mpr (Rz ..)) with z|z;lia;exact c1.1 y z
   lia
  subst e;rw[xa (VG p) c1.2 c2.2]
def QG:gj X (.builtin "sorted") (λxs H Q=>∃(p:ZE) (ns:Ql Int),xs=[.ref p]/\V5 X.K H p (ns.map V.int)/\ns.length<64/\∀l,H l=Qn->Q (.ref l) (upd H l (.lst ((e9 ns).map V.int)))):=by intro pins s σ H xs us Q I r h;obtain⟨p,ns,rfl,hs,h64,q⟩:=h;obtain⟨u,rfl,ru⟩:=jT r;cases ru;obtain⟨VU,rv,pl,_⟩:=I.list hs;have hi:=oN rv;have hl:=hi.length;refine sorted_ints (PlainL.XY pl) hi (by lia) λout ns' hI hp ho=>?_;have e:=xa (hp.trans (jW _).symm) ho (pJ _);subst e;obtain⟨k,ek⟩:=sortedAll_at s.heap VU out;have fr:s.heap.objs.size<=s.heap.objs.size+1:=VE _;refine⟨.ref _,_,I.laid (o:=HO.lst _) (λb o e=>sortedAll_old e) fr ⟨?_,_,k,wC hI,‹_›⟩,rfl,q _ (I.Wk.fresh fr)⟩;refine ZZ ?_;rw[RE,(jW _).length_eq];lia
def iI:Ql Ev->Qo Ev:=λrs=>match rs with
 |[r]=>(match r.d with
  |.lst ds=>(dX ds).bind λns=>if ns.length<64 then Qs (.nw ((e9 ns).map D.int)) else Qn
  |_=>Qn)
 |_=>Qn
def rZ:X0 X F (.builtin "sorted") iI:=X0.of QG λH0 H A xs rs e Q m g q ek hq=>by
 unfold iI at ek;split at ek
 case h_2=>cases ek
 cases q with
 |cons q1 q2=>
  cases q2;split at ek
  case h_2=>cases ek
  rename_i ds z;rcases e1:dX _ with _|ns
  .rw[e1]at ek;cases ek
  rw[e1]at ek;simp only[RF]at ek;replace ek:=Xz ek;obtain⟨c,ek⟩:=ek;cases ek;have p:=q1.full;rw[z,kf e1]at p;cases p with
  |lst h1 h2=>rw[iA h2]at h1;exact⟨_,ns,rfl,h1,c,λl hl=>hq _ _ (dZ hl) ⟨l,_,rfl,VJ.free g hl,bK,VQ.ints _⟩⟩
end
section
variable {X:Cx}{F:Ql ZE}{a b c o:ZG}{es:Ql ZG}{fa:DE}
def mw:Ev->Qo Ev:=λr=>match r.d with
 |.lst ds=>if r.ok||Wv ds then Qs (.nw ds.reverse) else Qn
 |_=>Qn
theorem VQ.rev{K:Rv}:∀{ds:Ql D}{vs:Ql V},VQ K H ds vs->VQ K H ds.reverse vs.reverse
 |_,_,.nil=>.nil
 |_,_,.cons h r=>by rw[Uq,Uq];exact(VQ.rev r).app (VQ.one h)
def LZ(ha:PE X a (dE X.K F fa)):PE X (.Subscript a (.Slice Qn Qn (Qs (.UnaryOp .USub (.Constant (.int 1) j p3) p4)) p2) pos) (dE X.K F (d1 mw fa)):=by
 intro pins s σ H Q I h;obtain⟨A,t,r,R,e,h⟩:=h;unfold d1 at e;refine aA e λr1 e1 e=>?_;have e:mw r1=Qs r:=e;unfold mw at e;split at e
 case h_2=>cases e
 rename_i ds z;refine cH e λok e=>?_;cases e;refine Subscript_ (aF (ha pins s σ H (λx H1=>VJ H H1/\Wt X.K F A H H1 r1 x) I ⟨A,t,r1,R,e1,λx H1 gs q=>⟨gs,q⟩⟩) λv s1 ⟨x,H1,I1,rx,gs,q⟩=>?_);obtain⟨p,vs,rfl,h1,h2⟩:=q.items R.mu gs z ok;cases rx;refine wpAny_Slice ?_;rw[evalPart_none];refine RP (RP ?_);rw[evalPart_some];refine aF ((yO (F:=F) (az (i:=1))) pins s1 σ H1 (λy H2=>y=.int (-1)/\H2=H1\/(y=.int (-1)/\VJ H1 H2)) I1 ⟨A,t,.cl (.int (-1)),R.grow gs,rfl,λy H2 Wz q2=>.inr ⟨cL q2.full,Wz⟩⟩) λu s2 ⟨y,H2,I2,ry,qy⟩=>?_;have Wz:VJ H1 H2:=by rcases qy with⟨_,e⟩|⟨_,e⟩;rw[e];exact VJ.refl _;assumption
 have ey:y=.int (-1):=by lia
 subst ey;obtain⟨tk,rfl⟩:=ry;obtain⟨VU,rv,pl,hz⟩:=I2.list (V5.mono Wz h1);have I3:L2.Inv X pins σ H2 {s2 with heap:=s2.heap.push {cls:=.type "slice",data:=.fields #[.none,.none,.int (-1) tk]}}:=I2.kept (t':=s2.toks) λb ob q=>RC _ q;have hl:=PlainL.XY pl;show wpAny (model X.prog X.w) X.A (subscriptTail a (.Slice Qn Qn (Qs (.UnaryOp .USub (.Constant (.int 1) j p3) p4)) p2) (.ref p) (.ref s2.heap.objs.size)) (EP X pins σ Q) X.xe {s2 with heap:=s2.heap.push {cls:=.type "slice",data:=.fields #[.none,.none,.int (-1) tk]}};refine tail_any (ops:=[.ref p,.ref s2.heap.objs.size]) (hl.push _).typeIs slot_list_getitem.lookup (wpAny_getItem_list_slice (hl.push _) (Heap.IsSliceOf.new ..) .none .none (.int (-1) tk) (by simp) ?_ ?_) (by with_unfolding_all rfl)
 .have hn:=I3.fresh;refine⟨.ref _,_,?_,rfl,h _ _ ((gs.trans Wz).trans (dZ hn)) ⟨_,_,rfl,VJ.free (gs.trans Wz) hn,bK,VQ.mono (kh hn) (VQ.mono (cD Wz) h2).rev⟩⟩;refine I3.laid (λb ob q=>RC _ q) (RL _) ⟨by rw[List.length_reverse];assumption,_,0,rv.reverse,?_⟩;rw[PySem.W.krv_pick];exact RV _ rfl
 .rw[R9,<-rv.length];assumption
end
end DL
namespace L2
open PySem.W
def Bb:Nat:=2^1048576
theorem BX:∀{ns:Ql Int}{n:Int},n∈ns->WData.weight (.int n)<=WData.weightAll (ns.map WData.int)
 |m::r,n,h=>by
  rw[RK];unfold WData.weightAll;rcases RB.mp h with rfl|z
  .lia
  .have:=BX z;lia
def QU{ns:Ql Int}(h:WData.layableAll [WData.list (ns.map WData.int)]=Qt):∀n∈ns,n.natAbs<Bb:=λn hn=>by
 have h1:WData.layable (WData.list (ns.map WData.int))=Qt:=by simpa[WData.layableAll] using h
 have h2:WData.weight (WData.list (ns.map WData.int))<=2^20:=by
  unfold WData.layable at h1
  simp_all
 have h3:WData.weight (.int n)<=2^20:=by refine SH (BX hn) ?_;assumption
 by_cases z:n=0
 .subst z;exact Nat.pow_pos (by decide)
 .have h4:n.natAbs.log2+1<=2^20:=by
   have:WData.weight (.int n)=n.natAbs.log2+1:=by simp[WData.weight,z]
   rw[<-this];assumption
  exact(XB (by lia)).mp (by assumption)
end L2
namespace DL
open PySem.Spec L2
section
variable {X:Cx}{F:Ql ZE}
def QW:Nat:=2^1100000
def Rr(i:Int):Bool:=decide (i.natAbs<QW)
end
theorem We.zch{K:Rv}:∀{t:Th}{σ:L2.St}{A:Ql ZE} (i:Nat),We K H0 H t σ A->A.Nodup->t[i]?=Qs (.own xs)->σ[i]?=Qs (Qs (.ref p))->∃A':Ql ZE,A'.Sublist A/\p∉A'/\∀Xe H1,VJ H0 Xe->(∀b∈A',∀o,H b=Qs o->H1 b=Qs o)->We K Xe H1 (t.set i .no) σ A'
 |_,_,_,i,.nil,_,e,_=>by simp at e
 |_,_,_,0,.no r,_,e,_=>by simp at e
 |_,_,_,0,.val h r,_,e,_=>by simp at e
 |_,_,_,0,.dp h r,_,e,_=>by simp at e
 |_,_,_,0,.own (p:=q) (A:=A) h1 h2 r,n,e,f=>by
  have:=by simpa using f
  subst this;exact⟨A,TR _ _,(RQ.mp n).1,λXe H1 s k=>.no (We.mono s r k)⟩
 |_,_,_,i+1,.no r,n,e,f=>by obtain⟨A',a1,a2,a3⟩:=We.zch i r n (e) (f);exact⟨A',a1,a2,λXe H1 s k=>.no (a3 _ _ s k)⟩
 |_,_,_,i+1,.val h r,n,e,f=>by obtain⟨A',a1,a2,a3⟩:=We.zch i r n (e) (f);exact⟨A',a1,a2,λXe H1 s k=>.val (Rep.mono s h) (a3 _ _ s k)⟩
 |_,_,_,i+1,.own (p:=q) h1 h2 r,n,e,f=>by
  have n0:=RQ.mp n;obtain⟨_,_,b1,b2,_,_⟩:=r.Yw (e);have f':=f;rw[TQ,b1]at f';cases f';obtain⟨A',a1,a2,a3⟩:=We.zch i r n0.2 (e) (f);refine⟨_,a1.cons₂ _,λz=>?_,λXe H1 s k=>.own (k q (by simp) _ h1) (VQ.mono s h2) (a3 _ _ s λb hb=>k b (Rx _ hb))⟩
  simp_all
 |_,_,_,i+1,.dp (B:=C) h r,n,e,f=>by
  have n0:=RI.mp n;obtain⟨_,_,b1,b2,_,_⟩:=r.Yw (e);have f':=f;rw[TQ,b1]at f';cases f';obtain⟨A',a1,a2,a3⟩:=We.zch i r n0.2.1 (e) (f);refine⟨_,S4 (Sh _) a1,λz=>?_,λXe H1 s k=>.dp (Wn.mono s h λb hb=>k b (Rw _ hb)) (a3 _ _ s λb hb=>k b (Ru _ hb))⟩;rcases Ry.mp z with w|w
  .exact n0.2.2 p w p b2 rfl
  .exact a2 w
def Kz (r:Rep K H d v)(s:bz d=Qt):∀Hx,Rep K Hx d v:=λHx=>by
 cases r with
 |Wj=>exact .Wj
 |bl b=>exact .bl b
 |int i=>exact .int i
 |str x=>exact .str x
 |tup _ _=>cases s
 |lst _ _=>cases s
 |WR _ _ _=>cases s
 |Xy _=>cases s
 |Ym _=>cases s
 |adr _=>cases s
 |WB _=>cases s
 |obj _ _ _=>cases s
def sV:D->V
 |.bl b=>.bl b
 |.int i=>.int i
 |.str x=>.str x
 |_=>.Wj
def oC:D->Qo bQ
 |.int i=>Qs (Sum.inl i)
 |.str x=>Qs (Sum.inr x)
 |_=>Qn
def yj (r:Rep K H d v)(s:bz d=Qt):v=sV d:=by
 cases r with
 |Wj=>rfl
 |bl b=>rfl
 |int i=>rfl
 |str x=>rfl
 |tup _ _=>cases s
 |lst _ _=>cases s
 |WR _ _ _=>cases s
 |Xy _=>cases s
 |Ym _=>cases s
 |adr _=>cases s
 |WB _=>cases s
 |obj _ _ _=>cases s
def Kb:∀{d:D},bz d=Qt->Rep K H d (sV d)
 |.Wj,_=>.Wj
 |.bl b,_=>.bl b
 |.int i,_=>.int i
 |.str x,_=>.str x
 |.tup _,s=>by cases s
 |.lst _,s=>by cases s
 |.WR _ _,s=>by cases s
 |.Xy _,s=>by cases s
 |.Ym _,s=>by cases s
 |.adr _,s=>by cases s
 |.WB _,s=>by cases s
 |.obj _ _ _,s=>by cases s
def Km:∀{d:D},bz d=Qt->flat d=Qt
 |.Wj,_=>rfl
 |.bl b,_=>rfl
 |.int i,_=>rfl
 |.str x,_=>rfl
 |.tup _,s=>by cases s
 |.lst _,s=>‹_›
 |.WR _ _,s=>‹_›
 |.Xy _,s=>‹_›
 |.Ym _,s=>rfl
 |.adr _,s=>rfl
 |.WB _,s=>rfl
 |.obj _ _ _,s=>‹_›
theorem yg{K:Rv}:∀{ds:Ql D}{vs:Ql V},VQ K H ds vs->ds.all bz=Qt->vs=ds.map sV
 |_,_,.nil,_=>rfl
 |_,_,.cons h r,s=>by simp only[SK,RJ]at s;rw[yj h s.1,yg r s.2];rfl
theorem yi{K:Rv}:∀{ds:Ql D}{vs:Ql V}{B:Ql ZE},Wf K H0 H ds vs B->ds.all bz=Qt->vs=ds.map sV/\B=[]
 |_,_,_,.nil,_=>⟨rfl,rfl⟩
 |_,_,_,.cons h r,s=>by
  simp only[SK,RJ]at s;obtain⟨a,b⟩:=yi r s.2;subst a b;cases h with
  |flat f q=>rw[yj q s.1];simp
  |tup _ _=>exact absurd s.1 (by simp[bz])
  |lst _ _=>exact absurd s.1 (by simp[bz])
  |WR _ _ _=>exact absurd s.1 (by simp[bz])
  |Xy _=>exact absurd s.1 (by simp[bz])
  |obj _ _ _=>exact absurd s.1 (by simp[bz])
theorem CK{K:Rv}:∀{ds:Ql D},ds.all bz=Qt->Wf K H0 H ds (ds.map sV) []
 |[],_=>.nil
 |d::ds,s=>by simp only[SK,RJ]at s;exact .cons (.flat (Km s.1) (Kb s.1)) (CK s.2)
def RS.ziw (R:RS K F H A t σ)(e:t[i]?=Qs (.dp (.WR ks ds)))(sc:ds.all bz=Qt):∃p,σ[i]?=Qs (Qs (.ref p))/\p∈A/\ks.length=ds.length/\H p=Qs (.dK (df ks (ds.map sV)))/\∀H1 ks2 YC,VJ H H1->ks2.length=YC.length->YC.all bz=Qt->∃A2,RS K F (L2.upd H1 p (.dK (df ks2 (YC.map sV)))) A2 (t.set i (.dp (.WR ks2 YC))) σ/\Gr A H A2 (L2.upd H1 p (.dK (df ks2 (YC.map sV)))):=by
 obtain⟨v,B,a1,a2,a3,a4,a5⟩:=R.rel.zkF R.nd e;cases a4 with
 |flat f _=>simp[flat]at f
 |@WR _ _ p vs B' l h r=>
  obtain⟨rfl,rfl⟩:=yi r sc;have pA:=a2 p (by simp);refine⟨p,a1,pA,by simpa using l,h,λH1 ks2 YC gs l2 sc2=>?_⟩;have hh:VJ (aj (A++F) H) (aj _ (L2.upd _ p (.dK (df ks2 (YC.map sV))))):=λb o q=>by obtain⟨n,q⟩:=cN q;have nb:b≠p:=λz=>n (Rw _ (z▸pA));exact bH (by rw[aY nb];exact gs _ _ q) n
  obtain⟨A2,d1,d3⟩:=a5 _ _ _ _ hh (.WR (by simpa using l2) bK (CK sc2)) (Sh _) (λq hq nq o w=>by rw[aY (by simpa using nq)];exact gs _ _ w);have sub:∀x∈A2,x∈A:=λx hx=>d3.subset hx;have mu:WM (L2.upd H1 p (.dK (df ks2 (YC.map sV)))) _:=λq hq=>by
   by_cases z:q=p
   .exact⟨mD _,by rw[z];exact bK⟩
   .obtain⟨us,w⟩:=R.mu q hq;exact⟨us,by rw[aY z];exact gs _ _ w⟩
  refine⟨A2,⟨λq hq=>mu q ?_,R.nd.sublist d3,λq hq=>R.dj q (sub q hq),We.mono (bE _ λa z=>?_) d1 λ_ _ _ h=>h⟩,λb o n h=>?_,λb hb=>?_,λb hb=>.inl (sub b hb)⟩
  .exact(Ry.mp hq).elim (λz=>Rw _ (sub q z)) (λz=>Ru _ z)
  .exact(Ry.mp z).elim (λz=>Rw _ (sub a z)) (λz=>Ru _ z)
  .rw[aY (λz=>n (by lia))];exact gs _ _ h
  .obtain⟨us,w⟩:=mu b (Rw _ hb);rw[w];simp
def iK(ks:Ql bQ)(k:bQ):Bool:=ks.any λk'=>decide (k'=k)
def fE(ks:Ql bQ)(ds:Ql D)(k:bQ)(d:D):Ql bQ×Ql D:=if iK ks k then(ks,VX (λk' d'=>if k'=k then d else d') ks ds) else(ks++[k],ds++[d])
theorem uZ(k:bQ):∀{ks:Ql bQ}{vs:Ql V},ks.length=vs.length->(ie (df ks vs) k).isSome=iK ks k
 |[],[],_=>rfl
 |k'::ks,d::ds,h=>by
  have i:=uZ k (by simpa using h);unfold df iK at i ⊢;simp;by_cases e:k'=k
  .rw[pw e,Ww e];rfl
  .rw[pB e,Xt e,i];rfl
 |[],_::_,h=>rfl
 |_::_,[],h=>by simp at h
section
variable {X:Cx}{F:Ql ZE}{a b c o:ZG}{es:Ql ZG}{fa:DE}
def vB:DE:=λ_=>Qs (.dn (.WR [] []))
def L3:PE X (.Dict [] [] pos) (dE X.K F vB):=by refine PE.imp Mh ?_;rintro σ H Q ⟨A,t,r,R,e,h⟩;cases e;intro p hp;refine h _ _ (dZ hp) ⟨[p],by simp,λb hb=>by simp_all,.WR rfl bK .nil⟩
def lq(neg:Bool):Ev->Ev->Qo Ev:=λr1 r2=>match r2.d with
 |.WR ks ds=>(oC r1.d).map λk=>.cl (.bl (if neg then !iK ks k else iK ks k))
 |_=>Qn
def zy (r:Rep K H d v)(e:oC d=Qs k):v=kV k:=by cases r<;>cases e<;>rfl
def D8(hu:X.A.units+64<cLine):Xx X F (compareOp .In) (lq Qf):=by
 intro pins s σ H0 H A x y v u Q r1 r2 r I m g0 rx ry q1 q2 e hq;unfold lq at e;split at e
 case h_2=>cases e
 rename_i ks ds z;rcases ek:oC _ with _|k
 .rw[ek]at e;cases e
 rw[ek]at e;cases e;have p1:=zy q1.full ek;have p2:=q2.full;rw[z]at p2;cases p2 with
 |@WR _ _ p vs l h1 h2=>subst p1;cases(ry);refine Hh (by lia) I (zdA.k h1) rx λs' I'=>?_;rw[uZ k l];exact⟨.bl _,H,I',rfl,hq _ H (VJ.refl H) (.bl _)⟩
def K0(k:bQ)(d:D)(h:ks.length=ds.length):fY (df ks (ds.map sV)) k (sV d)=df (fE ks ds k d).1 ((fE ks ds k d).2.map sV)/\(fE ks ds k d).1.length=(fE ks ds k d).2.length:=by
 have ha:(df ks (ds.map sV)).any (λkv=>decide (kv.1=k))=iK ks k:=by rw[sO,uZ k (by simpa using h)]
 unfold fY fE;rw[ha];by_cases hc:iK ks k=Qt
 .rw[V4 hc,V4 hc];refine⟨?_,by simp;lia⟩;clear hc ha;unfold df
  induction ks generalizing ds with
  |nil=>simp
  |cons k' ks ih=>
   cases ds with
   |nil=>simp at h
   |cons d' ds=>simp only[RK,Sx,Tu,(ih (ds:=ds) (by simpa using h))];lia
 .rw[Wh hc,Wh hc];refine⟨?_,by simp;assumption⟩;unfold df;rw[Tp,V6 (by simpa using h)];rfl
def K1(sd:bz d=Qt):∀{ds:Ql D},ds.all bz=Qt->(fE ks ds k d).2.all bz=Qt:=λ{ds} s=>by
 unfold fE;split
 .rename_i hc;clear hc
  induction ks generalizing ds with
  |nil=>simp
  |cons k' ks ih=>
   cases ds with
   |nil=>assumption
   |cons d' ds=>simp only[SK,RJ]at s;simp only[Tu,SK,RJ];refine⟨?_,ih s.2⟩;lia
 .simp_all
def qJ(t:Th)(i:Nat)(r k:Ev):Qo Out:=match t[i]?,oC k.d with
 |some (.dp (.WR ks ds)),Qs kk=>if ds.all bz&&bz r.d&&decide (ks.length<100000) then Qs (.nx (t.set i (.dp (.WR (fE ks ds kk r.d).1 (fE ks ds kk r.d).2)))) else Qn
 |_,_=>Qn
def rR(i:Nat)(fk fv:DE):DS:=λt=>(fv t).bind λr=>(fk t).bind λk=>qJ t i r k
end
section
variable {X:Cx}{F:Ql ZE}{a b c o:ZG}{es:Ql ZG}{fa:DE}
def zF:Ev->Ev->Qo Ev:=λr1 r2=>match r1.d,r2.d with
 |.bl p,.bl q=>Qs (.cl (.bl (!(p==q))))
 |_,_=>Qn
def Nw:Xx X F (compareOp .IsNot) zF:=by
 intro pins s σ H0 H A x y v u Q r1 r2 r I m g0 rx ry q1 q2 e hq;unfold zF at e;split at e
 .rename_i p q z1 z2;cases e;have p1:=q1.full;have p2:=q2.full;rw[z1]at p1;rw[z2]at p2;cases yk p1;cases yk p2;cases rx;cases ry;refine PySem.wpAny_isNot_plain (rfl) ⟨_,H,I,?_,hq _ H (VJ.refl H) (.bl _)⟩;cases p<;>cases q<;>rfl
 .cases e
end
end DL
namespace PySem.SeqAt
open PySem.Spec
def zbU(op:CmpOp)(A:Ua)(s:R7)(a b:R8)(k:Bool):Prop:=∀(prog:Te) (w:UX) (E:R8->R7->Prop) (Q:R8->R7->Prop),Q (.bool k) s->wpAny (model prog w) A (richCompare op a b) Q E s
end PySem.SeqAt
namespace DL
open PySem.Spec L2
def Hu(mx:Bool)(i j:Int):Bool:=if mx then decide (i>j) else decide (i<j)
def Fi(mx:Bool):Ql Int->Ql Int->Bool
 |i::r,j::q=>if decide (i=j) then Fi mx r q else Hu mx i j
 |_,_=>Qf
def Hy(mx:Bool):D->D->Qo Bool
 |.int i,.int j=>Qs (Hu mx i j)
 |.tup xs,.tup ys=>(dX xs).bind λis=>(dX ys).bind λjs=>if is.length=js.length then Qs (Fi mx is js) else Qn
 |_,_=>Qn
def pD(K:Rv)(mx:Bool):V->V->Hp->Bool->Prop:=λy z H c=>∃d e,Rep K H d y/\Rep K H e z/\Hy mx d e=Qs c
def HW(mx:Bool)(fb:DE)(cs:Ql D):D->D->Ql D->Qo D
 |b,_,[]=>Qs b
 |b,k,d::ds=>(fb (.val d::cs.map Sl.val)).bind λr=>if flat r.d then(Hy mx r.d k).bind λc=>if c then HW mx fb cs d r.d ds else HW mx fb cs b k ds else Qn
end DL
namespace L2
open PySem.Spec PySem.W
def Oy(x:Str):Str:=x++".<locals>."++"<lambda>"
theorem EG{β:Type}:∀{l:Ql (Nat×β)}{a:Nat}{o:β},l.lookup a=Qs o->(a,o)∈l
 |[],_,_,e=>by cases e
 |(b,x)::r,a,o,e=>by
  rw[SJ]at e;cases hb:a==b with
  |true=>simp_all
  |false=>rw[hb]at e;exact .tail _ (EG e)
def d6(K:Frag)(names:Ql Str):Ql (ZE×Str):=names.filterMap λx=>(tabIn K x).map λq=>(q.2,Oy x)
def Nr{K:Frag}(h:p∈d6 K names):∃x∈names,∃c,tabIn K x=Qs (c,p.1):=by
 obtain⟨x,hx,e⟩:=UZ.mp h;cases q:tabIn K x with
 |none=>rw[q]at e;cases e
 |some r=>rw[q]at e;cases e;exact⟨x,hx,r.1,q⟩
def su(K:Frag)(names:Ql Str):Prop:=∀p∈d6 K names,(d6 K names).lookup p.1=Qs p.2/\K.lookup p.1=Qn
def Jq{K:Frag}:su K []:=λp hp=>by cases hp
def Ou{K:Frag} (KX:K.In s₁.heap) (hns:s₁.heap.Ns mainGlobals mg) (hb:s₁.heap.Ns builtinsNs mb) (hbb:∀x:Str,x≠"__name__"->mb x=bootBuiltins x) (zjC:s₁.heap.NoLimit) (hbm:∃(bm:ZE) (ob:Obj),mg "__builtins__"=Qs (.ref bm)/\bm≠builtinsNs/\s₁.heap.get? bm=Qs ob/\ob.cls=.type "module"/\ob.dict=Qs builtinsNs/\ob.data=.plain) (hg:s₁.gens=#[]) (ha:s₁.heap.get? a=Qs {cls:=.type "list",data:=.seq vs.toArray}) (hi:IntsAre vs ns) (hl:ns.length<=Sf) (hr:Xa k callerA) (hT:∀x∈names,∀c P,tabIn K x=Qs (c,P)->CodeHd s₁.heap c P/\s₁.heap.get? P=Qs (tabObj #[])) (hn:su K names) (F:∀base:Yp,base.tabs=d6 K names->K.In base->base.Ns mainGlobals mg->(∀x∈names,∀c P,tabIn K x=Qs (c,P)->CodeHd base c P)->XC P w K mg base CX k fa fd [x] sp) (zjY:∀(s:R7) (u:R8),BindsTo s fd ⟨[u],[]⟩ [(x,u)]) (hsp:∀H:Hp,V5 K H a (ns.map V.int)->sp [.ref a] H (λv _=>v=.bl Qt) λ_ _ _=>False) (hCX:∀H e s',CX [] H s₁ (λ_ _ _=>False) e s'->False):codeAny (model P w) callerA (.call (.ref fa) ⟨[.ref a],[]⟩) (λr s'=>r=.ok (.ret (.bool Qt))/\OldK s₁.heap s'.heap/\s'.os=s₁.os/\AllBare s'.gens) s₁:=by
 have rv:=wC hi;have zi5:=hi.length;have zdG:∀p∈d6 K names,∃c,CodeHd s₁.heap c p.1/\s₁.heap.get? p.1=Qs (tabObj #[]):=λp hp=>by obtain⟨y,hy,c,e⟩:=Nr hp;exact⟨c,hT y hy c _ e⟩
 have core:∀H:Hp,V5 K H a (ns.map V.int)->XE P w H s₁.heap->(∀p∈d6 K names,H p.1=Qs (.YE p.2))-> (∀b o,H b=Qs o->(b=a/\K.lookup a=Qn/\∃ob xs,o=.XS ob (.lst xs))\/∃q,o=.YE q/\(b,q)∈d6 K names)->codeAny (model P w) callerA (.call (.ref fa) ⟨[.ref a],[]⟩) (λr s'=>r=.ok (.ret (.bool Qt))/\OldK s₁.heap s'.heap/\s'.os=s₁.os/\AllBare s'.gens) s₁:=by
  intro H hS Wk hTB hH;have free:∀{b:ZE}{o:Obj},s₁.heap.get? b=Qs o->(o.cls=.type "list"->False)->o≠tabObj #[]->H b=Qn:=λ{b o} e n1 n2=>by
   cases q:H b with
   |none=>rfl
   |some u=>
    grind
  have nsK:∀{b:ZE}{m:Str->Qo R8},s₁.heap.Ns b m->(jG s₁.heap H).Ns b m:=λ{b m} ⟨o,es,ep,e,d,r⟩=>⟨o,es,ep,uW e (by
   cases q:H b with
   |none=>rfl
   |some u=>
    grind),d,r⟩
  have hKb:K.In (jG s₁.heap H):=λb o e=>uW (KX b o e) (by
   cases q:H b with
   |none=>rfl
   |some u=>
    rcases hH b u q with⟨rfl,n,_⟩|⟨qq,rfl,hm⟩
    .lia
    .rw[((hn _ hm).2)]at e;cases e)
  have hM:Mod K mg ⟨jG s₁.heap H,d6 K names⟩:=⟨hKb,nsK hns,⟨mb,nsK hb,hbb⟩,let ⟨mc,h1,h2⟩:=zjC;⟨mc,nsK h1,h2⟩,by
   obtain⟨bm,ob,b1,b2,b3,b4,b5,b6⟩:=hbm;exact⟨bm,ob,b1,b2,uW b3 (free b3 (λz=>by lia) λz=>by lia),b4,b5,b6⟩⟩
  have hCd:∀x∈names,∀c P,tabIn K x=Qs (c,P)->CodeHd (jG s₁.heap H) c P:=λx hx c P e=>by obtain⟨⟨o,vs,file,tf,flags,tg,inF,text,tt,e1,r1,r⟩,_⟩:=hT x hx c P e;exact⟨o,vs,file,tf,_,tg,inF,text,tt,uW e1 (free e1 (λz=>by lia) λz=>by lia),r1,r⟩
  have e0:zbp P w K mg ⟨jG s₁.heap H,d6 K names⟩ callerA [] s₁ H:=⟨rfl,hM,λb o e=>Nu e,Xc (Pj _ _),trivial,λb hb=>absurd (show b∈([]:Ql ZE) from hb) (by simp),Wk,.of_eq hg,hTB⟩;refine codeAny_mono ((F ⟨jG s₁.heap H,d6 K names⟩ rfl hKb (nsK hns) hCd).run callerA [] s₁ H ⟨[.ref a],[]⟩ [.ref a] [.ref a] _ _ hr e0 (zjY s₁ (.ref a)) (.cons rfl .nil) (hsp H hS)) λr s' h=>?_;cases r with
  |error e=>exact(hCX H e _ h).elim
  |ok fl=>
   cases fl with
   |next=>exact False.elim h
   |brk=>exact False.elim h
   |cont=>exact False.elim h
   |ret u=>
    obtain⟨v,H',os,bare,un,zek,r',q⟩:=h;have q':=q;subst q';obtain rfl:u=Ye Qt:=r';have kp:∀b o,s₁.heap.get? b=Qs o->s'.heap.get? b=Qs o\/∃qq,H b=Qs (.YE qq):=λb o e=>by
     cases q:H b with
     |none=>exact .inl (un.keep b o e q (by intro z;exact absurd (show b∈([]) from z) (by simp)) (by simp))
     |some u=>
      rcases hH b u q with⟨rfl,_,ob,xs,rfl⟩|⟨qq,rfl,hm⟩
      .obtain⟨e1,_⟩:=Wk b _ q;obtain⟨e2,_⟩:=zek b _ (un.Z3 b _ _ q);lia
      .simp
    refine⟨rfl,⟨λb o e=>?_,λb o e=>?_⟩,os,bare⟩
    .rcases kp b o e with z|⟨qq,z⟩
     .exact .inl z
     .rcases hH b _ z with⟨_,_,ob,xs,z2⟩|⟨q2,z2,hm⟩
      .cases z2
      .obtain⟨c,C,e2⟩:=zdG _ hm;rw[e]at e2;cases e2;obtain⟨ps,e3,_⟩:=zek b _ (un.Y4 b _ z);exact .inr (.inl ⟨(C.tab e).isCodeTable,rfl,#[],ps,rfl,by simpa using e3⟩)
    .rcases kp b o e with z|⟨qq,z⟩
     .exact⟨o,z⟩
     .obtain⟨ps,e3,_⟩:=zek b _ (un.Y4 b _ z);exact⟨_,e3⟩
 have zfo:∀(H:Hp) (p:ZE×Str),p∈d6 K names->Yc P w H s₁.heap p.1 (.YE p.2):=λH p hp=>by obtain⟨c,_,e⟩:=zdG p hp;exact⟨#[],e,trivial,λpos cv z=>by cases z⟩
 have lk:∀b q,(d6 K names).lookup b=Qs q->(b,q)∈d6 K names:=λb q e=>EG e;have aT:∀q,(a,q)∈d6 K names->False:=λq hm=>by obtain⟨c,_,e⟩:=zdG _ hm;have e:s₁.heap.get? a=Qs (tabObj #[]):=e;rw[ha]at e;cases e
 cases hk:K.lookup a with
 |some o=>
  have e:=KX a o hk;rw[ha]at e;cases e;refine core (λb=>((d6 K names).lookup b).map HO.YE) (.inr ⟨_,vs.toArray,_,hk,rfl,rfl,rfl,by rw[R9,zi5];exact hl,by simpa using rv⟩) (λb u z=>?_) (λp hp=>by simp only[(hn p hp).1,SY]) λb u z=>?_
  .cases q:(d6 K names).lookup b with
   |none=>simp only[q]at z;cases z
   |some qq=>simp only[q]at z;cases z;exact zfo _ _ (lk b qq q)
  .cases q:(d6 K names).lookup b with
   |none=>simp only[q]at z;cases z
   |some qq=>simp only[q]at z;cases z;exact .inr ⟨qq,rfl,lk b qq q⟩
 |none=>
  refine core (λb=>if b=a then Qs (.XS {cls:=.type "list",data:=.seq vs.toArray} (.lst (ns.map V.int))) else((d6 K names).lookup b).map HO.YE) (.inl (.inr ⟨{cls:=.type "list",data:=.seq vs.toArray},V4 rfl⟩)) (λb u z=>?_) (λp hp=>?_) λb u z=>?_
  .by_cases hb:b=a
   .have z':=(V4 hb).symm.trans z;cases z';subst hb;exact⟨ha,by rw[RE];exact hl,vs,_,rv,ha⟩
   .have z':=(Wh hb).symm.trans z;cases q:(d6 K names).lookup b with
    |none=>simp only[q]at z';cases z'
    |some qq=>simp only[q]at z';cases z';exact zfo _ _ (lk b qq q)
  .have:p.1≠a:=λe=>aT p.2 (by rw[<-e];exact hp);simp only[this,if_false,(hn p hp).1,SY]
  .by_cases hb:b=a
   .have z':=(V4 hb).symm.trans z;cases z';exact .inl ⟨hb,hk,_,_,rfl⟩
   .have z':=(Wh hb).symm.trans z;cases q:(d6 K names).lookup b with
    |none=>simp only[q]at z';cases z'
    |some qq=>simp only[q]at z';cases z';exact .inr ⟨qq,rfl,lk b qq q⟩
open PySem.W
def zhN{l:V7}{K:Params->Rv}{CX:UX->nj}{sp:UX->Sp} (hn:l.most=Qs n) (hn2:n<=Sf) (hdf:d.params.defaults=[]) (hr:Xa k callerA) (hY:∀(w:UX) (h:ZF),YP w h->(K w.params).In h) (zeh:∀x∈names,∃dr,(recsOf q).find? (λe=>e.name==x)=Qs dr) (F:∀(w:UX) (mg:Str->Qo R8) (fa:ZE) (h:ZF),(K w.params).In h->h.Ns mainGlobals mg->mg d.name=Qs (.ref fa)->su (K w.params) names/\∃fd:Ud,(∀(s:R7) (u:R8),BindsTo s fd ⟨[u],[]⟩ [(x,u)])/\∀base:Yp,base.tabs=d6 (K w.params) names->(K w.params).In base->base.Ns mainGlobals mg->(∀x∈names,∀c P,tabIn (K w.params) x=Qs (c,P)->CodeHd base c P)->XC l.prog w (K w.params) mg base (CX w) k fa fd [x] (sp w)) (hsp:∀(w:UX) (H:Hp) (a:ZE) (ns:Ql Int),ns.length<=n->(∀i∈ns,i.natAbs<Bb)->V5 (K w.params) H a (ns.map V.int)->sp w [.ref a] H (λv _=>v=.bl Qt) λ_ _ _=>False) (hCX:∀(w:UX) (H:Hp) (s:R7) (e:R8) (s':R7),CX w [] H s (λ_ _ _=>False) e s'->False):WL q loose XP YP l.row.toRowW d [] (λf vs=>PySem.call f vs):=by
 intro w s₀ s₁ mg mb G Y fa o pm cd doc dV kV ho hd W3 hD hmg hg args vals as zdk zjE hrd hwl hlo;obtain⟨a,vs,ns,rfl,rfl,zjr,hints,hlen⟩:=Att.zh9 hn zdk hwl;have KX:=hY w _ Y;obtain⟨Wk,fd,hbd,hF⟩:=F w _ _ _ KX G.T.g hmg;refine enter_call (codeAny_mono (Ou KX G.T.g G.T.b G.T.builtins G.T.nolimit G.T.bmain hg zjr hints (SH hlen hn2) hr (λx hx c P e=>by
  obtain⟨dr,h⟩:=zeh x hx;exact tab_of G.T KX h e) Wk hF hbd (λH hS=>hsp w H a _ hlen (QU zjE) hS) λH e s'=>hCX w H _ e _) λr s' hq=>?_)
 obtain⟨rfl,h2,h3,h4⟩:=hq;exact⟨.inl ⟨_,_,[],rfl,λ_=>rfl,.bool _,Att.ziv l _,λ_=>⟨List.Pairwise.nil,λ_ hm=>(nomatch hm)⟩⟩,h2,h3,h4⟩
end L2
namespace DL
open PySem.Spec L2
def OX:ZG->Bool
 |.Starred _ _=>Qt
 |_=>Qf
def fW(h:OX a=Qf):RM (a::es) env=(Qf,eval a env)::RM es env:=by cases a<;>first|rfl|cases h
def RS.zis (R:RS K (B++F) H A t σ)(nb:B.Nodup)(dj:∀b∈B,b∉F)(r:Wn K (aj (A++(B++F)) H) H d v B)(hi:i<t.length):∃A',(∀x∈A',x∈B\/x∈A)/\RS K F H A' (t.set i (.dp d)) (σ.set i (Qs v)):=by
 have lb:=r.lists;obtain⟨A2,r2,zdH,nd2⟩:=We.zbr (s:=.dp d) (v:=v) (B:=B) (λq=>.dp r q) i R.rel hi;refine⟨A2,zdH,⟨λp hp=>?_,nd2 R.nd nb (λb hb z=>R.dj b z (Rw _ hb)),λp hp=>?_,We.mono (bE H λx hx=>?_) r2 λ_ _ _ w=>w⟩⟩
 .rcases Ry.mp hp with z|z
  .rcases zdH p z with w|w
   .exact lb p w
   .exact R.mu p (Rw _ w)
  .exact R.mu p (Ru _ (Ru _ z))
 .rcases zdH p hp with w|w
  .exact dj p w
  .exact λz=>R.dj p w (Ru _ z)
 .grind
def RS.less (R:RS K F H A t σ)(h:∀b∈F',b∈F):RS K F' H A t σ:=⟨λp hp=>R.mu p ((Ry.mp hp).elim (Rw _) λz=>Ru _ (h p z)),R.nd,λp hp z=>R.dj p hp (h p z),We.mono (bE H λx hx=>(Ry.mp hx).elim (Rw _) λz=>Ru _ (h x z)) R.rel λ_ _ _ w=>w⟩
inductive LDp(K:Rv)(H0 H:Hp)(t:Th)(σ:L2.St)(A:List ZE)(i:Nat)(d:D):Prop
 |mk (v B A':_) (_:σ[i]?=Qs (Qs v)) (_:Wn K H0 H d v B) (_:We K H0 H (t.set i .no) σ A') (_:(∀x∈A',x∈A)) (_:(∀x∈B,x∈A)) (_:(∀x∈A,x∈B\/x∈A')) (_:B.Nodup) (_:A'.Nodup) (_:(∀x∈A',x∉B))
def We.zi0:∀{t:Th}{σ:L2.St}{A:Ql ZE},We K H0 H t σ A->A.Nodup->∀{i:Nat}{d:D},t[i]?=Qs (.dp d)->LDp K H0 H t σ A i d:=by
 intro _ _ _ h
 induction h with
 |nil=>simp
 |@no _ _ _ _ r ih=>
  intro n i d e;cases i with
  |zero=>simp at e
  |succ i=>obtain⟨v,B,A',a1,a2,a3,a4,a5,a6,a7,a8,a9⟩:=ih n (e);exact⟨v,B,A',a1,a2,.no a3,a4,a5,a6,a7,a8,a9⟩
 |@val _ _ _ _ _ h r ih=>
  intro n i d e;cases i with
  |zero=>simp at e
  |succ i=>obtain⟨v,B,A',a1,a2,a3,a4,a5,a6,a7,a8,a9⟩:=ih n (e);exact⟨v,B,A',a1,a2,.val h a3,a4,a5,a6,a7,a8,a9⟩
 |@own p _ _ _ _ _ h1 h2 r ih=>
  intro n i d e;cases i with
  |zero=>simp at e
  |succ i=>
   have n0:=RQ.mp n;obtain⟨v,B,A',a1,a2,a3,a4,a5,a6,a7,a8,a9⟩:=ih n0.2 (e);refine⟨v,B,_,a1,a2,.own h1 h2 a3,λx hx=>?_,λx hx=>Rx _ (a5 x hx),λx hx=>?_,a7,RQ.mpr ⟨λz=>n0.1 (a4 p z),a8⟩,λx hx z=>?_⟩
   .rcases RB.mp hx with w|w
    .rw[w];simp
    .exact Rx _ (a4 x w)
   .rcases RB.mp hx with w|w
    .simp_all
    .exact(a6 x w).imp id (Rx _)
   .rcases RB.mp hx with w|w
    .exact n0.1 (w▸a5 x z)
    .exact a9 x w z
 |@dp _ v C _ _ A h r ih=>
  intro n i d e;cases i with
  |zero=>simp at e;subst e;have n0:=RI.mp n;exact⟨v,C,A,rfl,h,.no r,λx hx=>Ru _ hx,λx hx=>Rw _ hx,λx hx=>Ry.mp hx,n0.1,n0.2.1,λx hx z=>n0.2.2 x z x hx rfl⟩
  |succ i=>
   have n0:=RI.mp n;obtain⟨v,B,A',a1,a2,a3,a4,a5,a6,a7,a8,a9⟩:=ih n0.2.1 (e);refine⟨v,B,_,a1,a2,.dp h a3,λx hx=>?_,λx hx=>Ru _ (a5 x hx),λx hx=>?_,a7,RI.mpr ⟨n0.1,a8,λx hx y hy e=>n0.2.2 x hx y (a4 y hy) e⟩,λx hx z=>?_⟩
   .rcases Ry.mp hx with w|w
    .exact Rw _ w
    .exact Ru _ (a4 x w)
   .rcases Ry.mp hx with w|w
    .exact .inr (Rw _ w)
    .exact(a6 x w).imp id (Ru _)
   .rcases Ry.mp hx with w|w
    .exact n0.2.2 x w x (a5 x z) rfl
    .exact a9 x w z
def RS.zhg (R:RS K F H A t σ)(g:VJ H H')(fr:∀b∈B,H b=Qn)(lb:WM H' B):RS K (B++F) H' A t σ:=by
 have np:∀b∈B,b∉A++F:=λb hb=>eP R.mu (fr b hb);refine⟨λp hp=>?_,R.nd,λp hp z=>?_,We.mono (λb o h=>?_) R.rel λb _ o h=>g _ _ h⟩
 .rcases Ry.mp hp with z|z
  .exact(R.mu.mono g) p (Rw _ z)
  .rcases Ry.mp z with z|z
   .exact lb p z
   .exact(R.mu.mono g) p (Ru _ z)
 .rcases Ry.mp z with z|z
  .exact np p z (Rw _ hp)
  .exact R.dj p hp z
 .obtain⟨n,h⟩:=cN h;refine bH (g _ _ h) λz=>?_
  simp_all
abbrev DM:=Th->Qo (D×Th)
abbrev pe:=Th->Qo (Ql D×Th)
structure Mv(K:Rv)(F A:List ZE)(H H':Hp)(B A':List ZE)(t':Th)(σ:L2.St):Prop where
 sm:VJ H H'
 nd:B.Nodup
 dj:∀b∈B,b∉F
 rs:RS K (B++F) H' A' t' σ
 fr:∀b∈B,b∈A\/H b=Qn
 sb:∀b∈A',b∈A
inductive dM(K:Rv)(F:List ZE)(f:DM)(σ:L2.St)(H:Hp)(Q:VK):Prop
 |mk (A t d t':_) (_:RS K F H A t σ) (_:f t=Qs (d,t')) (_:∀v H' B A',Mv K F A H H' B A' t' σ->Wn K (aj (A'++(B++F)) H') H' d v B->Q v H')
inductive dMs(K:Rv)(F:List ZE)(f:pe)(σ:L2.St)(H:Hp)(Q:List V->Hp->Prop):Prop
 |mk (A t ds t':_) (_:RS K F H A t σ) (_:f t=Qs (ds,t')) (_:∀vs H' B A',Mv K F A H H' B A' t' σ->Wf K (aj (A'++(B++F)) H') H' ds vs B->Q vs H')
inductive zme(K:Rv)(H0 H:Hp)(t:Th)(σ:L2.St)(A:List ZE)(i:Nat)(ds:List D):Prop
 |mk (p vs A':_) (_:σ[i]?=Qs (Qs (.ref p))) (_:H p=Qs (.lst vs)) (_:VQ K H0 ds vs) (_:We K H0 H (t.set i .no) σ A') (_:(∀x∈A',x∈A)) (_:p∈A) (_:(∀x∈A,x=p\/x∈A')) (_:A'.Nodup) (_:p∉A')
def We.ziZ:∀{t:Th}{σ:L2.St}{A:Ql ZE},We K H0 H t σ A->A.Nodup->∀{i:Nat}{ds:Ql D},t[i]?=Qs (.own ds)->zme K H0 H t σ A i ds:=by
 intro _ _ _ h
 induction h with
 |nil=>simp
 |@no _ _ _ _ r ih=>
  intro n i d e;cases i with
  |zero=>simp at e
  |succ i=>obtain⟨v,B,A',a1,a2,a2',a3,a4,a5,a6,a7,a8⟩:=ih n (e);exact⟨v,B,A',a1,a2,a2',.no a3,a4,a5,a6,a7,a8⟩
 |@val _ _ _ _ _ h r ih=>
  intro n i d e;cases i with
  |zero=>simp at e
  |succ i=>obtain⟨v,B,A',a1,a2,a2',a3,a4,a5,a6,a7,a8⟩:=ih n (e);exact⟨v,B,A',a1,a2,a2',.val h a3,a4,a5,a6,a7,a8⟩
 |@own q vs _ _ _ A h1 h2 r ih=>
  intro n i d e;cases i with
  |zero=>simp at e;subst e;have n0:=RQ.mp n;exact⟨q,vs,A,rfl,h1,h2,.no r,λx hx=>Rx _ hx,Rz ..,λx hx=>RB.mp hx,n0.2,n0.1⟩
  |succ i=>
   have n0:=RQ.mp n;obtain⟨p,vs,A',a1,a2,a2',a3,a4,a5,a6,a7,a8⟩:=ih n0.2 (e);refine⟨p,vs,_,a1,a2,a2',.own h1 h2 a3,λx hx=>?_,Rx _ a5,λx hx=>?_,RQ.mpr ⟨λz=>n0.1 (a4 q z),a7⟩,λz=>?_⟩
   .rcases RB.mp hx with w|w
    .rw[w];simp
    .exact Rx _ (a4 x w)
   .rcases RB.mp hx with w|w
    .simp_all
    .exact(a6 x w).imp id (Rx _)
   .simp_all
 |@dp _ _ C _ _ _ h r ih=>
  intro n i d e;cases i with
  |zero=>simp at e
  |succ i=>
   have n0:=RI.mp n;obtain⟨p,vs,A',a1,a2,a2',a3,a4,a5,a6,a7,a8⟩:=ih n0.2.1 (e);refine⟨p,vs,_,a1,a2,a2',.dp h a3,λx hx=>?_,Ru _ a5,λx hx=>?_,RI.mpr ⟨n0.1,a7,λx hx y hy e=>n0.2.2 x hx y (a4 y hy) e⟩,λz=>?_⟩
   .rcases Ry.mp hx with w|w
    .exact Rw _ w
    .exact Ru _ (a4 x w)
   .rcases Ry.mp hx with w|w
    .exact .inr (Rw _ w)
    .exact(a6 x w).imp id (Ru _)
   .rcases Ry.mp z with w|w
    .exact n0.2.2 p w p a5 rfl
    .exact a8 w
inductive zl0(K:Rv)(F A:List ZE)(H:Hp)(t:Th)(σ:L2.St)(i:Nat)(ds:List D):Prop
 |mk (p vs A':_) (_:σ[i]?=Qs (Qs (.ref p))) (_:RS K ([p]++F) H A' (t.set i .no) σ) (_:p∉F) (_:H p=Qs (.lst vs)) (_:VQ K (aj (A'++([p]++F)) H) ds vs) (_:(∀x∈A',x∈A)) (_:p∈A)
def RS.zh0 (R:RS K F H A t σ)(e:t[i]?=Qs (.own ds)):zl0 K F A H t σ i ds:=by
 obtain⟨p,vs,A',a1,a2,a2',a3,a4,a5,a6,a7,a8⟩:=R.rel.ziZ R.nd e;have s:VJ (aj (A++F) H) (aj (A'++([p]++F)) H):=bE H λx hx=>by
  rcases Ry.mp hx with z|z
  .exact Rw _ (a4 x z)
  .rcases Ry.mp z with z|z
   .simp_all
   .exact Ru _ z
 refine⟨p,vs,A',a1,⟨λq hp=>?_,a7,λq hp z=>?_,We.mono s a3 λ_ _ _ w=>w⟩,R.dj p a5,a2,VQ.mono s a2',a4,a5⟩
 .rcases Ry.mp hp with z|z
  .exact R.mu q (Rw _ (a4 q z))
  .rcases Ry.mp z with z|z
   .rw[RG.mp z];exact R.mu p (Rw _ a5)
   .exact R.mu q (Ru _ z)
 .rcases Ry.mp z with z|z
  .simp_all
  .exact R.dj q (a4 q hp) z
section
variable {X:Cx}{F:Ql ZE}{a b c o:ZG}{es:Ql ZG}{fa:DE}{fn:DM}{fns:pe}
def fP(f:DE):DM:=λt=>(f t).bind λr=>(toDn r).map λd=>(d,t)
def Pg:VJ (aj (B++(A++F)) H) (aj (A++(B++F)) H):=bE H λx hx=>by
 grind
def DJ(he:PE X a (dE X.K F fa)):PE X a (dM X.K F (fP fa)):=by
 refine PE.imp he ?_;rintro σ H Q ⟨A,t,d,t',R,e,h⟩;unfold fP at e;rcases e1:fa t with _|r
 .rw[e1]at e;cases e
 rw[e1]at e;simp only[RF]at e;rcases e2:toDn r with _|d0
 .rw[e2]at e;cases e
 rw[e2]at e;cases e;refine⟨A,t,r,R,e1,λv H' gs q=>?_⟩;obtain⟨B,b1,b2,b3⟩:=q.toDn R.mu gs e2;exact h v _ B A ⟨gs,b1,λb hb z=>eP R.mu (b2 b hb) (Ru _ z),R.zhg gs b2 b3.lists,λb hb=>.inr (b2 b hb),λb hb=>hb⟩ (Wn.mono Pg b3 λ_ _ _ w=>w)
def lh:pe:=λt=>Qs ([],t)
def gZ(f:DM)(g:pe):pe:=λt=>(f t).bind λq=>(g q.2).bind λw=>Qs (q.1::w.1,w.2)
def LO:PA X [] (dMs X.K F lh):=PA.imp gx λσ H Q ⟨A,t,ds,t',R,e,h⟩=>by cases e;exact h _ H _ A ⟨VJ.refl H,Sv,λb hb=>(by cases hb),R,λb hb=>(by cases hb),λb hb=>hb⟩ .nil
def DH(ha:∀F,PE X a (dM X.K F fn))(hr:∀F,PA X es (dMs X.K F fns))(hs:RM (a::es) X.env=(Qf,eval a X.env)::RM es X.env:=by rfl):PA X (a::es) (dMs X.K F (gZ fn fns)):=by
 intro p pins s σ H Q I h;obtain⟨A,t,ds,t',R,e,h⟩:=h;unfold gZ at e;rcases e1:fn t with _|q1
 .rw[e1]at e;cases e
 obtain⟨d1,t1⟩:=q1;rw[e1]at e;simp at e;rcases e2:fns _ with _|q2
 .rw[e2]at e;cases e
 obtain⟨YC,t2⟩:=q2;rw[e2]at e;cases e;rw[hs];show wpAny _ _ _ _ _ s;refine Calls.spliced_cons (aF (ha F _ s σ H (λv H1=>∃B1 A1,Mv _ F A H _ _ _ _ σ/\Wn _ _ _ _ v _) I ⟨A,t,d1,t1,R,e1,λv H1 B1 A1 m1 r1=>⟨B1,A1,m1,r1⟩⟩) λu s1 ⟨x,H1,I1,rx,B1,A1,m1,r1⟩=>?_);refine aF (hr _ p _ _ σ _ _ I1 ⟨A1,t1,YC,t2,m1.rs,e2,λvs H2 B2 A2 m2 r2=>?_⟩) λus s2 ⟨xs,H2,I2,rx2,q2⟩=>⟨_,H2,I2,.cons rx rx2,q2⟩;have l1:=r1.lists.mono m2.sm;have d21:=λb hb z=>m2.dj b hb (Rw _ z);have mem:∀x,x∈A2++((B1++B2)++F)->x∈A2++(B2++(B1++F)):=λx hx=>by
  grind
 have ziT:∀x,x∈(B1++B2)++F->x∈B2++(B1++F):=λx hx=>by
  grind
 refine h _ _ _ _ ⟨m1.sm.trans m2.sm,RI.mpr ⟨m1.nd,m2.nd,λy hy z hz e=>d21 z hz (e▸hy)⟩,λb hb=>?_,m2.rs.less ziT,λb hb=>?_,λb hb=>m1.sb b (m2.sb b hb)⟩ (.cons (Wn.W2 (λy hy=>m2.rs.mu y (mem y hy)) (aR _ _) (Wn.mono (Xe:=aj B1 _) (λb o w=>?_) r1 λ_ _ _ w=>m2.sm _ _ w)) (Wf.mono (bE _ mem) r2 λ_ _ _ w=>w))
 .rcases Ry.mp hb with z|z
  .exact m1.dj b z
  .exact λw=>m2.dj b z (Ru _ w)
 .rcases Ry.mp hb with z|z
  .exact m1.fr b z
  .rcases m2.fr b z with w|w
   .exact .inl (m1.sb b w)
   .exact .inr (VJ.free m1.sm w)
 .obtain⟨n,w⟩:=cN w;exact bH (m2.sm _ _ w) λz=>n (Ru _ (Rw _ z))
def qm(g:pe):DM:=λt=>(g t).bind λq=>if q.1.length<=1000 then Qs (.tup q.1,q.2) else Qn
def LP(h:PA X es (dMs X.K F fns)):PE X (.Tuple es x1 pos) (dM X.K F (qm fns)):=by
 refine PE.imp (ud h) ?_;rintro σ H Q ⟨A,t,d,t',R,e,h⟩;unfold qm at e;rcases e1:fns t with _|q
 .rw[e1]at e;cases e
 obtain⟨ds,t2⟩:=q;rw[e1]at e;simp only[RF]at e;refine cH e λhl e=>?_;cases e;refine⟨A,t,ds,t',R,e1,λvs H1 B A1 m1 r1=>⟨by rw[r1.length];exact ZZ (by lia),λp hp=>?_⟩⟩;have s1:=dZ (o:=HO.tup vs) hp;exact h _ _ B _ ⟨m1.sm.trans s1,m1.nd,m1.dj,m1.rs.grow s1,m1.fr,m1.sb⟩ (.tup (WG.of (bH bK (eP m1.rs.mu hp))) (Wf.mono (cD s1) r1 λ_ _ _ w=>s1 _ _ w))
def vA(f:DM):DS:=λt=>(f t).bind λq=>Qs (.rt (.dn q.1))
def Lh(ha:PE X a (dM X.K F fn)):PS X (.Return (Qs a) pos) (dS X.K F (vA fn)):=by refine PS.imp (tW ha) ?_;rintro E σ H ⟨A,t,o,R,e,h⟩;refine aA e λq e1 e=>?_;cases e;refine⟨A,t,q.1,q.2,R,e1,λv H' B A' m r1=>h v _ A (Gr.of_same R.mu.left m.sm) ⟨B,m.nd,λb hb=>⟨m.fr b hb,m.dj b hb⟩,Wn.mono (bE _ λa z=>Ru _ z) r1 λ_ _ _ w=>w⟩⟩
end
end DL
namespace TS
section
variable (κ π:Keyed->Int)
def rk(x:Keyed):Int:=κ x*1048576+π x
variable {κ π}
variable {X Y out:Ql Keyed}{i j:Nat}
end
def kA(f:Keyed->Int)(xs:Array Keyed)(i:Nat):Int:=match xs[i]? with
 |some p=>f p
 |none=>0
end TS
namespace L2
open PySem.Spec TS
section
variable {prog:Te}{w:UX}{A:Ua}{E:R8->R7->Prop}{s:R7}
def J1{P:Ql R8->Prop}(ha1:argsOk "sorted" ⟨[u],kw⟩)(ha2:∀x,argsOk "list.sort" ⟨[.ref x],kw⟩) (col:∀R:Ql R8->R7->Prop,(∀(h':ZF) (tk:Nat) (us:Ql R8),(∀b o,s.heap.get? b=Qs o->h'.get? b=Qs o)->s.heap.objs.size<=h'.objs.size->P us->us.length<=100000->R us {s with heap:=h',toks:=tk})->wpAny (model prog w) A.in1 (collect u) R E s) (Y5:∀(h':ZF) (tk:Nat) (us:Ql R8),(∀b o,s.heap.get? b=Qs o->h'.get? b=Qs o)->s.heap.objs.size<=h'.objs.size->P us->us.length<=100000->wpAny (model prog w) A.in1.in1 (Builtin.«list.sort» ⟨[.ref h'.objs.size],kw⟩) (λfin s'=>fin=.done (.ret .none)/\Q (.ref h'.objs.size) s') E {s with heap:=h'.push (seqObj "list" us.toArray 0),toks:=tk}):wpAny (model prog w) A (call (.builtin "sorted") [u] kw) Q E s:=by refine call_function_entry_kw kind_sorted plain_sorted entry_sorted ha1 ?_;refine RA (RP ?_);refine RA (col _ λh' tk us hk hz hp hl=>?_);refine RA (wpAny_newList ?_ (by rw[sizeLine_eq];lia));refine RA (wpAny_holding (wpAny_call_entry_kw slot_list_sort ⟨_,(RV _ rfl),rfl⟩ entry_list_sort ?_ (ha2 _)));refine wpAny_mono (Y5 _ _ _ hk hz hp hl) (λfin s' hq=>?_) λ_ _ e=>e;obtain⟨rfl,hq⟩:=hq;exact⟨_,rfl,RP ⟨_,rfl,hq⟩⟩
end
end L2
namespace DL
open PySem.Spec L2 TS
noncomputable def aE(n:Nat):Ql Int:=(Si n).map λ(i:Nat)=>(i:Int)
def NK(n:Nat):(aE n).length=n:=by simp[aE]
def NL{n i:Nat}(h:(aE n)[i]?=Qs x):x=(i:Int)/\i<n:=by
 unfold aE at h;rw[Se]at h;rcases e:(Si n)[i]? with _|j
 .rw[e]at h;cases h
 rw[e]at h;obtain⟨h1,h2⟩:=RZ.mp e;simp at h1 h2
 simp_all
def Fe(h0:0<=i)(h1:i<=100000):Builtin.Range.rangeFitsLong i=Qt:=by unfold Builtin.Range.rangeFitsLong;have e:(2:Int)^63=9223372036854775808:=rfl;simp;lia
def J5(h0:0<=n)(h1:n<=100000):Builtin.Range.small 0 n 1=Qt:=by
 have rs:Builtin.Range.rangeSize 0 n 1=n:=by simp only[Builtin.Range.rangeSize];lia
 unfold Builtin.Range.small;rw[rs,Fe h0 h1,V4 (by lia),Fe (i:=n+(1-1)) (by lia) (by lia),Td];rfl
open PySem.Spec L2
def rB(i:Nat):Th->Nat:=λt=>match t[i]? with
 |some (.val (.int n))=>n.natAbs+1
 |_=>0
end DL
namespace TS
def zcM(h:ZF)(d:ZE)(es:Array DictEntry)(ep:Nat):Prop:=∃o,h.get? d=Qs o/\o.ExactDict/\o.data=.dict es ep
def zcM.ty{s:R7}(x:zcM s.heap d es ep):s.TypeIs (.ref d) "dict":=let ⟨o,a,r,_⟩:=x;⟨o,a,r.1⟩
section
variable {prog:Te}{w:UX}{A:Ua}{E:R8->R7->Prop}{s:R7}
def KC(nm:(d == sysModules)=Qf)(x:zcM s.heap d es ep)
  (q:Q (.ref s.heap.objs.size) { s with heap:=s.heap.push { cls:=.type "dict_keyiterator",data:=.fields #[.ref d,.int 0 0,.int es.size 0,.int ep 0] } }):wpAny (model prog w) A (pyIter (.ref d)) Q E s:=by have ty:=x.ty;obtain⟨o,a,r,dd⟩:=x;refine wpAny_pyIter_slot ty Vj (wpAny_call_entry Vj ty PySem.F.entry_dict_iter ?_ (PySem.F.args_dict_iter_1 _));refine RA (RA (wpAny_notOrdered_dict ty ?_));refine RP ?_;show wpAny _ _ (Builtin.Dict.showsAll d >>= _) _ _ s;unfold Builtin.Dict.showsAll;rw[Wh (by lia)];refine RA (RP (RA (wpAny_dictEntries a dd (RA (wpAny_dictEpoch a dd ?_)))));exact RA (wpAny_newObj_type (RP ⟨_,rfl,_,_,⟨_,RV _ rfl,rfl⟩,PySem.F.slot_dict_keyiterator_next.lookup, ‹_›⟩))
def KG{it d:ZE}{i ep:Nat}{es:Array DictEntry}{Q:Qo R8->R7->Prop}(ki:s.heap.IsKeyIter it d i es.size ep)(x:zcM s.heap d es ep)(hi:i<es.size)
  (q:∀h',h'.IsKeyIter it d (i+1) es.size ep->Heap.SameBut it s.heap h'->Q (Qs es[i].key) { s with heap:=h' }):wpAny (model prog w) A (pyNext (.ref it)) Q E s:=by
 have ty:=ki.typeIs;obtain⟨o,ho,hc,hd⟩:=ki;obtain⟨od,a,r,dd⟩:=x;have ow:Builtin.Dict_items.ownsTuple "dict_keyiterator"=Qf:=by decide
 have nn : ¬ ((SA d == UY)=Qt):=RD;unfold pyNext;refine RA (wpAny_attempt (wpAny_callSpecial?_slot (name:=Str.ofString "__next__") ty S5 (wpAny_call_entry S5 ty T9 ?_ (T4 _))));refine RA (RP (RA (RA ?_)))
 first | refine RA (wpAny_typeNameOfWhole_keyiter ty (RP (RA (wpAny_fieldsOf ho hd ?_)))) |refine RA (wpAny_typeNameOf_keyiter ty (RP (RA (wpAny_fieldsOf ho hd ?_))))
 simp only[ow,Uj,if_false];show wpAny _ _ (if(SA d == UY)=Qt then _ else _) _ _ s;rw[Wh nn];refine RA (RP (RA (wpAny_dictEntries a dd ?_)));rw[Wh (by simp)];refine RA (RP (RA (wpAny_dictEpoch a dd ?_)));rw[Wh (by simp)];refine RP ?_;have ng : ¬ ((i:Int)<0):=by lia
 simp only[ng,if_false,U9,Array.getElem?_eq_getElem hi];refine RA ?_
 first | refine RA (wpAny_typeNameOfWhole_keyiter ty (RP (RA (wpAny_isOneOf_keyiter ty ?_)))) |refine RA (wpAny_typeNameOf_keyiter ty (RP (RA (wpAny_isOneOf_keyiter ty ?_))))
 show wpAny _ _ (setField (.ref it) 1 (rawInt ((i:Int)+1)) >>= _) _ _ s;refine RA (wpAny_setField ho hd (by simp) ?_);have k2:(s.heap.update it (Obj.mapFields (·.setIfInBounds 1 (rawInt ((i:Int)+1))))).IsKeyIter it d (i+1) es.size ep:=⟨_,Uv _ ho (Obj.isFreed_of_fields (Obj.data_mapFields hd _)),(Obj.cls_mapFields ..).trans hc,by rw[Obj.data_mapFields hd];simp[rawInt]⟩;refine RA (wpAny_holding (RA (wpAny_isOneOf_keyiter (s:={ s with heap:=s.heap.update it (Obj.mapFields (·.setIfInBounds 1 (rawInt ((i:Int)+1)))) }) k2.typeIs ?_)));show wpAny _ _ (pure es[i].key) _ _ _;exact RP (RP ⟨_,rfl,RP (q _ k2 (Heap.SameBut.update ..))⟩)
def KJ(hh:A.handled=Qn)(ki:s.heap.IsKeyIter it d es.size es.size ep)(x:zcM s.heap d es ep) (q:∀h',Heap.ExtBut it s.heap h'->Q Qn {s with heap:=h'}):wpAny (model prog w) A (pyNext (.ref it)) Q E s:=by
 have ty:=ki.typeIs;obtain⟨o,ho,hc,hd⟩:=ki;obtain⟨od,a,r,dd⟩:=x;have ow:Builtin.Dict_items.ownsTuple "dict_keyiterator"=Qf:=rfl;have nn:¬((SA d==UY)=Qt):=RD;refine RA (wpAny_attempt (wpAny_callSpecial?_slot ty S5 (wpAny_call_entry S5 ty T9 ?_ (T4 _))));refine RA (RP (RA (RA ?_)))
 first|refine RA (wpAny_typeNameOfWhole_keyiter ty (RP (RA (wpAny_fieldsOf ho hd ?_))))|refine RA _
 show wpAny _ _ (if(SA d==UY)=Qt then _ else _) _ _ s;refine RA (RP (RA (wpAny_dictEntries a dd ?_)));rw[Wh (by simp)];refine RA (RP (RA (wpAny_dictEpoch a dd ?_)));rw[Wh (by simp)];refine RP ?_;simp;refine RA ?_
 first|refine RA (wpAny_typeNameOfWhole_keyiter ty (RP ?_))|refine RA (wpAny_typeNameOf_keyiter ty (RP ?_))
 show wpAny _ _ (setField (.ref it) 0 .none>>=_) _ _ s;refine RA (wpAny_setField ho hd (by simp) ?_);show wpAny _ _ (newExc (.type "StopIteration") []>>=_) _ _ _;refine RA ?_;simp only[newExc,newTuple];refine RA (wpAny_newObj_type (RA (m:=firstArgMember _ _) (wpAny_of_eq (a:=UY) (by rfl) ?_)) (by size_fits));refine wpAny_newObj_type ?_ (by size_fits);simp only[raiseNew];refine RA (wpAny_handled ?_);rw[show A.in1.handled=Qn from hh];refine RA (RP (wpAny_throw ?_));refine RA (wpAny_isInstance (T:= "StopIteration") (b:=Qt) ⟨_,RV _ rfl,rfl⟩ isSubtype_stop ?_);exact RP (q _ (((Heap.SameBut.update ..).extBut.push _).push _))
end
def adr:R8->ZE
 |.ref a=>a
 |_=>0
end TS
namespace DL
open PySem.Spec L2
def Pn(I:Ql Nat)(σ σ':L2.St):Prop:=∀i∈I,σ'[i]?=σ[i]?
inductive dP(K:Rv)(F:List ZE)(I:List Nat)(g:DS)(E:Ends)(σ:L2.St)(H:Hp):Prop
 |mk (A t t':_) (_:RS K F H A t σ) (_:g t=Qs (.nx t')) (_:∀σ' H' A',Gr A H A' H'->RS K F H' A' t' σ'->Pn I σ σ'->E.nx σ' H')
def lL(g:DS):Prop:=∀t o,g t=Qs o->∃t',o=.nx t'
section
variable {X:Cx}{F:Ql ZE}{I:Ql Nat}{a b c:ZG}{es:Ql ZG}{fa:DE}{g g1 g2:DS}{ft:DT}{st:ZH}
def fB(h1:PS X st (dP X.K F I g1))(h2:WH X rest (dP X.K F I g2)):WH X (st::rest) (dP X.K F I (aB g1 g2)):=by
 refine WH.imp (yt h1 h2) ?_;rintro E σ H ⟨A,t,t2,R,e,h⟩;refine aA e λo1 e1 e=>?_;cases o1 with
 |nx t'=>exact⟨A,t,t',R,e1,λσ' H' A' g' R' n'=>⟨A',t',t2,R',e,λZh YO A'' g'' R'' n''=>h _ _ _ (g'.trans g'') R'' λi hi=>(n'' i hi).trans (n' i hi)⟩⟩
 |rt r=>cases e
 |bk t2=>cases e
 |ct t2=>cases e
def n8(h1:PS X st (dP X.K F I g1)):WH X [st] (dP X.K F I g1):=tT h1
end
end DL
namespace L2
open PySem.Spec
section
variable {X:Cx}
def JT(te:TE)(g1 g2:TG):TS:=λD σ H=>te σ H λx H1=>g1 x σ H1 λσ2 H2=>g2 x σ2 H2 D.nx
def Lv(he:PE X e te)(hg1:PG X t1 g1)(hg2:PG X t2 g2)(hs:swapsWithSole [t1,t2] e pos.line X.env=pure Qf:=by rfl)(hw:swappedStores [t1,t2] e X.env=pure Qn:=by rfl) (h1:(assignEach [t1,t2] X.env).map (·.2)=[assign t1 X.env,assign t2 X.env]:=by rfl):PS X (.Assign [t1,t2] e pos) (JT te g1 g2):=by intro pins s σ H D I h;refine wpAny_Assign_stores (aF (he _ s σ H _ I h) λv s1 ⟨x,H1,I1,r1,q1⟩=>?_) hs hw;rw[h1];refine RA (wpAny_holding (aF (hg1 _ _ σ _ x v _ I1 r1 q1) λ_ s2 q=>?_));obtain⟨σ2,H2,I2,q2⟩:=q;exact aF (hg2 _ _ _ _ x v _ I2 r1 q2) λ_ s3 ⟨σ',H',I',q⟩=>⟨σ',H',I',q⟩
def yl:V->V->V->Hp->(Hp->Prop)->Prop:=λo i v H Q=>∃p H',o=.ref p/\zcN H p i v H'/\Q H'
def J8(hu:X.A.units+1<cLine):vX X yl:=by intro pins s σ H o i v ov iv u Q I ro ri rv h;obtain⟨p,H',rfl,g,q⟩:=h;cases ro;exact Qj hu I g ri rv λs' I'=>⟨H',I',q⟩
end
end L2
namespace DL
open PySem.Spec L2
def BA(K:Rv)(F:Ql ZE)(g:TG)(k:D->Th->Qo Th):Prop:=∀σ H A t t' d (Q:L2.St->Hp->Prop),RS K F H A t σ->bz d=Qt->k d t=Qs t'->After K F A H Q t'->g (sV d) σ H Q
section
variable {X:Cx}{F:Ql ZE}{a b c:ZG}{es:Ql ZG}{fa:DE}{g g1 g2:DS}{gt2:TG}{kt2:D->Th->Qo Th}
def iJ(i:Nat)(fk:DE):D->Th->Qo Th:=λd t=>match rR i fk (dC d) t with
 |some (.nx t')=>Qs t'
 |_=>Qn
def Cm:BA X.K F (Ag (wO i) (dE X.K F fb) yl) (iJ i fb):=by
 intro σ H A t t' d Q R sd e h;unfold iJ rR at e;simp only[dC,RF]at e;rcases e2:fb t with _|kk
 .rw[e2]at e;cases e
 rw[e2]at e;simp at e;rcases eo:qJ t i _ _ with _|o
 .rw[eo]at e;cases e
 rw[eo]at e;unfold qJ at eo;split at eo
 case h_2=>cases eo
 rename_i ks ds k z ek;replace eo:=Xz eo;obtain⟨ok,eo⟩:=eo;simp only[RJ,XT]at ok;cases eo;cases e;obtain⟨p,a1,a2,l,hp,mk⟩:=R.ziw z ok.1.1;refine⟨_,a1,A,t,kk,R,e2,λy H2 gs q2=>?_⟩;have ey:=zy q2.full ek;subst ey;obtain⟨pz,pl⟩:=K0 k d l;obtain⟨A2,R',g'⟩:=mk _ _ _ gs pl (K1 sd ok.1.1);refine⟨p,_,rfl,zcN.k (gs _ _ hp) (by
  unfold df;rw[UR];exact Sr (V8 _ _) (RO ok.2 (by decide))),?_⟩
 rw[pz];exact h _ _ _ g' R'
def vK(k1 k2:D->Th->Qo Th)(f:DE):DS:=λt=>(f t).bind λr=>if bz r.d then(k1 r.d t).bind λt1=>(k2 r.d t1).map Out.nx else Qn
def Ln(he:PE X a (dE X.K F fa))(hg1:PG X t1 gt)(hg2:PG X t2 gt2)(h1:BA X.K F gt kt)(h2:BA X.K F gt2 kt2)(hs:swapsWithSole [t1,t2] a pos.line X.env=pure Qf:=by rfl)(hw:swappedStores [t1,t2] a X.env=pure Qn:=by rfl) (hh:(assignEach [t1,t2] X.env).map (·.2)=[assign t1 X.env,assign t2 X.env]:=by rfl):PS X (.Assign [t1,t2] a pos) (dS X.K F (vK kt kt2 fa)):=by
 refine PS.imp (Lv he hg1 hg2 hs hw hh) ?_;rintro E σ H ⟨A,t,o,R,e,h⟩;unfold vK at e;rcases e1:fa t with _|r
 .rw[e1]at e;cases e
 rw[e1]at e;simp only[RF]at e;replace e:=Xz e;obtain⟨sd,e⟩:=e;rcases e3:kt _ t with _|ta
 .rw[e3]at e;cases e
 rw[e3]at e;simp only[RF]at e;rcases e4:kt2 _ _ with _|tb
 .rw[e4]at e;cases e
 rw[e4]at e;cases e;refine⟨A,t,r,R,e1,λv H1 gs q=>?_⟩;have ev:=yj q.full sd;subst ev;refine h1 σ _ A t _ _ _ (R.grow gs) sd e3 λσ2 H2 A2 X3 R2=>?_;refine h2 _ _ _ _ _ _ _ R2 sd e4 λσ3 H3 A3 ZP R3=>?_;exact h _ _ _ (((Gr.of_same R.mu.left gs).trans X3).trans ZP) R3
def DU(i:Nat){p0:Pos}(hu:X.A.units+64<cLine)(hb:PE X b (dE X.K F fb))(hN:X.N[i]?=Qs x:=by rfl)(hv:autoParam (dD X.env.scope x) qzA._auto_1)(hd:Xg x:=by decide) (W3:X4 x:=by decide) (ha:∀v,assign (.Subscript (.Name x p0) b X9) X.env v=(do
   let ov<-holding [v] (eval (.Name x p0) X.env)
   let iv<-holding [v,ov] (eval b X.env)
   standAt X9
   holding [v,ov,iv] (setItem ov iv v)
   release [v,ov,iv] []):=by intro _;rfl):PG X (.Subscript (.Name x p0) b X9) (Ag (wO i) (dE X.K F fb) yl):=yL (dU hN hv hd W3) hb (J8 (by lia)) ha
def vg(f f':DE):DI:=λt=>(f t).bind λr=>(f' t).bind λr'=>match r.d,r'.d with
 |.lst ds,.lst es=>Qs (r.ok&&r'.ok,hZ ds es)
 |_,_=>Qn
def JX{ds es:Ql D}(hl:vs.length=ds.length)(hl':ws.length=es.length):Src K (hZ ds es) (BF K p p') (λP H=>(V5 K (aj P H) p vs/\VQ K (aj P H) ds vs)/\V5 K (aj P H) p' ws/\VQ K (aj P H) es ws) where
 keep:=λP H P' H' q s=>⟨⟨V5.mono s q.1.1,VQ.mono s q.1.2⟩,V5.mono s q.2.1,VQ.mono s q.2.2⟩
 stop:=λP H q=>⟨vs,ws,V5.mono (aR _ _) q.1.1,V5.mono (aR _ _) q.2.1,by rw[nv,hl,hl']⟩
 go:=λP H i q hi=>by rw[nv]at hi;exact⟨vs,ws,_,_,V5.mono (aR _ _) q.1.1,V5.mono (aR _ _) q.2.1,RH (by lia),RH (by lia)⟩
 XH:=λP H i x H' q mu y hi=>by obtain⟨l,v,u,Y8,rfl,rfl,hv,hu⟩:=y;obtain⟨d,hd,rd⟩:=q.1.2.YM (hv _ (V5.mono (aR _ _) q.1.1));obtain⟨d',YA,rd'⟩:=q.2.2.YM (hu _ (V5.mono (aR _ _) q.2.1));have sm:=dZ (o:=HO.tup [v,u]) Y8;refine⟨sm,_,wx _ _ i d _ hd YA,?_⟩;exact .tup (WG.of (bH bK (eP mu Y8))) (.cons (Rep.mono (cD sm) rd) (.cons (Rep.mono (cD sm) rd') .nil))
def FT{b b':Bool}(h:Rep K (aj (Xn b A F) H) d v):Rep K (aj (Xn (b&&b') A F) H) d v:=by
 cases b with
 |false=>assumption
 |true=>
  cases b' with
  |true=>assumption
  |false=>exact Rep.mono (bE _ λa z=>Ru _ z) h
def LU{elts:Ql ZG}{kk:Nat}{p1 p2:Pos}(hge:Gl X "zip")(hm:X.mg "zip"=Qn)(ha:PE X a (dE X.K F fa))(hb:PE X b (dE X.K F fb))(WY:RM [a,b] X.env=(Qf,eval a X.env)::RM [b] X.env:=by rfl)(zcs:RM [b] X.env=[(Qf,eval b X.env)]:=by rfl)(zaH:(TV p2 (RM [b] X.env)).any (·.1)=Qf:=by rfl):PI X (.Tuple elts kk tp) (.Call (.Name "zip" p1) [a,b] [] p2) (dI X.K F (vg fa fb)):=by
 refine PI.imp (DQ hge hm (fG ha (fG hb gx zcs) WY) WY zaH) ?_;rintro σ H R ⟨A,t,bb,ds,RR,e,h⟩;unfold vg at e;rcases e1:fa t with _|r
 .rw[e1]at e;cases e
 rcases e2:fb t with _|r'
 .rw[e1,e2]at e;cases e
 rw[e1,e2]at e;refine⟨A,t,r,RR,e1,λv H1 XR q1=>⟨A,t,r',RR.grow XR,e2,λv2 H2 Wz q2=>?_⟩⟩;have e:(match r.d,r'.d with
  |.lst _,.lst _=>Qs _
  |_,_=>Qn)=Qs _:=e
 split at e
 case h_2=>cases e
 rename_i xs ys z1 z2;cases e;have gs:=XR.trans Wz;have cl:=FT (b':=r'.ok) (Wt.Xn RR.mu gs (q1.mono Wz));rw[z1]at cl;have cl2:=FT (b':=r.ok) (Wt.Xn RR.mu gs (q2.back XR));rw[z2,Bool.and_comm]at cl2;cases cl with
 |@lst _ p vs h1 h2=>
 cases cl2 with
 |@lst _ p' ws Yf Xi=>exact⟨p,p',rfl,⟨vs,V5.mono (aR _ _) h1⟩,⟨ws,V5.mono (aR _ _) Yf⟩,h _ _ _ gs (JX h2.length Xi.length) ⟨⟨h1,h2⟩,Yf,Xi⟩⟩
end
end DL
namespace TS
section
variable {prog:Te}{w:UX}{A:Ua}{E:R8->R7->Prop}{s:R7}
theorem G3{items:Array R8}{St:Nat->ZF->Prop}(W:Walks prog w A I fp [I] items.size (λi v=>items[i]?=Qs v) St):∀(n i:Nat) (s:R7) (Q:Ql R8->R7->Prop),St i s.heap->i+n<=items.size ->(∀h' tk,St (i+n) h'->(∀b o,b≠I->s.heap.get? b=Qs o->h'.get? b=Qs o)->Q ((items.toList.drop i).take n) { s with heap:=h',toks:=tk })->wpAny (model prog w) A (draw (.ref I) n) Q E s
 |0,i,s,Q,st,_,hQ=>by exact RP (by simp_all)
 |n+1,i,s,Q,st,hle,hQ=>by
  have lt:i<items.size:=by lia
  refine RA (W.item i s _ _ lt st λv h1 tk p st1 k1=>?_);have ev:v=items[i]:=by
   simp_all
  subst ev;refine RA (wpAny_holding (G3 W n _ _ _ st1 (by lia) λh2 tk2 Zk k2=>RP ?_));have hd:items.toList.drop i=items[i]::items.toList.drop (i+1):=by simp[SM,lt]
  grind
def IP(hh:A.handled=Qn)(hl:s.heap.IsList l items)(hn:targets.length=items.size)(hs:targets.findIdx? (·.1)=Qn) (h:∀h' tk,(∀b o,s.heap.get? b=Qs o->h'.get? b=Qs o)->wpAny (model prog w) A (assignInOrder (targets.map (·.2)) items.toList) Q E {s with heap:=h',toks:=tk}):wpAny (model prog w) A (unpack (.ref l) targets) Q E s:=by
 unfold unpack;rw[hn,hs];refine RA (wpAny_holding ?_);refine RA ?_;refine RA (wpAny_specialOf hl.typeIs PySem.F.slot_list_iter.lookup ?_);refine RP ?_;refine RA (wpAny_holding (wpAny_pyIter_list hl ?_));have W:=Walks.list (prog:=prog) (w:=w) hh _ l (So (by obtain⟨o,g,_⟩:=hl;exact RN g)) items;refine RA (wpAny_holding (G3 W _ 0 _ _ ⟨⟨_,RV _ rfl,rfl,rfl⟩,hl.push _⟩ (by lia) λh1 tk st1 k1=>?_));have zbL:List.take items.size (List.drop 0 items.toList)=items.toList:=by exact TU (by simp)
 rw[zbL,Wh (by simp)];rw[UC]at st1;refine RA (wpAny_holding (W.done _ _ _ st1 λh2 tk2 k2=>?_));refine RP (h _ _ λb o e=>k2 b o (λz=>absurd (RN e) (by simp_all)) (k1 b o (So (RN e)) (RC _ e)))
end
end TS
namespace L2
open PySem.Spec TS
section
variable {X:Cx}
def rh(K:Rv)(n:Nat)(t:lK):TG:=λv σ H Q=>∃a xs,v=.ref a/\V5 K H a xs/\xs.length=n/\t xs σ H Q
def LY{k:Nat}(hc:X.calm=Qt)(h:sx X es t)(hn:(assignEach es X.env).length=n:=by rfl)(WY:(assignEach es X.env).findIdx? (·.1)=Qn:=by rfl):PG X (.Tuple es k pos) (rh X.K n t):=by intro pins s σ H v u Q I r hw;obtain⟨a,xs,e1,hq,hl,hw⟩:=hw;subst e1;cases r;obtain⟨VU,rv,pl,hz⟩:=I.list hq;refine RA (wpAny_standAt (IP (I.ok.hd hc) (DL.PlainL.XY pl) (by simp[hn,<-hl,rv.length]) WY λh' tk hk=>?_));exact h _ _ σ H _ _ Q (I.kept hk) (rv) hw
end
end L2
namespace DL
open PySem.Spec L2
def kj(n:Nat)(k:Ql D->Th->Qo Th):D->Th->Qo Th:=λd t=>match d with
 |.lst ds=>if ds.length=n then k ds t else Qn
 |_=>Qn
def Jm (h2:sr K F g' k'):cV K F (rh K n g') (kj n k'):=by
 intro σ H A t t' d x Q R r e h;unfold kj at e;split at e
 .split at e
  .cases r with
   |@lst _ p vs h1 hr=>exact⟨p,vs,rfl,V5.mono (aR _ _) h1,by rw[hr.length];assumption,h2 σ H A t _ _ _ Q R hr e h⟩
  .cases e
 .cases e
end DL
namespace L2
open PySem.Spec
def KA(h:lj k v=Qt):RelV (kV k) v:=by
 rcases jD h with⟨i,t,rfl,rfl⟩|⟨x,t,rfl,rfl⟩
 .exact⟨t,rfl⟩
 .exact⟨t,rfl⟩
end L2
namespace DL
open PySem.Spec L2
def RS.zcR (R:RS K F H A t σ)(e:t[i]?=Qs (.dp d)):∃v B A',σ[i]?=Qs (Qs v)/\RS K (B++F) H A' (t.set i .no) σ/\B.Nodup/\(∀b∈B,b∉F)/\Wn K (aj (A++F) H) H d v B/\(∀x∈A',x∈A)/\(∀x∈B,x∈A):=by
 obtain⟨v,B,A',a1,a2,a3,a4,a5,a6,a7,a8,a9⟩:=R.rel.zi0 R.nd e;have s:VJ (aj (A++F) H) (aj (A'++(B++F)) H):=bE H λx hx=>by
  rcases Ry.mp hx with z|z
  .exact Rw _ (a4 x z)
  .rcases Ry.mp z with z|z
   .exact Rw _ (a5 x z)
   .exact Ru _ z
 refine⟨v,B,A',a1,⟨λp hp=>?_,a8,λp hp z=>?_,We.mono s a3 λ_ _ _ w=>w⟩,a7,λb hb=>R.dj b (a5 b hb),a2,a4,a5⟩
 .rcases Ry.mp hp with z|z
  .exact R.mu p (Rw _ (a4 p z))
  .rcases Ry.mp z with z|z
   .exact R.mu p (Rw _ (a5 p z))
   .exact R.mu p (Ru _ z)
 .rcases Ry.mp z with z|z
  .exact a9 p hp z
  .exact R.dj p (a4 p hp) z
section
variable {X:Cx}{F:Ql ZE}{I:Ql Nat}{a b c:ZG}{es:Ql ZG}{fa:DE}{g g1 g2:DS}{ft:DT}{st:ZH}
def LA(hJ:i∉I)(hN:X.N.Nodup)(hi:X.N[i]?=Qs x)(hx:Loc X.env.scope x)(he:PE X a (dE X.K F fa))(hs:swapsWith a (Qs (.Name x pos')) pos.line X.env=pure Qf:=by rfl)(hf:autoParam (X.fn x=Qt\/X.env.scope.names.lookup x=Qs .local) qzB._auto_1):PS X (.Assign [.Name x pos'] a pos) (dP X.K F I (aW i fa)):=by
 refine PS.imp (yz hN hi hx he hs hf) ?_;rintro E σ H ⟨A,t,t',R,e,h⟩;unfold aW at e;rcases e1:fa t with _|r1
 .rw[e1]at e;cases e
 rw[e1]at e;have e:(dR t i _).map _=Qs _:=e;rcases e2:dR t i _ with _|t2
 .rw[e2]at e;cases e
 rw[e2]at e;cases e;refine⟨A,t,r1,R,e1,λv H' gs q=>?_⟩;obtain⟨A',g',R'⟩:=R.put gs q e2;exact h _ _ _ g' R' λk hk=>Ss (λ(z:i=k)=>hJ (z▸hk))
end
def g4(f:DE):DI:=λt=>(f t).bind λr=>match r.d with
 |.tup ds=>Qs (r.ok,ds)
 |_=>Qn
def JY (hl:vs.length=ds.length):Src K ds (BG K p) (λP H=>WG K (aj P H) p vs/\VQ K (aj P H) ds vs) where
 keep:=λP H P' H' q s=>⟨WG.mono s q.1,VQ.mono s q.2⟩
 stop:=λP H q=>⟨vs,WG.mono (aR _ _) q.1,by lia⟩
 go:=λP H i q hi=>⟨vs,_,WG.mono (aR _ _) q.1,RH (by lia)⟩
 XH:=λP H i x H' q mu y hi=>by obtain⟨e1,e2⟩:=y;subst e1;exact⟨VJ.refl _,q.2.YM (e2 _ (WG.mono (aR _ _) q.1))⟩
section
variable {X:Cx}{F:Ql ZE}{a:ZG}{fa:DE}{tg:ZG}
def pR(hl:PE X a (dE X.K F fa)):PI X tg a (dI X.K F (g4 fa)):=by
 refine PI.imp (LV hl) ?_;rintro σ H R ⟨A,t,b,ds,RR,e,h⟩;refine aA e λr e1 e=>?_;refine⟨A,t,r,RR,e1,λv H1 gs q=>?_⟩;split at e
 case h_2=>cases e
 rename_i ds' z;cases e;have cl:=Wt.Xn RR.mu gs q;rw[z]at cl;cases cl with
 |@tup _ p vs h1 h2=>exact⟨p,rfl,⟨vs,WG.mono (aR _ _) h1⟩,h _ _ _ gs (JY h2.length) ⟨h1,h2⟩⟩
end
mutual
theorem Wn.fl{K:Rv}{H0 H:Hp}:∀{d:D}{v:V}{B:List ZE},Wn K H0 H d v B->flat d=Qt->Rep K H0 d v/\B=[]
 |_,_,_,.flat _ r,_=>⟨r,rfl⟩
 |_,_,_,.tup h r,f=>⟨.tup h (Wf.fl r (by assumption)).1,(Wf.fl r (by assumption)).2⟩
 |_,_,_,.lst _ _,f=>by simp[flat]at f
 |_,_,_,.WR _ _ _,f=>by simp[flat]at f
 |_,_,_,.Xy _,f=>by simp[flat]at f
 |_,_,_,.obj _ _ _,f=>by simp[flat]at f
theorem Wf.fl{K:Rv}{H0 H:Hp}:∀{ds:List D}{vs:List V}{B:List ZE},Wf K H0 H ds vs B->Wv ds=Qt->VQ K H0 ds vs/\B=[]
 |_,_,_,.nil,_=>⟨.nil,rfl⟩
 |_,_,_,.cons h r,f=>by simp only[Wv,RJ]at f;obtain⟨a1,a2⟩:=Wn.fl h f.1;obtain⟨b1,b2⟩:=Wf.fl r f.2;exact⟨.cons a1 b1,by rw[a2,b2];rfl⟩
end
end DL
namespace L2
open PySem.Spec
def Qk{σ:L2.St}(I:Inv X pins σ H s)(e:H a=Qs (.dK Wg))(ry:RelV (kV k) u)(rv:RelV v r)(l:Wg.length<Sf)(h:∀s',Inv X pins σ (upd H a (.dK (fY Wg k v))) s'->Q () s'):wpAny (model X.prog X.w) A (dictSet a u r) Q E s:=by obtain⟨z,hd,vs,rel,dd⟩:=G5 I.Wk e;refine wpAny_dictSet_pairs (hsz:=(by rw[<-rel.length];assumption)) (uK ry) dd λh' dd' hs=>h _ ?_;exact Az I (by rw[e];exact True.intro) hs (let ⟨q,_,_,hq,_⟩:=dd';⟨q,hq⟩) (G6 (by have:=zo Wg k v;lia) hd (rel.put k rv) dd')
def Qv{ifs:Ql ZG}(em:Sem Unit) (heq:compTurn (.DictComp kx vx gens scope pos) depth it acc env=(do
   standAt ip
   match<-pyNext it with
   |none=>pure (.done .next)
   |some v=>
    letOwnedTupleGo target it v
    assign target env v
    let mut ok:=Qt
    for c in ifs do
     if ok then ok<-isTrue c env (eval c env)
    if ok then em
    again (.compLoop (.DictComp kx vx gens scope pos) depth it acc env))) (I:Nat->R7->Prop) (turn:∀n s,I n s->wpAny (model prog w) A (pyNext it) (λr s₁=>match r with
   |none=>R (.ok .next) s₁
   |some v=>wpAny (model prog w) A (letOwnedTupleGo target it v) (λ_ s₁'=>wpAny (model prog w) A (assign target env v) (λ_ s₂=>
     wpAny (model prog w) A (forIn ifs Qt λc r=>if r=Qt then do let ok<-isTrue c env (eval c env);pure (Tw ok) else pure (Tw r)) (λok s₃=>
      if ok=Qt then wpAny (model prog w) A em (λ_ s₅=>∃m,m<n/\I m s₅) (λ_ _=>False) s₃
      else ∃m,m<n/\I m s₃) (λ_ _=>False) s₂) (λ_ _=>False) s₁') (λ_ _=>False) s₁) (λ_ _=>False) s) (n:Nat) (h:I n s):codeAny (model prog w) A (.compLoop (.DictComp kx vx gens scope pos) depth it acc env) R s:=by
 refine codeAny_loop rfl I (λn s hI=>?_) n h;refine wpAny_noted ?_;rw[heq];refine RA (wpAny_standAt (RA (wpAny_mono (turn n s hI) (λr s₁ h₁=>?_) λ_ _ h'=>h'.elim)));cases r with
 |none=>exact RP h₁
 |some v=>
  refine RA (wpAny_mono h₁ (λ_ s₁' h₁'=>?_) λ_ _ h'=>h'.elim);refine RA (wpAny_mono h₁' (λ_ s₂ h₂=>RA (wpAny_mono h₂ (λok s₃ h₃=>?_) λ_ _ h'=>h'.elim)) λ_ _ h'=>h'.elim);cases ok with
  |false=>exact RP ⟨rfl,h₃⟩
  |true=>exact RA (wpAny_mono h₃ (λ_ s₅ h₅=>RP ⟨rfl,h₅⟩) λ_ _ h'=>h'.elim)
end L2
namespace DL
open PySem.Spec L2
abbrev KD:=Ql bQ×Ql D
def mK(Wg:Ql (bQ×V)):MO:=⟨.dK Wg,rfl⟩
def RS.zhT (R:RS K P H [] t σ)(hp:p∈P):RS K P (upd H p (.dK Wg)) [] t σ where
 mu:=λq hq=>by
  by_cases z:q=p
  .exact⟨mK _,by rw[z];exact bK⟩
  .obtain⟨us,w⟩:=R.mu q hq;exact⟨us,by rw[aY z];assumption⟩
 nd:=Sv
 dj:=λp hp=>by cases hp
 rel:=We.mono (oQ hp) R.rel λq hq=>by cases hq
def AD:DS:=λ_=>Qn
def Li{st:ZH}:PS X st (dS X.K F AD):=by intro E pins s σ H I h;obtain⟨A,t,o,R,e,h⟩:=h;cases e
end DL
namespace L2
open PySem.Spec
def Cs(n:Nat)(cap:Ql Nat)(wi:TI)(g:TG)(tt:TT)(tk tv:TE):TE:=λσ H Q=>wi σ H λJ H1=>∀D,H1 D=Qn->∃W:Nat->Nat->L2.St->Hp->Prop,(∃m,W 0 m (g9 n cap σ) (upd H1 D (.dK [])))/\∀i m σ' H',W i m σ' H'->(J.stop i H'/\Q (.ref D) H')\/(J.go i H'/\∃N:L2.St->Hp->Prop,(∀Zh YO,N Zh YO->∃m',m'<m/\W (i+1) m' Zh YO)/\∀x H2,J.XH i H' x H2->g x σ' H2 λσ2 H3=>tt σ2 H3 λb H4=>
  if b=Qt then tk σ2 H4 λx H5=>tv σ2 H5 λy H6=>∃Wg k,x=kV k/\H6 D=Qs (.dK Wg)/\Wg.length<Sf/\N σ2 (upd H6 D (.dK (fY Wg k y))) else N σ2 H4)
def Qp{σ:L2.St}{Q:VK}(S:Yk X scope)(hc:X.calm=Qt)
  (hN:N'.length=n+cap.length) (XQ:∀(k:Nat) (j:Nat),cap[k]?=Qs j->∃x,N'[n+k]?=Qs x/\X.N[j]?=Qs x/\(x,SS)∈scope.names)
  (hg:∀C s₃ H₃ fp pins,PG (bC X N' scope C s₃ H₃ fp pins) tg g) (ht:∀C s₃ H₃ fp pins,XZ (bC X N' scope C s₃ H₃ fp pins) ifs tt) (hkx:∀C s₃ H₃ fp pins,PE (bC X N' scope C s₃ H₃ fp pins) kx tk) (hvx:∀C s₃ H₃ fp pins,PE (bC X N' scope C s₃ H₃ fp pins) vx tv)
  (fin:∀(C:ZE) (s3:R7) (H3:Hp) (fp:Ql ZE) (D:ZE) (σ4:L2.St) (H4:Hp) (s4:R7) (f:Flow),Inv X pins σ H3 s3->(∀b∈fp,fJ X pins H3 b)->C=s3.heap.objs.size->Inv (bC X N' scope C s3 H3 fp pins) [] σ4 H4 s4->Q (.ref D) H4->compPost (model X.prog X.w) X.A X.xe use PQ (.ref D) C (.ok f) s4)
  (h2:vY X pins σ tg (λJ H1 => ∀D,H1 D=Qn->∃W:Nat->Nat->L2.St->Hp->Prop,(∃m,W 0 m (g9 n cap σ) (upd H1 D (.dK [])))/\∀i m σ' H',W i m σ' H' ->(J.stop i H'/\Q (.ref D) H')\/(J.go i H'/\∃N:L2.St->Hp->Prop,(∀Zh YO,N Zh YO->∃m',m' < m/\W (i+1) m' Zh YO)/\∀x H2,J.XH i H' x H2->g x σ' H2 λσ2 H3=>tt σ2 H3 λb H4 =>
  if b=Qt then tk σ2 H4 λx H5=>tv σ2 H5 λy H6 => ∃Wg k,x=kV k/\H6 D=Qs (.dK Wg)/\Wg.length<Sf/\N σ2 (upd H6 D (.dK (fY Wg k y))) else N σ2 H4)) itv s2) :wpAny (model X.prog X.w) X.A newDict (λacc s₃=>wpAny (model X.prog X.w) X.A (newFunctionEnv scope X.env.globals (eG X.env.cells scope.names []) [] X.env.qual Qn .none (Qs X.env)) (λzcI s₄ =>
   codeAny (model X.prog X.w) X.A (.compStart (.DictComp kx vx [⟨tg,iter,ifs,0⟩] scope pos) 0 itv acc { zcI with scope:=relabel scope X.env }) (compPost (model X.prog X.w) X.A X.xe use PQ acc zcI.locals) s₄) X.xe s₃) X.xe s2:=by
 obtain⟨it,fp,tn,J,H2,e,I2,T,Zk,f2,R⟩:=h2;subst e;have lt2:∀b∈fp,b<s2.heap.objs.size:=λb hb=>by obtain⟨o,e,_⟩:=T.obj _ _ Zk b hb;exact RN e
 have hD:H2 s2.heap.objs.size=Qn:=I2.fresh;obtain⟨W,⟨m0,w0⟩,turn⟩:=R s2.heap.objs.size hD;have I3:Inv X pins σ (upd H2 s2.heap.objs.size (.dK [])) { s2 with heap:=s2.heap.push { cls:=.type "dict",data:=.dict #[] },toks:=s2.toks }:=I2.laid (a:=s2.heap.objs.size) (o:=.dK []) (t':=s2.toks) (λ_ _ q=>RC _ q) (RL _) (G7 s2.heap I2.big);have f3:∀b∈fp,fJ X pins (upd H2 s2.heap.objs.size (.dK [])) b:=λb hb=>⟨by rw[aY (So (lt2 b hb))];exact(f2 b hb).1,(f2 b hb).2⟩;refine wpAny_newObj_type (BW λh₁ zel hk zet=>?_);have lt3:∀b∈fp,b<(s2.heap.push { cls:=.type "dict",data:=.dict #[] }).objs.size:=λb hb=>by rw[Uc];exact Ur (lt2 b hb)
 have I4:Inv (bC X N' scope (s2.heap.push { cls:=.type "dict",data:=.dict #[] }).objs.size { s2 with heap:=s2.heap.push { cls:=.type "dict",data:=.dict #[] },toks:=s2.toks } (upd H2 s2.heap.objs.size (.dK [])) fp pins) [] (g9 n cap σ) (upd H2 s2.heap.objs.size (.dK [])) { s2 with heap:=h₁,toks:=s2.toks } :=HL I3 S hc f3 lt3 (t1:=s2.toks) zel hk zet (by simp[g9,hN]) (λi x v e1 e2=>by
   unfold g9 at e2;by_cases hi:i<n
   .rw[Ta (by simpa using hi),Ug]at e2;lia
   .rw[T1 (by simpa using hi),Vq,Se]at e2;rcases ej:cap[i - n]? with _|j
    .rw[ej]at e2;cases e2
    rw[ej]at e2;obtain⟨x',a1,a2,a3⟩:=XQ _ j ej;have:n+(i - n)=i:=by lia
    rw[this,e1]at a1;cases a1;refine⟨a3,j,a2,?_⟩;have e2:=by simpa using e2
    cases q:σ[j]? with
    |none=>rw[q]at e2;cases e2
    |some z=>simp_all)
 have loop:codeAny (model X.prog X.w) X.A (.compLoop (.DictComp kx vx [⟨tg,iter,ifs,0⟩] scope pos) 0 (.ref it) (.ref s2.heap.objs.size) (compEnvC scope (cellsFrom ((s2.heap.push { cls:=.type "dict",data:=.dict #[] }).objs.size+1) scope.names (eG X.env.cells scope.names [])) (s2.heap.push { cls:=.type "dict",data:=.dict #[] }).objs.size X.env))
   (compPost (model X.prog X.w) X.A X.xe use PQ (.ref s2.heap.objs.size) (s2.heap.push { cls:=.type "dict",data:=.dict #[] }).objs.size) { s2 with heap:=h₁,toks:=s2.toks }:=by
  generalize hY:(bC X N' scope (s2.heap.push { cls:=.type "dict",data:=.dict #[] }).objs.size { s2 with heap:=s2.heap.push { cls:=.type "dict",data:=.dict #[] },toks:=s2.toks } (upd H2 s2.heap.objs.size (.dK [])) fp pins)=Y at I4;have st4:tn 0 h₁:=T.keep _ _ _ Zk λb hb o e=>hk b o (RC _ e);have Zx:∀{H':Hp},(∀b∈fp,H' b=Qn)->∀b∈fp,fJ Y [] H' b:=λhn b hb=>by
   subst hY;obtain⟨f0,f1,f2',f3',f4,f5⟩:=f3 b hb;exact⟨hn b hb,So (lt3 b hb),λz=>(RB.mp (I3.zbq b z)).elim f1 f2',.inl hb,λx c e=>(by
    rcases S.old I3 e with z | z
    .exact f4 x c z
    .exact Uh (U4 (lt3 b hb) z)),λp hp=>f5 p (by simpa using hp)⟩
  have hgY:PG Y tg g:=hY ▸ hg _ _ _ _ _;have htY:XZ Y ifs tt:=hY ▸ ht _ _ _ _ _;have hkY:PE Y kx tk:=hY ▸ hkx _ _ _ _ _;have hvY:PE Y vx tv:=hY ▸ hvx _ _ _ _ _;have yp:Y.prog=X.prog:=by subst hY;rfl
  have yw:Y.w=X.w:=by subst hY;rfl
  have yK:Y.K=X.K:=by subst hY;rfl
  have yA:Y.A=X.A:=by subst hY;rfl
  have yc:Y.calm=Qt:=by subst hY;rfl
  have yx:Y.xe=λ_ _=>False:=by subst hY;rfl
  have ye:Y.env=compEnvC scope (cellsFrom ((s2.heap.push { cls:=.type "dict",data:=.dict #[] }).objs.size+1) scope.names (eG X.env.cells scope.names [])) (s2.heap.push { cls:=.type "dict",data:=.dict #[] }).objs.size X.env:=by subst hY;rfl
  rw[<-ye];refine Qv (do
      let kv <-eval kx Y.env
      let vv <-holding [kv] (eval vx Y.env)
      standAt { kx.pos with endLine:=vx.pos.endLine,endCol:=vx.pos.endCol }
      holding [kv,vv] (dictSet s2.heap.objs.size kv vv)) (compTurn_dict _ _ _ _ _ _ _ _ _ _) (λn s' => ∃i σ' H',Inv Y [] σ' H' s'/\tn i s'.heap/\(∀b∈fp,H' b=Qn)/\W i n σ' H') ?_ m0 ⟨0,_,_,I4,st4,λb hb=>(f3 b hb).1,w0⟩
  rintro n s3 ⟨i,σ3,H3,I5,st3,fr3,w3⟩;rcases turn i n σ3 H3 w3 with⟨stop,qn⟩ | ⟨go,N,hNN,step⟩
  .have d:=T.done Y yp yw yK yc i [] s3 σ3 H3 (λ_ _=>False) I5 (Zx fr3) st3 stop;rw[yA]at d;refine aF d λr s4 ⟨hr,I6⟩=>?_;subst hr;subst hY;exact fin _ _ _ _ _ _ _ _ _ I3 f3 rfl I6 qn
  .have d:=T.item Y yp yw yK yc i [] s3 σ3 H3 (λ_ _=>False) I5 (Zx fr3) st3 go;rw[yA]at d;refine aF d λr s4 ⟨u,hr,h4⟩=>?_;subst hr;refine aF h4 λ_ s5 ⟨x,H5,I6,r5,y5,Zy,fr5⟩=>?_;have I6':=I6.pinned (Zx fr5) (T.obj _ _ Zy);have a:=hgY _ s5 σ3 H5 x u _ I6' r5 (step x H5 y5);rw[yp,yw,yA,yx]at a;refine aF a λ_ s6 ⟨σ6,H6,I7,q6⟩=>?_;have b:=htY _ s6 σ6 H6 _ I7 q6;rw[yp,yw,yA,yx]at b;refine aF b λok s7 ⟨H7,I8,q7⟩=>?_;have again:∀{s9:R7}{H9:Hp},Inv Y ([]++oa fp s5.heap) σ6 H9 s9->N σ6 H9->∃m,m<n/\∃i σ' H',Inv Y [] σ' H' s9/\tn i s9.heap/\(∀b∈fp,H' b=Qn)/\W i m σ' H':=λ{s9 H9} I9 n9=>by obtain⟨m',hm,w9⟩:=hNN σ6 H9 n9;refine⟨m',hm,i+1,σ6,H9,I9.zbY,T.keep _ _ _ Zy λb hb o e=>(I9.pin (b,o) (Ru _ (Ru _ (ot hb e)))).1,λb hb=>?_,w9⟩;obtain⟨o,e,d⟩:=T.obj _ _ Zy b hb;exact(I9.pin (b,o) (Ru _ (Ru _ (ot hb e)))).2.1
   cases ok with
   |false=>exact mF (again I8 (by simpa using q7))
   |true =>rw[V4 rfl]at q7;refine mE ?_;have c:=hkY _ s7 σ6 H7 _ I8 q7;rw[yp,yw,yA,yx]at c;refine RA (aF c λkv s8 ⟨vk,H8,I9,rk,q9⟩=>RA (wpAny_holding ?_));have d:=hvY _ s8 σ6 H8 _ I9 q9;rw[yp,yw,yA,yx]at d;refine aF d λvv s9 ⟨vy,H9,I10,rv,Wg,kk,ek,hD',hl,n9⟩=>RA (wpAny_standAt (wpAny_holding ?_));subst ek;have e:=Qk (A:=Y.A) (E:=λ_ _=>False) (Q:=λ_ s' => ∃m,m<n/\∃i σ' H',Inv Y [] σ' H' s'/\tn i s'.heap/\(∀b∈fp,H' b=Qn)/\W i m σ' H') I10 hD' rk rv hl λs' I11=>again I11 n9;rw[yp,yw,yA]at e;exact e
 exact codeAny_compStart_dict loop (T.self _ 0 _ _ _ (T.keep _ _ _ Zk λb hb o e=>hk b o (RC _ e)) loop)
def Lu(S:Yk X scope)(hc:X.calm=Qt)(hi:PI X tg iter wi) (hN:N'.length=n+cap.length) (XQ:∀(k:Nat) (j:Nat),cap[k]?=Qs j->∃x,N'[n+k]?=Qs x/\X.N[j]?=Qs x/\(x,SS)∈scope.names) (hg:∀C s₃ H₃ fp pins,PG (bC X N' scope C s₃ H₃ fp pins) tg g) (ht:∀C s₃ H₃ fp pins,XZ (bC X N' scope C s₃ H₃ fp pins) ifs tt) (hkx:∀C s₃ H₃ fp pins,PE (bC X N' scope C s₃ H₃ fp pins) kx tk) (hvx:∀C s₃ H₃ fp pins,PE (bC X N' scope C s₃ H₃ fp pins) vx tv) (ZO:X.N.Nodup) (ZL:X.N[i₀]?=Qs y₀) (hy:Loc X.env.scope y₀) (X8:swapsWith (.DictComp kx vx [⟨tg,iter,ifs,0⟩] scope pos) (Qs (.Name y₀ py)) Zl.line X.env=pure Qt) (hf:X.fn y₀=Qt\/X.env.scope.names.lookup y₀=Qs .local) (hs:∀x,foldedSetIterable iter X.env x=pure x:=by intro _;rfl):PS X (.Assign [.Name y₀ py] (.DictComp kx vx [⟨tg,iter,ifs,0⟩] scope pos) Zl) (λD σ H=>Cs n cap wi g tt tk tv σ H λv H1=>D.nx (σ.set i₀ (Qs v)) H1):=by
 intro pins s σ H Ed I h;rw[exec_Assign_Name_used _ _ _ _ X8];refine RA (wpAny_standAt (RA ?_));refine RA (aF ?_ λ_ s' hq=>RP (RP hq));refine wpAny_comprehension_free rfl hs (AN (S.frees I.ok)) S.kind (λx hx hl=>by rw[S.names x hx,hl]) (aF (hi _ s σ H _ I h) λv s1 h1=>aF h1 λitv s2 h2=>Qp (Q:=λv H1=>Ed.nx (σ.set _ (Qs v)) H1) S hc hN XQ hg ht hkx hvx (λC s3 H3 fp D σ4 H4 s4 f I3 f3 hC I6 qn=>?_) h2);obtain⟨m,hm,_⟩:=I6.loc;have fC:fJ X _ _ C:=I3.zau (by lia) I6.free;obtain⟨c0,c1,c2,c3,c4,c5⟩:=fC;refine wpAny_assign_Name (wX (s:=s4) (Be I3 f3 hC I6 (h'':=s4.heap) ⟨rfl,λ_ _=>rfl⟩) ZO ZL hy (v:=.ref D) rfl (λs5 I7 ⟨a,sb,ha⟩=>?_) hf);have na:a≠C:=by
  rcases ha with z|z
  .lia
  .exact c4 _ _ z
 refine⟨m,hm.sameBut sb (Ne.symm na),λh' hb=>⟨_,H4,?_,qn⟩⟩;exact I7.turned (t':=s5.toks) (λb o n e=>(hb.2 b n).trans e) c0 c1 c3 c4 c5
end L2
namespace DL
open PySem.Spec L2
def K3 (k:bQ)(rd:Rep K H d v)(l:ks.length=vs.length)(r:VQ K H ds vs):∃XO:Ql V,fY (df ks vs) k v=df (fE ks ds k d).1 XO/\(fE ks ds k d).1.length=XO.length/\VQ K H (fE ks ds k d).2 XO:=by
 have ha:(df ks vs).any (λkv=>decide (kv.1=k))=iK ks k:=by rw[sO,uZ k l]
 unfold fY fE;rw[ha];by_cases hc:iK ks k=Qt
 .rw[V4 hc,V4 hc];refine⟨VX (λk' v'=>if k'=k then v else v') ks vs,?_,by simp;lia,?_⟩
  .clear hc ha r;unfold df
   induction ks generalizing vs with
   |nil=>simp
   |cons k' ks ih=>
    cases vs with
    |nil=>simp at l
    |cons v' vs=>simp only[Sx,RK,Tu,(ih (vs:=vs) (by simpa using l))];lia
  .clear hc ha
   induction ks generalizing vs ds with
   |nil=>exact .nil
   |cons k' ks ih=>
    cases vs with
    |nil=>simp at l
    |cons v' vs=>
     cases r with
     |cons r1 r2=>refine .cons ?_ (ih (by simpa using l) r2);lia
 .rw[Wh hc,Wh hc];refine⟨_,?_,by simp;assumption,r.app (VQ.one rd)⟩;unfold df;rw[V6 l];rfl
def K4(sd:flat d=Qt):∀{ds:Ql D},Wv ds=Qt->Wv (fE ks ds k d).2=Qt:=λ{ds} s=>by
 have ap:∀l:Ql D,Wv l=Qt->Wv (l++[d])=Qt:=by
  intro l
  induction l with
  |nil=>simp[Wv,sd]
  |cons a l ih=>intro h;simp only[Wv,RJ]at h;simp only[TC,Wv,RJ];exact⟨h.1,ih h.2⟩
 unfold fE;split
 .rename_i hc;clear hc
  induction ks generalizing ds with
  |nil=>rfl
  |cons k' ks ih=>
   cases ds with
   |nil=>rfl
   |cons d' ds=>simp only[Wv,RJ]at s;simp only[Tu,Wv,RJ];refine⟨?_,ih s.2⟩;lia
 .exact ap _ s
def pH(a:KD)(x y:Ev):Qo KD:=match oC x.d with
 |some kk=>if flat y.d&&decide (a.1.length<50000) then Qs (fE a.1 a.2 kk y.d) else Qn
 |none=>Qn
noncomputable def jM(k:D->Th->Qo Th)(ft:DT)(fk fv:DE):Ql D->Th->KD->Qo KD
 |[],_,a=>Qs a
 |d::ds,t,a=>(k d t).bind λt1=>(ft t1).bind λb=>if b then(fk t1).bind λx=>(fv t1).bind λy=>(pH a x y).bind λa1=>jM k ft fk fv ds t1 a1 else jM k ft fk fv ds t1 a
def vJ(n:Nat)(cap:Ql Nat)(fs:DI)(k:D->Th->Qo Th)(ft:DT)(fk fv:DE):DE:=λt=>(fs t).bind λq=>(gC t cap).bind λc=>
 (jM k ft fk fv q.2 (RT n Sl.no++c.2.map Sl.val) ([],[])).map λa=>.dn (.WR a.1 a.2)
def Jp{X:Cx}(hk:∀F',cV X.K F' g kt)(h:dE X.K F (vJ n cap fs kt ft fk fv) σ H Q):Cs n cap (dI X.K F fs) g (λσ H Q=>∃F',dT X.K F' ft σ H Q) (λσ H Q=>∃F',dE X.K F' fk σ H Q) (λσ H Q=>∃F',dE X.K F' fv σ H Q) σ H Q:=by
 obtain⟨A,t,r,R,e,h⟩:=h;unfold vJ at e;rcases e1:fs t with _|q
 .rw[e1]at e;cases e
 obtain⟨b,ds⟩:=q;rcases e2:gC t cap with _|q2
 .rw[e1,e2]at e;cases e
 obtain⟨c,zbS⟩:=q2;rw[e1,e2]at e;simp only[RF]at e;rcases e3:jM kt ft fk fv ds (RT n Sl.no++zbS.map Sl.val) ([],[]) with _|xs
 .rw[e3]at e;cases e
 rw[e3]at e;cases e;obtain⟨cvs,cv1,cv2⟩:=r8 R e2;obtain⟨F',ze4⟩:∃F',F'=Xn (b&&c) A F:=⟨_,rfl⟩;have zh4:∀x∈F',x∈A++F:=λx hx=>by
  rw[ze4]at hx;unfold Xn at hx;split at hx
  .assumption
  .exact Ru _ hx
 have zi4:∀H:Hp,VJ (aj (Xn b A F) H) (aj F' H):=λH=>bE H λx hx=>by rw[ze4]at hx;cases b<;>cases c<;>simp[Xn]at hx ⊢<;>first|exact hx|exact .inr hx|(rcases hx with z|z<;>simp[z])
 have zi3:∀H:Hp,VJ (aj (Xn c A F) H) (aj F' H):=λH=>bE H λx hx=>by rw[ze4]at hx;cases b<;>cases c<;>simp[Xn]at hx ⊢<;>first|exact hx|exact .inr hx|(rcases hx with z|z<;>simp[z])
 refine⟨A,t,b,ds,R,e1,λJ H1 Good gs src gd Dd hD=>?_⟩;have Z9:WM H1 (A++F):=R.mu.mono gs;have st0:VJ (aj F' H1) (aj (Dd::F') (upd H1 Dd (.dK []))):=kh hD;refine⟨λi m σ' H'=>i+m=ds.length/\∃th a vs,RS X.K (Dd::F') H' [] th σ'/\jM kt ft fk fv (ds.drop i) th a=Qs xs/\H' Dd=Qs (.dK (df a.1 vs))/\a.1.length=vs.length/\VQ X.K (aj (Dd::F') H') a.2 vs/\Wv a.2=Qt/\VJ H1 H'/\Good (Dd::F') H',⟨ds.length,by lia,_,([],[]),[],⟨?_,Sv,λp hp=>(by cases hp),?_⟩,by assumption,bK,rfl,.nil,rfl,dZ hD,src.keep _ _ _ _ gd (λb o z=>st0 _ _ (zi4 _ _ _ z))⟩,?_⟩
 .intro q hq;have hq:q∈Dd::F':=hq;rcases RB.mp hq with z|z
  .exact⟨mK _,by rw[z];exact bK⟩
  .obtain⟨us,w⟩:=Z9 q (zh4 q z);exact⟨us,(dZ hD) _ _ w⟩
 .unfold g9;rw[cv1];exact We.zda (VQ.mono (λb o z=>st0 _ _ (zi3 _ _ _ (cD gs _ _ z))) cv2) n
 .rintro i m σ' H' ⟨hm,th,a,vs,RR,ec,hv,lv,hr,fl,sm,gg⟩;cases m with
  |zero=>
   have z:i=ds.length:=by assumption
   subst z;rw[Tr]at ec;cases ec;refine .inl ⟨src.stop _ _ gg,h _ H' (gs.trans sm) ⟨[Dd],by simp,λb hb=>by simp at hb;subst hb;exact VJ.free gs hD,.WR (vs:=vs) lv hv (Wf.za7 fl (VQ.W2 (λq hq=>?_) fl (VQ.mono (aR _ _) hr)))⟩⟩;rcases Ry.mp hq with z|z
   .exact⟨mK _,by rw[RG.mp z];assumption⟩
   .obtain⟨us,w⟩:=Z9 q z;exact⟨us,sm _ _ w⟩
  |succ m=>
   have Yz:i<ds.length:=by lia
   refine .inr ⟨src.go _ _ i gg Yz,λσ' H'=>i+1+m=ds.length/\∃th a vs,RS X.K (Dd::F') H' [] th σ'/\jM kt ft fk fv (ds.drop (i+1)) th a=Qs xs/\H' Dd=Qs (.dK (df a.1 vs))/\a.1.length=vs.length/\VQ X.K (aj (Dd::F') H') a.2 vs/\Wv a.2=Qt/\VJ H1 H'/\Good (Dd::F') H',λσ' H' q=>⟨m,SO m,q⟩,λx H2 y=>?_⟩
   obtain⟨Wz,d,hd,rd⟩:=src.XH _ _ i x H2 gg RR.mu y Yz;have ed:ds.drop i=d::ds.drop (i+1):=by
    have YA:ds[i]=d:=by
     simp_all
    rw[<-YA];simp
   rw[ed]at ec;unfold jM at ec;rcases k1:kt d th with _|t1
   .rw[k1]at ec;cases ec
   rw[k1]at ec;simp only[RF]at ec;refine hk (Dd::F') σ' H2 [] th t1 d x _ (RR.grow Wz) rd k1 λσ2 A2 X3 R2=>?_;have A20:=um R2 X3;subst A20;rcases k2:ft t1 with _|bb
   .rw[k2]at ec;cases ec
   rw[k2]at ec;simp only[RF]at ec;refine⟨Dd::F',[],t1,bb,R2,k2,λH3 YB=>?_⟩;cases bb with
   |false=>refine mF ⟨by lia,t1,a,vs,R2.grow YB,ec,YB _ _ (Wz _ _ hv),lv,VQ.mono (cD (Wz.trans YB)) hr,fl,(sm.trans Wz).trans YB,src.keep _ _ _ _ gg (cD (Wz.trans YB))⟩
   |true=>
    rcases w3:fk t1 with _|rk
    .rw[w3]at ec;cases ec
    rw[w3]at ec;rcases w4:fv _ with _|rv
    .rw[w4]at ec;cases ec
    rw[w4]at ec;simp at ec;rcases w5:pH a _ _ with _|a1
    .rw[w5]at ec;cases ec
    rw[w5]at ec;simp at ec;unfold pH at w5;split at w5
    case h_2=>cases w5
    rename_i kk ek;replace w5:=Xz w5;obtain⟨c5,w5⟩:=w5;rw[RJ,XT]at c5;cases w5;refine mE ⟨_,[],t1,rk,R2.grow YB,w3,λx' H7 gs7 q7=>⟨_,[],t1,rv,(R2.grow YB).grow gs7,w4,λy' H8 gs8 q8=>?_⟩⟩;have ex:=zy q7.full ek;subst ex;have s8:=((Wz.trans YB).trans gs7).trans gs8;have cv:=q8.Ze (((R2.grow YB).grow gs7).mu);obtain⟨XO,pz,pl,pr⟩:=K3 _ cv lv (VQ.mono (cD s8) hr);have hu:VJ _ (aj (Dd::F') (upd H8 _ (.dK (fY (df a.1 vs) kk y')))):=oQ (Rz ..);refine⟨_,kk,rfl,s8 _ _ hv,?_,by lia,t1,_,XO,RS.zhT (((R2.grow YB).grow gs7).grow gs8) (Rz ..),ec,?_,pl,VQ.mono hu pr,K4 c5.1 fl,?_,?_⟩
    .unfold df;rw[UR];exact Sr (V8 _ _) (RO c5.2 (by decide))
    .rw[bK];lia
    .exact λb o z=>by rw[aY (λw=>by lia)];exact s8 _ _ (sm _ _ z)
    .exact src.keep _ _ _ _ gg (λb o z=>hu _ _ (cD s8 _ _ z))
theorem Xp:∀ns:Ql Int,Wv (ns.map D.int)=Qt
 |[]=>rfl
 |n::ns=>by simp[Wv,flat,Xp _]
structure Res where
 γ:Type
 rel:Rv->Hp->ZE->γ->List ZE->Prop
 mono:∀{K:Rv}{H H':Hp}{p:ZE}{w:γ}{B:List ZE},rel K H p w B->(∀b o,H b=Qs o->(Et o=Qf\/b∈B)->H' b=Qs o)->rel K H' p w B
 lists:∀{K:Rv}{H:Hp}{p:ZE}{w:γ}{B:List ZE},rel K H p w B->WM H B
structure RW(ρ:Res)(K:Rv)(F:List ZE)(H:Hp)(A:List ZE)(t:Th)(σ:L2.St)(p:ZE)(w:ρ.γ)(B:List ZE):Prop where
 rs:RS K (B++F) H A t σ
 rel:ρ.rel K H p w B
 nd:B.Nodup
 dj:∀b∈B,b∉F
def Ch(B:Ql ZE)(H H':Hp):Prop:=∀b o,b∉B->H b=Qs o->H' b=Qs o
def Ch.refl:Ch B H H:=λ_ _ _ h=>h
def Ch.of(g:VJ H H'):Ch B H H':=λb o _ h=>g b o h
def Ch.trans(a:Ch B H H1)(b:Ch B H1 H2):Ch B H H2:=λx o n h=>b x o n (a x o n h)
def iH(B:Ql ZE)(H H':Hp):Hp:=λb=>if b∈B then H' b else H b
def ze(h:b∈B):iH B H H' b=H' b:=V4 h
def mq(h:b∉B):iH B H H' b=H b:=Wh h
def qi(c:Ch B H H'):VJ (iH B H H') H':=λb o h=>by
 by_cases z:b∈B
 .rwa [ze z]at h
 .rw[mq z]at h;exact c b o z h
section
variable {ρ:Res}{F A A' B:Ql ZE}{t t':Th}{σ σ':L2.St}{p:ZE}{w w':ρ.γ}{r:Ev}{v:V}
theorem RW.grow(R:RW ρ K F H A t σ p w B)(g:VJ H H'):RW ρ K F H' A t σ p w B:=⟨R.rs.grow g,ρ.mono R.rel λb o h _=>g b o h,R.nd,R.dj⟩
def RW.za8(R:RW ρ K F H A t σ p w B)(hb:b∈B):b∉A:=λz=>R.rs.dj b z (Rw _ hb)
def RW.step(R:RW ρ K F H A t σ p w B)(g:Gr A H A' H')(R':RS K (B++F) H' A' t' σ'):RW ρ K F H' A' t' σ' p w B:=⟨R',ρ.mono R.rel λb o h k=>g.kp b o (λz=>by
  rcases k with k|k
  .obtain⟨⟨u,m⟩,e⟩:=R.rs.mu b (Rw _ z);lia
  .exact R.za8 k z) h,R.nd,R.dj⟩
def RW.chg(R:RW ρ K F H A t σ p w B)(c:Ch B H H')(q:ρ.rel K H' p w' B):RW ρ K F H' A t σ p w' B:=by
 have hs:VJ (aj (A++(B++F)) H) (aj (A++(B++F)) H'):=λb o h=>by obtain⟨n,h⟩:=cN h;exact bH (c b o (λz=>n (Ru _ (Rw _ z))) h) n
 refine⟨⟨λb hb=>?_,R.rs.nd,R.rs.dj,We.mono hs R.rs.rel λb hb o h=>c b o (λz=>R.za8 z hb) h⟩,q,R.nd,R.dj⟩;by_cases z:b∈B
 .exact ρ.lists q b z
 .obtain⟨o,e⟩:=R.rs.mu b hb;exact⟨o,c b _ z e⟩
def RW.al(R:RW ρ K F H A t σ p w B)(hb:b∈B):H b≠Qn:=by obtain⟨o,e⟩:=ρ.lists R.rel b hb;rw[e];simp
def RW.zbB(R:RW ρ K F H A t σ p w B)(R':RW ρ K F H' A t σ p w' B):WM (iH B H H') (A++(B++F)):=λb hb=>by
 by_cases z:b∈B
 .rw[ze z];exact ρ.lists R'.rel b z
 .rw[mq z];exact R.rs.mu b hb
def RW.ziR(R:RW ρ K F H A t σ p w B)(R':RW ρ K F H' A t σ p w' B):RS K (B++F) (iH B H H') A t σ:=by refine⟨R.zbB R',R.rs.nd,R.rs.dj,We.mono (λb o h=>?_) R.rs.rel λb hb o h=>by rw[mq λz=>R.za8 z hb];assumption⟩;obtain⟨n,h⟩:=cN h;exact bH (by rw[mq λz=>n (Ru _ (Rw _ z))];assumption) n
def Wt.Zn(R:RW ρ K F H A t σ p w B)(h:Wt K (B++F) A H H2 r v):Wt K (B++F) A (iH B H H1) H2 r v:=by
 have fr:∀{b:ZE},H b=Qn->iH B H H1 b=Qn:=λ{b} e=>by rw[mq λz=>R.al z e];assumption
 cases r with
 |cl d=>assumption
 |tm d=>assumption
 |nw xs=>obtain⟨q,vs,rfl,h1,h2,h3⟩:=h;exact⟨q,vs,rfl,fr h1,h2,h3⟩
 |dn d=>obtain⟨C,h1,h2,h3⟩:=h;exact⟨C,h1,λb hb=>fr (h2 b hb),h3⟩
def Wt.ziS(R':RW ρ K F H1 A t σ p w' B)(h:Wt K (B++F) A (iH B H H1) H2 r v):Wt K (B++F) A H H2 r v:=by
 have fr:∀{b:ZE},iH B H _ b=Qn->H b=Qn:=λ{b} e=>by
  by_cases z:b∈B
  .rw[ze z]at e;exact absurd e (R'.al z)
  .rwa [mq z]at e
 cases r with
 |cl d=>assumption
 |tm d=>assumption
 |nw xs=>obtain⟨q,vs,rfl,h1,h2,h3⟩:=h;exact⟨q,vs,rfl,fr h1,h2,h3⟩
 |dn d=>obtain⟨C,h1,h2,h3⟩:=h;exact⟨C,h1,λb hb=>fr (h2 b hb),h3⟩
def Wt.zfr(R:RW ρ K F H A t σ p w B)(h:Wt K (B++F) A H H1 r v)(c:Ch B H1 H2):Wt K (B++F) A H H2 r v:=by
 have hs:∀P,(∀b∈B,b∈P)->VJ _ _:=λP hP b o h=>by obtain⟨n,h⟩:=cN h;exact bH (c b o (λz=>n (hP b z)) h) n
 cases r with
 |cl d=>exact Rep.mono (hs (A++(B++F)) λb hb=>Ru _ (Rw _ hb)) h
 |tm d=>exact Rep.mono (hs _ λb hb=>Rw _ hb) h
 |nw xs=>obtain⟨q,vs,rfl,h1,h2,h3⟩:=h;exact⟨q,vs,rfl,h1,c q _ (λz=>R.al z h1) h2,VQ.mono (hs _ λb hb=>Rx _ (Ru _ (Rw _ hb))) h3⟩
 |dn d=>obtain⟨C,h1,h2,h3⟩:=h;exact⟨C,h1,h2,Wn.mono (hs _ λb hb=>Ru _ (Ru _ (Rw _ hb))) h3 λb hb o e=>c b o (λz=>R.al z (h2 b hb)) e⟩
def Wt.early(R1:RW ρ K F H1 A t σ p w B)(c:Ch B H H1)(h:Wt K (B++F) A H1 H2 r v):Wt K (B++F) A H H2 r v:=by
 have fr:∀{b:ZE},H1 b=Qn->H b=Qn:=λ{b} e=>by
  cases z:H b with
  |none=>rfl
  |some o=>
   by_cases y:b∈B
   .exact absurd e (R1.al y)
   .rw[c b o y z]at e;assumption
 cases r with
 |cl d=>assumption
 |tm d=>assumption
 |nw xs=>obtain⟨q,vs,rfl,h1,h2,h3⟩:=h;exact⟨q,vs,rfl,fr h1,h2,h3⟩
 |dn d=>obtain⟨C,h1,h2,h3⟩:=h;exact⟨C,h1,λb hb=>fr (h2 b hb),h3⟩
theorem Xo.early(R1:RW ρ K F H1 A t σ p w B)(c:Ch B H H1):∀{rs:Ql Ev}{vs:Ql V},Xo K (B++F) A H1 H2 rs vs->Xo K (B++F) A H H2 rs vs
 |_,_,.nil=>.nil
 |_,_,.cons h r=>.cons (h.early R1 c) (Xo.early R1 c r)
theorem Xo.Zn(R:RW ρ K F H A t σ p w B):∀{rs:Ql Ev}{vs:Ql V},Xo K (B++F) A H H2 rs vs->Xo K (B++F) A (iH B H H1) H2 rs vs
 |_,_,.nil=>.nil
 |_,_,.cons h r=>.cons (h.Zn R) (Xo.Zn R r)
end
abbrev WE(ρ:Res):=Th->ρ.γ->Qo (Ev×ρ.γ)
abbrev WA(ρ:Res):=Th->ρ.γ->Qo (Ql Ev×ρ.γ)
abbrev WT(ρ:Res):=Th->ρ.γ->Qo (Bool×ρ.γ)
inductive wE(ρ:Res)(K:Rv)(F:List ZE)(p:ZE)(f:WE ρ)(σ:L2.St)(H:Hp)(Q:VK):Prop
 |mk (A B t w r w':_) (_:RW ρ K F H A t σ p w B) (_:f t w=Qs (r,w')) (_:∀v H',Ch B H H'->RW ρ K F H' A t σ p w' B->Wt K (B++F) A H H' r v->Q v H')
inductive wA(ρ:Res)(K:Rv)(F:List ZE)(p:ZE)(f:WA ρ)(σ:L2.St)(H:Hp)(Q:List V->Hp->Prop):Prop
 |mk (A B t w rs w':_) (_:RW ρ K F H A t σ p w B) (_:f t w=Qs (rs,w')) (_:∀vs H',Ch B H H'->RW ρ K F H' A t σ p w' B->Xo K (B++F) A H H' rs vs->Q vs H')
inductive wT(ρ:Res)(K:Rv)(F:List ZE)(p:ZE)(f:WT ρ)(σ:L2.St)(H:Hp)(Q:Bool->Hp->Prop):Prop
 |mk (A B t w b w':_) (_:RW ρ K F H A t σ p w B) (_:f t w=Qs (b,w')) (_:∀H',Ch B H H'->RW ρ K F H' A t σ p w' B->Q b H')
def cu(ρ:Res)(f:DE):WE ρ:=λt w=>(f t).map λr=>(r,w)
def kL(ρ:Res)(f:DT):WT ρ:=λt w=>(f t).map λr=>(r,w)
def dz{ρ:Res}(k:Ev->Ev->Qo Ev)(fa fb:WE ρ):WE ρ:=λt w=>(fa t w).bind λq1=>(fb t q1.2).bind λq2=>(k q1.1 q2.1).map λr=>(r,q2.2)
def Yb{ρ:Res}:WA ρ:=λ_ w=>Qs ([],w)
def cq{ρ:Res}(f:WE ρ)(g:WA ρ):WA ρ:=λt w=>(f t w).bind λq1=>(g t q1.2).bind λq2=>Qs (q1.1::q2.1,q2.2)
def nN{ρ:Res}(f:WE ρ):WT ρ:=λt w=>(f t w).bind λq=>match q.1.d with
 |.bl b=>Qs (b,q.2)
 |_=>Qn
def zfp{ρ:Res}(f:WT ρ):WT ρ:=λt w=>(f t w).map λq=>(!q.1,q.2)
def tOr{ρ:Res}(f g:WT ρ):WT ρ:=λt w=>(f t w).bind λq=>if q.1 then Qs q else g t q.2
def zfq{ρ:Res}(f g:WT ρ):WT ρ:=λt w=>(f t w).bind λq=>if q.1 then g t q.2 else Qs q
section
variable {ρ:Res}{X:Cx}{F:Ql ZE}{p:ZE}{a b c:ZG}{fa fb fc:WE ρ}{g:WA ρ}{ft fu:WT ρ}
def bX(h:∀F',PE X a (dE X.K F' f)):PE X a (wE ρ X.K F p (cu ρ f)):=by
 rintro pins s σ H Q I ⟨A,B,t,w,r,w',R,e,k⟩;unfold cu at e;rcases e1:f t with _|r1
 .rw[e1]at e;cases e
 rw[e1]at e;cases e;exact h _ _ s σ H Q I ⟨A,t,_,R.rs,e1,λv H' gs q=>k v _ (Ch.of gs) (R.grow gs) q⟩
def Dp(h:∀F',PT X a (dT X.K F' f)):PT X a (wT ρ X.K F p (kL ρ f)):=by
 rintro pins s σ H Q I ⟨A,B,t,w,r,w',R,e,k⟩;unfold kL at e;rcases e1:f t with _|r1
 .rw[e1]at e;cases e
 rw[e1]at e;cases e;exact h _ _ s σ H Q I ⟨A,t,_,R.rs,e1,λH' gs=>k _ (Ch.of gs) (R.grow gs)⟩
inductive zlY(ρ:Res)(X:Cx)(F:List ZE)(p:ZE)(fa fb:WE ρ)(k:Ev->Ev->Option Ev)(σ:L2.St)(H:Hp)(Q:VK):Prop
 |mk (A B t w r1 r2 r w':_) (_:RW ρ X.K F H A t σ p w B) (_:k r1 r2=Qs r) (_:(∀v H',Ch B H H'->RW ρ X.K F H' A t σ p w' B->Wt X.K (B++F) A H H' r v->Q v H')) (_:wE ρ X.K F p fa σ H λx H1=>wE ρ X.K F p fb σ H1 λy H2=>Ch B H H2/\RW ρ X.K F H2 A t σ p w' B/\Wt X.K (B++F) A H H2 r1 x/\Wt X.K (B++F) A H H2 r2 y)
def wH(h:wE ρ X.K F p (dz k fa fb) σ H Q):zlY ρ X F p fa fb k σ H Q:=by
 obtain⟨A,B,t,w,r,w',R,e,h⟩:=h;unfold dz at e;rcases e1:fa t w with _|q1
 .rw[e1]at e;cases e
 rw[e1]at e;have e:((fb t _).bind _)=Qs _:=e;rcases e2:fb t _ with _|q2
 .rw[e2]at e;cases e
 rw[e2]at e;have e:((k _ _).map _)=Qs _:=e;rcases e3:k _ _ with _|r0
 .rw[e3]at e;cases e
 rw[e3]at e;cases e;exact⟨A,B,t,w,q1.1,q2.1,_,_,R,e3,h,A,B,t,w,q1.1,q1.2,R,e1,λx H1 c1 R1 v1=>⟨A,B,t,q1.2,q2.1,q2.2,R1,e2,λy H2 c2 R2 v2=>⟨c1.trans c2,R2,v1.zfr R c2,v2.early R1 c1⟩⟩⟩
def Ao{Q:VK}(R:RW ρ X.K F H A t σ p w B)(R2:RW ρ X.K F H2 A t σ p w' B)(c:Ch B H H2)(gs:VJ H2 H3)(q:Wt X.K (B++F) A (iH B H H2) H3 r z) (h:∀v H',Ch B H H'->RW ρ X.K F H' A t σ p w' B->Wt X.K (B++F) A H H' r v->Q v H'):Q z H3:=h z _ (c.trans (Ch.of gs)) (R2.grow gs) (q.ziS R2)
def il(ho:∀F',Xx X F' (binaryOp op) k)(ha:PE X a (wE ρ X.K F p fa))(hb:PE X b (wE ρ X.K F p fb)):PE X (.BinOp a op b pos) (wE ρ X.K F p (dz k fa fb)):=by intro pins s σ H Q I h;obtain⟨A,B,t,w,r1,r2,r,w',R,e,h,k⟩:=wH h;refine wpAny_BinOp (si ha hb I k λv u s2 x y H2 I2 rx ry q=>?_);obtain⟨c,R2,q1,q2⟩:=q;exact ho _ _ _ σ _ _ A x y v u Q _ _ r I2 (R.zbB R2) (qi c) rx ry (q1.Zn R) (q2.Zn R) e λz H' g' q'=>Ao R R2 c g' q' h
def Dq(ho:∀F',Xx X F' (compareOp op) k)(ha:PE X a (wE ρ X.K F p fa))(hb:PE X b (wE ρ X.K F p fb))(hm:behindInMarks op b=Qf:=by first|exact yZ _|(with_unfolding_all rfl)):PT X (.Compare a [op] [b] pos) (wT ρ X.K F p (nN (dz k fa fb))):=by
 rintro pins s σ H Q I ⟨A0,B0,t0,w0,b',w0',R0,e0,h0⟩;unfold nN at e0;refine aA e0 λq0 e1 e0=>?_;have e0:(match q0.1.d with|.bl b=>Qs (b,q0.2)|_=>Qn)=Qs (b',w0'):=e0;have w1:wE ρ X.K F p (dz k fa fb) σ H (λz H'=>Ch B0 H H'/\RW ρ X.K F H' A0 t0 σ p q0.2 B0/\Rep X.K H' q0.1.d z):=⟨A0,B0,t0,w0,q0.1,q0.2,R0,e1,λv H' c R q=>⟨c,R,q.full⟩⟩;obtain⟨A,B,t,w,r1,r2,r,w',R,e,h,k⟩:=wH w1;refine wpAny_isTrue_Compare1 (si ha hb I k λv u s2 x y H2 I2 rx ry q=>?_) hm;obtain⟨c,R2,q1,q2⟩:=q;refine aF (ho (B++F) pins s2 σ (iH B H H2) H2 A x y v u (λz H'=>Ch B0 H H'/\RW ρ X.K F H' A0 t0 σ p q0.2 B0/\Rep X.K H' q0.1.d z) r1 r2 r I2 (R.zbB R2) (qi c) rx ry (q1.Zn R) (q2.Zn R) e λz H' g' q'=>Ao R R2 c g' q' h) λcc s3 ⟨z,H3,I3,r3,c3,R3,q3⟩=>?_;split at e0
 .rename_i b2 z2;cases e0;rw[z2]at q3;cases q3;cases r3;exact wpAny_truthy_bool ⟨H3,I3,h0 _ c3 R3⟩
 .cases e0
def KY(ha:PT X a (wT ρ X.K F p ft)):PW X (.BoolOp op [a] pos) (wT ρ X.K F p ft):=by
 cases op with
 |And=>exact Dj ha
 |Or=>exact Dh ha
def KW(ha:PT X a (wT ρ X.K F p ft))(hb:PW X (.BoolOp .Or (b::rest) pos) (wT ρ X.K F p fu)):PW X (.BoolOp .Or (a::b::rest) pos) (wT ρ X.K F p (tOr ft fu)):=by
 refine PW.imp (Di ha hb) ?_;rintro σ H Q ⟨A,B,t,w,r,w',R,e,h⟩;refine aA e λq e1 e=>?_;obtain⟨q1,q2⟩:=q;refine⟨A,B,t,w,q1,q2,R,e1,λH1 c1 R1=>?_⟩;cases q1 with
 |true=>cases e;exact h _ c1 R1
 |false=>exact⟨A,B,t,q2,r,w',R1,e,λH2 c2 R2=>h _ (c1.trans c2) R2⟩
def gH:PA X [] (wA ρ X.K F p Yb):=PA.imp gx λσ H Q ⟨A,B,t,w,rs,w',R,e,h⟩=>by cases e;exact h _ H Ch.refl R .nil
def cU(ha:PE X a (wE ρ X.K F p fa))(hr:PA X es (wA ρ X.K F p g))(hs:RM (a::es) X.env=(Qf,eval a X.env)::RM es X.env:=by rfl):PA X (a::es) (wA ρ X.K F p (cq fa g)):=by refine PA.imp (fG ha hr hs) ?_;rintro σ H Q ⟨A,B,t,w,rs,w',R,e,h⟩;refine aA e λq1 e1 e=>?_;refine aA e λq2 e2 e=>?_;cases e;exact⟨A,B,t,w,q1.1,q1.2,R,e1,λx H1 c1 R1 v1=>⟨A,B,t,q1.2,q2.1,q2.2,R1,e2,λxs H2 c2 R2 v2=>h _ _ (c1.trans c2) R2 (.cons (v1.zfr R c2) (v2.early R1 c1))⟩⟩
def OP(m:WM H0 (A++F))(gs:VJ H0 H2)(q1:Wt X.K F A H0 H2 r1 x)(q2:Wt X.K F A H0 H2 r2 y)(e:ao r1 r2=Qs r)(h:∀v,Wt X.K F A H0 H2 r v->Q v H2):pN X.K x y H2 Q\/tO X.K x y H2 Q:=by
 have p2:=q2.full;have m2:=m.mono gs;have key:∀(P:Ql ZE),Rep X.K (aj P H2) r1.d x->(∀d v,Rep X.K (aj P H2) d v->Wt X.K F A H0 H2 (if r1.ok||flat d then Ev.cl d else Ev.tm d) v)->pN X.K x y H2 Q\/tO X.K x y H2 Q:=λP hP fin=>by
  unfold ao at e;split at e
  .rename_i ds i z1 z2;rw[z2]at p2;cases cL p2;rw[z1]at hP;cases hP with
   |@lst _ p vs h1 h2=>
    rcases e4:W7 _ i with _|d
    .rw[e4]at e;cases e
    rw[e4]at e;have e:(if r1.ok||flat d then Ev.cl d else Ev.tm d)=r:=by simpa using e
    obtain⟨v,e5,rv⟩:=VQ.W7 h2 e4;exact .inl ⟨p,vs,i,v,rfl,rfl,V5.mono (aR _ _) h1,e5,h v (e▸fin d v rv)⟩
  .rename_i ds i z1 z2;rw[z2]at p2;cases cL p2;rw[z1]at hP;cases hP with
   |@tup _ p vs h1 h2=>
    rcases e4:W7 _ i with _|d
    .rw[e4]at e;cases e
    rw[e4]at e;have e:(if r1.ok||flat d then Ev.cl d else Ev.tm d)=r:=by simpa using e
    obtain⟨v,e5,rv⟩:=VQ.W7 h2 e4;exact .inr ⟨p,vs,i,v,rfl,rfl,WG.mono (aR _ _) h1,e5,h v (e▸fin d v rv)⟩
  .cases e
 by_cases c:r1.ok=Qt
 .refine key _ (q1.clean m gs c) λd v rv=>?_;rw[c,UB];assumption
 .refine key F (q1.Ze m) λd v rv=>?_;have c:=by simpa using c
  rw[c];split
  .rename_i f;exact Rep.W2 m2 f (Rep.mono (aR _ _) rv)
  assumption
def DW(ha:PE X a (wE ρ X.K F p fa))(hb:PE X b (wE ρ X.K F p fb))(hs:o5 b:=by intro _ _;rfl):PE X (.Subscript a b pos) (wE ρ X.K F p (dz ao fa fb)):=by refine PE.imp (pS (zck.or uS) ha hb hs) ?_;rintro σ H Q h0;obtain⟨A,B,t,w,r1,r2,r,w',R,e,h,k⟩:=wH h0;obtain⟨A1,B1,t1,w1,r11,w11,R1,e1,k1⟩:=k;refine⟨A1,B1,t1,w1,r11,w11,R1,e1,λx H1 c1 R1' q1=>?_⟩;obtain⟨A2,B2,t2,w2,r22,w22,R2,Z4,k2⟩:=k1 x _ c1 R1' q1;refine⟨A2,B2,t2,w2,r22,w22,R2,Z4,λy H2 c2 R2' q2=>?_⟩;obtain⟨c,R3,v1,v2⟩:=k2 y _ c2 R2' q2;exact OP (R.zbB R3) (qi c) (v1.Zn R) (v2.Zn R) e λv q=>Ao R R3 c (VJ.refl _) q h
end
end DL
variable{ρ:DL.Res}
namespace DL
open PySem.Spec L2
inductive OW(γ:Type) where
 |nx (t:Th) (w:γ)|rt (r:Ev) (w:γ)|bk (t:Th) (w:γ)|ct (t:Th) (w:γ)
abbrev WS(ρ:Res):=Th->ρ.γ->Qo (OW ρ.γ)
def wu(ρ:Res)(K:Rv)(F:Ql ZE)(p:ZE)(A B:Ql ZE)(H:Hp)(N:L2.St->Hp->Prop)(t:Th)(w:ρ.γ):Prop:=∀σ' H' A' B',Gr (A++B) H (A'++B') H'->RW ρ K F H' A' t σ' p w B'->N σ' H'
def Rq(ρ:Res)(K:Rv)(F:Ql ZE)(p:ZE)(A B:Ql ZE)(H:Hp)(N:VK)(r:Ev)(w:ρ.γ):Prop:=∀v H' A' B',Gr (A++B) H (A'++B') H'->ρ.rel K H' p w B'->B'.Nodup->(∀b∈B',b∉F)->YN K (B'++F) (A++B) H H' r v->N v H'
def zaW(ρ:Res)(K:Rv)(F:Ql ZE)(p:ZE)(A B:Ql ZE)(H:Hp)(E:Ends):OW ρ.γ->Prop
 |.nx t w=>wu ρ K F p A B H E.nx t w
 |.bk t w=>wu ρ K F p A B H E.bk t w
 |.ct t w=>wu ρ K F p A B H E.ct t w
 |.rt r w=>Rq ρ K F p A B H E.rt r w
inductive wS(ρ:Res)(K:Rv)(F:List ZE)(p:ZE)(g:WS ρ)(E:Ends)(σ:L2.St)(H:Hp):Prop
 |mk (A B t w o:_) (_:RW ρ K F H A t σ p w B) (_:g t w=Qs o) (_:zaW ρ K F p A B H E o)
theorem zaW.back{K:Rv}(h:zaW ρ K F p A B H E o)(g:Gr (A++B) H (A1++B1) H1):zaW ρ K F p A1 B1 H1 E o:=by
 cases o with
 |nx t w=>exact λσ' H' A' B' g' R=>h _ _ _ _ (g.trans g') R
 |bk t w=>exact λσ' H' A' B' g' R=>h _ _ _ _ (g.trans g') R
 |ct t w=>exact λσ' H' A' B' g' R=>h _ _ _ _ (g.trans g') R
 |rt r w=>exact λv H' A' B' g' q n d R=>h v _ _ _ (g.trans g') q n d (R.back g)
section
variable {F A A' B:Ql ZE}{t t':Th}{σ σ':L2.St}{p:ZE}{w w':ρ.γ}{r:Ev}{v:V}
def RW.grA(R:RW ρ K F H A t σ p w B)(g:Gr A H A' H'):Gr (A++B) H (A'++B) H' where
 kp:=λb o n h=>g.kp b o (λz=>n (Rw _ z)) h
 al:=λb hb=>by
  rcases Ry.mp hb with z|z
  .exact g.al b z
  .obtain⟨o,e⟩:=ρ.lists R.rel b z;rw[g.kp b _ (R.za8 z) e];simp
 nw:=λb hb=>by
  rcases Ry.mp hb with z|z
  .exact(g.nw b z).imp (Rw _) id
  .exact .inl (Ru _ z)
def RW.grB(c:Ch B H H')(R':RW ρ K F H' A t σ p w' B):Gr (A++B) H (A++B) H' where
 kp:=λb o n h=>c b o (λz=>n (Ru _ z)) h
 al:=λb hb=>by
  rcases Ry.mp hb with z|z
  .obtain⟨o,e⟩:=R'.rs.mu b (Rw _ z);rw[e];simp
  .exact R'.al z
 nw:=λb hb=>.inl hb
def YN.weak(h:YN K F A H H' r v)(s:∀b∈A,b∈A'):YN K F A' H H' r v:=by
 cases r with
 |cl d=>assumption
 |tm d=>assumption
 |nw xs=>obtain⟨q,vs,rfl,h1,h2,h3,h4⟩:=h;exact⟨q,vs,rfl,h1.imp (s q) id,h2,h3,h4⟩
 |dn d=>obtain⟨C,h0,h1,h2⟩:=h;exact⟨C,h0,λb hb=>⟨(h1 b hb).1.imp (s b) id,(h1 b hb).2⟩,h2⟩
theorem RW.put(R:RW ρ K F H A t σ p w B)(c:Ch B H H')(R':RW ρ K F H' A t σ p w' B)(q:Wt K (B++F) A H H' r v)(e:dR t i r=Qs t'):∃A',Gr (A++B) H (A'++B) H'/\RW ρ K F H' A' t' (σ.set i (Qs v)) p w' B:=by
 obtain⟨A',g,RR⟩:=(R.ziR R').put (qi c) (q.Zn (H1:=H') R) e;refine⟨A',⟨λb o n h=>c b o (λz=>n (Ru _ z)) h,λb hb=>?_,λb hb=>?_⟩,RR,R'.rel,R'.nd,R'.dj⟩
 .rcases Ry.mp hb with z|z
  .exact g.al b z
  .exact R'.al z
 .rcases Ry.mp hb with z|z
  .rcases g.nw b z with y|y
   .exact .inl (Rw _ y)
   .by_cases x:b∈B
    .exact .inl (Ru _ x)
    .rw[mq x]at y;exact .inr y
  .exact .inl (Ru _ z)
end
def oL{γ:Type}(w:γ):Out->OW γ
 |.nx t=>.nx t w
 |.rt r=>.rt r w
 |.bk t=>.bk t w
 |.ct t=>.ct t w
def d7(ρ:Res)(g:DS):WS ρ:=λt w=>(g t).map (oL w)
def tH{ρ:Res}:WS ρ:=λt w=>Qs (.nx t w)
def cR{ρ:Res}(g1 g2:WS ρ):WS ρ:=λt w=>(g1 t w).bind λo=>match o with
 |.nx t' w'=>g2 t' w'
 |.rt r w'=>Qs (.rt r w')
 |.bk t' w'=>Qs (.bk t' w')
 |.ct t' w'=>Qs (.ct t' w')
def kS{ρ:Res}(c:WT ρ)(g1 g2:WS ρ):WS ρ:=λt w=>(c t w).bind λq=>if q.1 then g1 t q.2 else g2 t q.2
def kQ{ρ:Res}(f:WE ρ):WS ρ:=λt w=>(f t w).map λq=>.rt q.1 q.2
def fM{ρ:Res}(i:Nat)(f:WE ρ):WS ρ:=λt w=>(f t w).bind λq=>(dR t i q.1).map λt'=>.nx t' q.2
noncomputable def gz{ρ:Res}(k:D->Th->Qo Th)(body:WS ρ):Ql D->Th->ρ.γ->Qo (OW ρ.γ)
 |[],t,w=>Qs (.nx t w)
 |d::ds,t,w=>(k d t).bind λt1=>(body t1 w).bind λo=>match o with
  |.nx t' w'=>gz k body ds t' w'
  |.ct t' w'=>gz k body ds t' w'
  |.bk t' w'=>Qs (.nx t' w')
  |.rt r w'=>Qs (.rt r w')
section
variable {X:Cx}{F:Ql ZE}{p:ZE}{a b c:ZG}{fa fb fc:WE ρ}{g g1 g2:WS ρ}{ft fu:WT ρ}{st:ZH}{sts:Ql ZH}{tg:ZG}
def gw(h:∀F',PS X st (dS X.K F' f)):PS X st (wS ρ X.K F p (d7 ρ f)):=by
 rintro pins s σ H E I ⟨A,B,t,w,o,R,e,k⟩;unfold d7 at e;rcases e1:f t with _|o1
 .rw[e1]at e;cases e
 rw[e1]at e;have e:=by simpa using e
 subst e;refine h _ _ s σ H E I (lF R.rs e1 ?_);cases o1 with
 |nx t'=>exact λσ' H' A' g' R'=>k _ _ _ B (R.grA g') (R.step g' R')
 |bk t'=>exact λσ' H' A' g' R'=>k _ _ _ B (R.grA g') (R.step g' R')
 |ct t'=>exact λσ' H' A' g' R'=>k _ _ _ B (R.grA g') (R.step g' R')
 |rt r=>
  refine λv H' A' g' q=>k v _ _ B (R.grA g') (ρ.mono R.rel λb o h y=>g'.kp b o (λz=>?_) h) R.nd R.dj (q.weak λb hb=>Rw _ hb);rcases y with y|y
  .obtain⟨⟨u,m⟩,e⟩:=R.rs.mu b (Rw _ z);lia
  .exact R.za8 y z
def yo:WH X [] (wS ρ X.K F p tH):=by
 refine WH.imp Dw ?_;rintro E σ H ⟨A,B,t,w,o,R,e,h⟩;cases e;refine h σ H A B (Gr.refl λb hb=>?_) R;rcases Ry.mp hb with z|z
 .exact R.rs.mu b (Rw _ z)
 .exact ρ.lists R.rel b z
def dt(h1:PS X st (wS ρ X.K F p g1))(h2:WH X sts (wS ρ X.K F p g2)):WH X (st::sts) (wS ρ X.K F p (cR g1 g2)):=by
 refine WH.imp (yt h1 h2) ?_;rintro E σ H ⟨A,B,t,w,o,R,e,h⟩;refine aA e λo1 e1 e=>?_;refine⟨A,B,t,w,o1,R,e1,?_⟩;cases o1 with
 |nx t' w'=>exact λσ' H' A' B' g' R'=>⟨A',B',t',w',o,R',e,h.back g'⟩
 |rt r w'=>cases e;assumption
 |bk t2 w'=>cases e;assumption
 |ct t2 w'=>cases e;assumption
def iD(h1:PS X st (wS ρ X.K F p g1)):WH X [st] (wS ρ X.K F p g1):=tT h1
def yq(hc:PT X c (wT ρ X.K F p ft))(ha:WH X s1 (wS ρ X.K F p g1))(hb:WH X s2 (wS ρ X.K F p g2)):PS X (.If c s1 s2 pos) (wS ρ X.K F p (kS ft g1 g2)):=by
 refine PS.imp (DB hc ha hb) ?_;rintro E σ H ⟨A,B,t,w,o,R,e,h⟩;refine aA e λq e1 e=>?_;obtain⟨r1,w1⟩:=q;refine⟨A,B,t,w,r1,w1,R,e1,λH1 c1 R1=>?_⟩;cases r1 with
 |true=>exact⟨A,B,t,w1,o,R1,e,h.back (RW.grB c1 R1)⟩
 |false=>exact⟨A,B,t,w1,o,R1,e,h.back (RW.grB c1 R1)⟩
def tS(ha:PE X a (wE ρ X.K F p fa)):PS X (.Return (Qs a) pos) (wS ρ X.K F p (kQ fa)):=by
 refine PS.imp (tW ha) ?_;rintro E σ H ⟨A,B,t,w,o,R,e,h⟩;unfold kQ at e;rcases e1:fa t w with _|q
 .rw[e1]at e;cases e
 rw[e1]at e;cases e;exact⟨A,B,t,w,q.1,q.2,R,e1,λv H' c R' y=>h v _ A B (RW.grB c R') R'.rel R'.nd R'.dj ((YN.of R.rs.mu y).weak λb hb=>Rw _ hb)⟩
def Ld(hN:X.N.Nodup)(hi:X.N[i]?=Qs x)(hx:Loc X.env.scope x)(he:PE X a (wE ρ X.K F p fa))(hs:swapsWith a (Qs (.Name x pos')) pos.line X.env=pure Qf:=by rfl)(hf:autoParam (X.fn x=Qt\/X.env.scope.names.lookup x=Qs .local) qzB._auto_1):PS X (.Assign [.Name x pos'] a pos) (wS ρ X.K F p (fM i fa)):=by
 refine PS.imp (yz hN hi hx he hs hf) ?_;rintro E σ H ⟨A,B,t,w,o,R,e,h⟩;refine aA e λq e1 e=>?_;rcases e2:dR t i _ with _|t'
 .rw[e2]at e;cases e
 rw[e2]at e;cases e;refine⟨A,B,t,w,q.1,q.2,R,e1,λv H' c R' y=>?_⟩;obtain⟨A',g',RR⟩:=R.put c R' y e2;exact h _ _ _ _ g' RR
def PX (S:Src K ds J Good)(ht:∀F',cV K F' gt kt)(R:RW ρ K F H A t σ p w B)(e:gz kt g ds t w=Qs o)(h:zaW ρ K F p A B H E o)(g0:Good (A++(B++F)) H):∃W:Nat->Nat->L2.St->Hp->Prop,(∃m,W 0 m σ H)/\∀i m σ H,W i m σ H-> (J.stop i H/\E.nx σ H)\/(J.go i H/\∃N:L2.St->Hp->Prop,(∀σ' H',N σ' H'->∃m',m'<m/\W (i+1) m' σ' H')/\∀x H',J.XH i H x H'->gt x σ H' λσ2 H2=>wS ρ K F p g {E with nx:=N,ct:=N,bk:=E.nx} σ2 H2):=by
 have same:∀{A B A' B':Ql ZE}{H H':Hp},Gr (A++B) H (A'++B') H'->VJ (aj (A++(B++F)) H) (aj (A'++(B'++F)) H'):=λ{A B A' B' H H'} g=>by
  have:=g.same (F:=F)
  rwa [SI,SI]at this
 refine⟨λi m σ H=>i+m=ds.length/\∃A B t w o,gz kt g (ds.drop i) t w=Qs o/\RW ρ K F H A t σ p w B/\zaW ρ K F p A B H E o/\Good (A++(B++F)) H,⟨ds.length,by lia,A,B,t,w,o,by simpa using e,R,h,g0⟩,?_⟩;rintro i m σ H ⟨hm,A,B,t,w,o,e,R,h,gd⟩;cases m with
 |zero=>
  have z:i=ds.length:=by lia
  subst z;rw[Tr]at e;cases e;refine .inl ⟨S.stop _ _ gd,h σ H A B (Gr.refl λb hb=>?_) R⟩;rcases Ry.mp hb with z|z
  .exact R.rs.mu b (Rw _ z)
  .exact ρ.lists R.rel b z
 |succ m=>
  have hi:i<ds.length:=by lia
  refine .inr ⟨S.go _ _ i gd hi,λσ' H'=>i+1+m=ds.length/\∃A B t w o,gz kt g (ds.drop (i+1)) t w=Qs o/\RW ρ K F H' A t σ' p w B/\zaW ρ K F p A B H' E o/\Good (A++(B++F)) H',λσ' H' q=>⟨m,SO m,q⟩,λx H' y=>?_⟩;obtain⟨gs,d,hd,rd⟩:=S.XH _ _ i x H' gd R.rs.mu y hi;have ed:ds.drop i=d::ds.drop (i+1):=by
   have YA:ds[i]=d:=by rw[RH hi]at hd;exact SX hd
   rw[<-YA];exact SM hi
  rw[ed]at e;simp only[gz]at e;refine aA e λt1 e1 e=>?_;have R0:=R.grow gs;refine ht (B++F) σ H' A t t1 d x _ R0.rs rd e1 λσ2 A2 ZP R2=>?_;have RW2:=R0.step ZP R2;have X3:Gr (A++B) H (A2++B) H':=(RW.grB (Ch.of gs) R0).trans (R0.grA ZP);have e:((g t1 w).bind λo=>match o with
    |.nx t' w'=>gz kt g (ds.drop (i+1)) t' w'
    |.ct t' w'=>gz kt g (ds.drop (i+1)) t' w'
    |.bk t' w'=>Qs (.nx t' w')
    |.rt r w'=>Qs (.rt r w'))=Qs o:=e
  refine aA e λo2 e2 e=>?_;refine⟨A2,B,t1,w,o2,RW2,e2,?_⟩;cases o2 with
  |nx t' w'=>exact λσ' H' A' B' g' R'=>⟨by lia,A',B',t',w',o,e,R',h.back (X3.trans g'),S.keep _ _ _ _ gd (same (X3.trans g'))⟩
  |ct t' w'=>exact λσ' H' A' B' g' R'=>⟨by lia,A',B',t',w',o,e,R',h.back (X3.trans g'),S.keep _ _ _ _ gd (same (X3.trans g'))⟩
  |bk t' w'=>cases e;exact λσ' H' A' B' g' R'=>h σ' H' A' B' (X3.trans g') R'
  |rt r w'=>cases e;exact zaW.back (o:=.rt r w') h X3
end
def tj(N:Ql Str)(p:ZE)(ds:Ql D):Th:=.val (.adr p)::(ds.map Sl.val++RT (N.length-1-ds.length) Sl.no)
def D2{γ:Type}:OW γ->Qo (Ev×γ)
 |.rt r w=>Qs (r,w)
 |.nx _ w=>Qs (.cl .Wj,w)
 |_=>Qn
def nU{ρ:Res}(N:Ql Str)(g:ZE->WS ρ)(p:ZE)(w:ρ.γ)(ds:Ql D):Qo (Ev×ρ.γ):=(g p (tj N p ds) w).bind D2
open Classical in
noncomputable def iG{ρ:Res}(k:Nat)(N:Ql Str)(g:ZE->WS ρ):ρ.γ->Ql D->Qo (Ev×ρ.γ):=λw ds=>
 if ds.length+1=k then(if h:∃o,∀p,nU N g p w ds=Qs o then Qs h.choose else Qn) else Qn
def NR{g:ZE->WS ρ}(hl:ds.length+1=k)(h:∀p,nU N g p w ds=Qs o):iG k N g w ds=Qs o:=by unfold iG;have hx:∃o,∀p,nU N g p w _=Qs o:=⟨o,h⟩;rw[V4 hl,dif_pos hx];have:=hx.choose_spec 0;rw[h 0]at this;exact this.symm
def EE{g:ZE->WS ρ}(h:iG k N g w ds=Qs o):ds.length+1=k/\∀p,nU N g p w ds=Qs o:=by
 unfold iG at h;split at h
 case isFalse=>cases h
 rename_i hl;split at h
 case isFalse=>cases h
 rename_i hx;cases h;exact⟨hl,hx.choose_spec⟩
inductive spX(ρ:Res)(K:Rv)(G:ρ.γ->List D->Option (Ev×ρ.γ))(vs:List V)(H:Hp)(Q:VK)(x_:XK):Prop
 |mk (Fo:List ZE) (p:ZE) (B:List ZE) (w:ρ.γ) (ds:List D) (r:Ev) (w':ρ.γ) (XO:List V) (_:vs=.ref p::XO) (_:WM H (B++Fo)) (_:B.Nodup) (_:(∀b∈B,b∉Fo)) (_:ρ.rel K H p w B) (_:VQ K (aj (B++Fo) H) ds XO) (_:G w ds=Qs (r,w')) (_:∀v H',Ch B H H'->ρ.rel K H' p w' B->Wt K (B++Fo) [] H H' r v->Q v H')
def Iq(ρ:Res):Prop:=∀{K:Rv}{H H':Hp}{p:ZE}{w w':ρ.γ}{B B':Ql ZE},ρ.rel K H p w B->ρ.rel K H' p w' B'->B'=B
def Px(fx:Iq ρ){st:ZH}(Fn:L2.Wy K x qual st f fd)(S:WJ N ps (aN st))(hm:ps.length=m)(g:ZE->WS ρ) (ZM:∀(Wu:R8) (A:Ua) (outer:Ql Env) (s:R7) (H:Hp) (E:XK) (F:Ql ZE) (p:ZE),Xa k (A.deeper (envOfC qual (aN st) s.heap.objs.size f Wu))->WH (iT dk P w K mg base N qual (aN st) f Wu A outer s H E).ZI (eE st) (wS ρ K F p (g p))):XC P w K mg base dk (k+1) f fd ps (spX ρ K (iG m N g)):=by
 refine Fn.ok S (λvs H Q E h=>?_) (λWu A outer s H vs Q E hr h=>?_)
 .obtain⟨Fo,p,B,w,ds,r,w',XO,rfl,_,_,_,_,h2,hg,_⟩:=h;have:=(EE hg).1;rw[Su,h2.length,hm];assumption
 .obtain⟨Fo,p,B,w,ds,r,w',XO,rfl,hl,nd,dj,rel,h2,hg,cont⟩:=h;have zal:=(EE hg).2 p;unfold nU at zal;refine aA zal λo ho zal=>?_;have zal:D2 o=Qs (r,w'):=zal;refine⟨_,ZM Wu A outer s H E Fo p hr,[],B,tj N p ds,w,o,⟨⟨hl,Sv,λq hq=>(by cases hq),?_⟩,rel,nd,dj⟩,ho,?_⟩
  .unfold tj L2.start;simp only[RK,TC,Su,h2.length];refine .val (.adr p) ?_;have:=We.start (H:=H) (We.zc9 (N.length-(ds.length+1))) h2
   grind
  .have ch:∀{A' B' H'},Gr _ H (A'++B') H'->Ch B H _:=λg b o n q=>g.kp b o n q;cases o with
   |nx t' w1=>cases zal;exact λσ' H' A' B' g' R'=>cont _ _ (ch g') (fx rel R'.rel▸R'.rel) .Wj
   |bk t' w1=>cases zal
   |ct t' w1=>cases zal
   |rt r' w1=>
    cases zal;intro v H' A' B' g' q n d y;have eB:=fx rel q;subst eB;refine cont v _ (ch g') q ?_;have fr:∀{b:ZE},(b∈[]++B'\/H b=Qn)->b∉B'++Fo->H b=Qn:=λh n=>by
     simp_all
    cases r with
    |cl d=>assumption
    |tm d=>assumption
    |nw xs=>obtain⟨q,XO,rfl,h1,h2,h3,h4⟩:=y;exact⟨q,XO,rfl,fr h1 h2,h3,h4⟩
    |dn d=>obtain⟨C,h1,h2,h3⟩:=y;exact⟨C,h1,λb hb=>fr (h2 b hb).1 (h2 b hb).2,h3⟩
structure zaa(ρ:Res)(P:Te)(w:UX)(K:Rv)(mg:Str->Option R8)(base:Yp)(x:Str)(k:Nat)(G:ρ.γ->List D->Option (Ev×ρ.γ)):Prop where
 ex:∃(a:ZE) (fd:Ud) (ps:List Str),mg x=Qs (.ref a)/\S0 K (.ref a)=Qt/\L2.Binds K fd ps []/\XC P w K mg base dk k a fd ps (spX ρ K G)
def Df.zaV{st:ZH}(d:Df K mg x st ps a fd)(h:XC P w K mg base dk k a fd ps (spX ρ K G)):zaa ρ P w K mg base x k G:=⟨a,fd,ps,d.mgx,d.fn.kp,d.bd,h⟩
def eX{ρ:Res}(p:ZE)(G:ρ.γ->Ql D->Qo (Ev×ρ.γ))(ga:WA ρ):WE ρ:=λt w=>(ga t w).bind λq=>match q.1 with
 |.cl (.adr q0)::rs=>if q0=p then(G q.2 (rs.map Ev.d)).map λz=>(jU (rs.all Ev.ok) z.1,z.2) else Qn
 |_=>Qn
def IM{ok:Bool}(m1:WM H1 (A++(B++F)))(m':WM H' (A++(B++F)))(fr:∀b,H1 b=Qn->H b=Qn)(w:Wt K (B++(if ok then A++F else F)) [] H1 H' r v):Wt K (B++F) A H H' (jU ok r) v:=by
 cases ok with
 |true=>
  have le:∀P,VJ (aj (P++([]++(B++(A++F)))) _) (aj (P++(A++(B++F))) H'):=λP=>bE _ λb hb=>by
   grind
  cases r with
  |cl d=>exact Rep.mono (le _) w
  |tm d=>
   refine Rep.mono (bE _ λb hb=>?_) w
   grind
  |nw xs=>obtain⟨q,us,rfl,h1,h2,h3⟩:=w;exact⟨q,us,rfl,fr _ h1,h2,VQ.mono (le [q]) h3⟩
  |dn d=>obtain⟨C,h1,h2,h3⟩:=w;exact⟨C,h1,λb hb=>fr _ (h2 b hb),Wn.mono (le C) h3 λ_ _ _ q=>q⟩
 |false=>
  cases r with
  |cl d=>
   show Wt K _ A H _ (if flat d then .cl d else .tm d) v;split
   .rename_i f;exact Rep.W2 m' f (Rep.mono (aR _ _) w)
   assumption
  |tm d=>
   show Wt K _ A H _ (if flat d then .cl d else .tm d) v;split
   .rename_i f;exact Rep.W2 m' f (Rep.mono (aR _ _) w)
   assumption
  |nw xs=>
   obtain⟨q,us,rfl,h1,h2,h3⟩:=w;have np:=eP m1 h1;show Wt K _ A H _ (if Wv _ then .nw _ else .tm _) _;split
   .rename_i f;refine⟨q,us,rfl,fr _ h1,h2,VQ.W2 (λb hb=>?_) f (VQ.mono (aR _ _) h3)⟩;rcases RB.mp hb with rfl|hb
    .exact⟨mL _,h2⟩
    .exact m' b hb
   .exact .lst (V5.of (bH h2 λz=>np (Ru _ z))) (VQ.mono (bE _ λb z=>Rx _ z) h3)
  |dn d=>obtain⟨C,h1,h2,h3⟩:=w;exact⟨C,h1,λb hb=>fr _ (h2 b hb),h3.W2 (h3.lists.app m') (aR _ _)⟩
section
variable {X:Cx}{F:Ql ZE}{p:ZE}{a b c:ZG}{fa fb fc:WE ρ}{ga:WA ρ}{st:ZH}{sts:Ql ZH}
def gG{q:Pos}(c:zaa ρ X.prog X.w X.K X.mg X.base x k G)(hr:Xa k X.A)(ha:PA X (a::es) (wA ρ X.K F p ga))(hg:Gl X x:=by rfl)(Yv:Xg x:=by decide) (he:RM (a::es) X.env=(Qf,eval a X.env)::RM es X.env:=by rfl) (XX:(TV pos (RM es X.env)).any (·.1)=Qf:=by rfl):PE X (.Call (.Name x q) (a::es) [] pos) (wE ρ X.K F p (eX p G ga)):=by
 obtain⟨f,fd,ps,h1,h2,h3,h4⟩:=c.ex;refine PE.imp (D0 h4 hr hg h1 h2 h3 .nil mi ha Yv he XX) ?_;rintro σ H Q ⟨A,B,t,w,r,w',R,e,h⟩;unfold eX at e;rcases e1:ga t w with _|q1
 .rw[e1]at e;cases e
 rw[e1]at e;obtain⟨rs0,w1⟩:=q1;refine⟨A,B,t,w,rs0,w1,R,e1,λvs H1 c R1 y=>?_⟩;rw[SE];simp at e;split at e
 case h_2=>cases e
 rename_i q0 rs;replace e:=Xz e;obtain⟨eq0,e⟩:=e;subst eq0;cases y with
 |@cons _ v0 _ XO y1 y2=>
  cases y1;rcases e2:G _ _ with _|z
  .rw[e2]at e;cases e
  rw[e2]at e;obtain⟨r0,w0⟩:=z;have e:Qs (jU _ _,w0)=Qs _:=e;cases e;have fr:∀b,H1 b=Qn->H b=Qn:=λb e=>by
   cases z:H b with
   |none=>rfl
   |some o=>
    by_cases y:b∈B
    .exact absurd e (R1.al y)
    .rw[c b o y z]at e;assumption
  refine⟨if rs.all Ev.ok then A++F else F,q0,B,w1,_,r0,w',XO,rfl,λb hb=>?_,R1.nd,λb hb z=>?_,R1.rel,?_,e2,λv H' c' zfH w2=>?_⟩
  .refine R1.rs.mu b ?_;split at hb<;>simp at hb ⊢
   .lia
   .lia
  .split at z
   .rcases Ry.mp z with z|z
    .exact R1.za8 hb z
    .exact R1.dj b hb z
   .exact R1.dj b hb z
  .by_cases ok:rs.all Ev.ok=Qt
   .rw[V4 ok];refine VQ.mono (bE _ λb hb=>?_) ((y2.Zn R).clean (R.zbB R1) (qi c) ok)
    grind
   .rw[Wh ok];exact(y2.Zn R).Ze (R.zbB R1)
  .have R2:=R1.chg c' zfH;exact h v _ (c.trans c') R2 (IM R1.rs.mu R2.rs.mu fr w2)
end
noncomputable def au:Res where
 γ:=Int×Int
 rel:=λK H p w B=>B=[p]/\H p=Qs (.lst [.int w.1,.int w.2])
 mono:=λ{K H H' p w B} ⟨e,h⟩ k=>⟨e,k p _ h (.inr (by rw[e];exact RG.mpr rfl))⟩
 lists:=λ{K H p w B} ⟨e,h⟩ b hb=>by subst e;rw[RG.mp hb];exact⟨mL _,h⟩
def LK:Iq au:=λ{K H H' p w w' B B'} h h'=>h'.1.trans h.1.symm
def iN(p:ZE)(i:Nat)(k:Int):WE au:=λt w=>match t[i]? with
 |some (.val (.adr q))=>if q=p then(if k=0 then Qs (.cl (.int w.1),w) else if k=1 then Qs (.cl (.int w.2),w) else Qn) else Qn
 |_=>Qn
def kR(p:ZE)(i:Nat)(k:Int)(f:WE au):WS au:=λt w=>(f t w).bind λq=>match t[i]?,q.1.d with
 |some (.val (.adr q0)),.int n=>if q0=p then(if k=0 then Qs (.nx t (n,q.2.2)) else if k=1 then Qs (.nx t (q.2.1,n)) else Qn) else Qn
 |_,_=>Qn
section
variable {X:Cx}{F:Ql ZE}{p:ZE}{a b c:ZG}{fa fb fc:WE au}{ga:WA au}{st:ZH}{sts:Ql ZH}
def oe(i:Nat){k:Int}{j:Nat}{p1 p2:Pos}(hN:X.N[i]?=Qs x:=by rfl)(hv:autoParam (dD X.env.scope x) qzA._auto_1)(hd:Xg x:=by decide) (W3:X4 x:=by decide) (hs:o5 (.Constant (.int k) j p2):=by intro _ _;rfl):PE X (.Subscript (.Name x p1) (.Constant (.int k) j p2) pos) (wE au X.K F p (iN p i k)):=by
 refine PE.imp (pS (zck.or uS) (dU (i:=i) hN hv hd W3) yR hs) ?_;rintro σ H Q ⟨A,B,t,w,r,w',R,e,h⟩;unfold iN at e;split at e
 case h_2=>cases e
 rename_i q z;replace e:=Xz e;obtain⟨eq0,e⟩:=e;subst eq0;obtain⟨v,h1,h2⟩:=R.rs.rel.zaR z;cases h2;have hp:=R.rel.2;refine⟨_,h1,.inl ?_⟩;by_cases k0:k=0
 .subst k0;cases e;exact⟨q,_,0,_,rfl,rfl,V5.of hp,rfl,h _ H Ch.refl R (.int _)⟩
 .rw[Wh k0]at e;by_cases k1:k=1
  .subst k1;cases e;exact⟨q,_,1,_,rfl,rfl,V5.of hp,rfl,h _ H Ch.refl R (.int _)⟩
  .lia
def Du(i:Nat){k:Int}{j:Nat}{p0 p2:Pos}(he:PE X a (wE au X.K F p fa))(hN:X.N[i]?=Qs x:=by rfl)(hv:autoParam (dD X.env.scope x) qzA._auto_1)(hd:Xg x:=by decide) (W3:X4 x:=by decide) (ha:∀v,assign (.Subscript (.Name x p0) (.Constant (.int k) j p2) X9) X.env v=(do
   let ov<-holding [v] (eval (.Name x p0) X.env)
   let iv<-holding [v,ov] (eval (.Constant (.int k) j p2) X.env)
   standAt X9
   holding [v,ov,iv] (setItem ov iv v)
   release [v,ov,iv] []):=by intro _;rfl) (hs:swapsWithSole [.Subscript (.Name x p0) (.Constant (.int k) j p2) X9] a pos.line X.env=pure Qf:=by rfl) (hw:swappedStores [.Subscript (.Name x p0) (.Constant (.int k) j p2) X9] a X.env=pure Qn:=by rfl) (h1:(assignEach [.Subscript (.Name x p0) (.Constant (.int k) j p2) X9] X.env).map (·.2)=[assign (.Subscript (.Name x p0) (.Constant (.int k) j p2) X9) X.env]:=by rfl):PS X (.Assign [.Subscript (.Name x p0) (.Constant (.int k) j p2) X9] a pos) (wS au X.K F p (kR p i k fa)):=by
 refine PS.imp (tX he (yL (dU hN hv hd W3) yR pL ha) hs hw h1) ?_;rintro E σ H ⟨A,B,t,w,o,R,e,h⟩;unfold kR at e;rcases e1:fa t w with _|q1
 .rw[e1]at e;cases e
 rw[e1]at e;obtain⟨r1,w1⟩:=q1;simp at e;split at e
 case h_2=>cases e
 rename_i q0 n z1 z2;replace e:=Xz e;obtain⟨eq0,e⟩:=e;subst eq0;refine⟨A,B,t,w,r1,w1,R,e1,λv H1 c R1 y=>?_⟩;obtain⟨u,s1,s2⟩:=R1.rs.rel.zaR z1;cases s2;have y:=y.full;rw[z2]at y;cases cL y;have hp:=R1.rel.2;have eB:=R1.rel.1;have fin:∀w2,Ch B _ _/\RW au _ F _ A t σ _ w2 B:=λw2=>by
  have cc:Ch B _ (upd H1 q0 (.lst [.int w2.1,.int w2.2])):=λb o nb hb=>by rw[aY (λz=>nb (by simp_all))];assumption
  exact⟨cc,R1.chg cc ⟨eB,bK⟩⟩
 refine⟨_,s1,?_⟩;by_cases k0:k=0
 .subst k0;cases e;obtain⟨cc,RR⟩:=fin (n,w1.2);exact⟨q0,_,0,0,rfl,rfl,hp,rfl,h _ _ _ _ ((RW.grB c R1).trans (RW.grB cc RR)) RR⟩
 .rw[Wh k0]at e;by_cases k1:k=1
  .subst k1;cases e;obtain⟨cc,RR⟩:=fin (w1.1,n);exact⟨q0,_,1,1,rfl,rfl,hp,rfl,h _ _ _ _ ((RW.grB c R1).trans (RW.grB cc RR)) RR⟩
  .lia
end
abbrev WI(ρ:Res):=Th->ρ.γ->Qo ((Bool×Ql D)×ρ.γ)
inductive wI(ρ:Res)(K:Rv)(F:List ZE)(p:ZE)(fs:WI ρ)(σ:L2.St)(H:Hp)(R:It->Hp->Prop):Prop
 |mk (A B t w b ds w':_) (_:RW ρ K F H A t σ p w B) (_:fs t w=Qs ((b,ds),w')) (_:∀J H1 Good,Ch B H H1->RW ρ K F H1 A t σ p w' B->Src K ds J Good->Good (Xn b A (B++F)) H1->R J H1)
def mJ(ρ:Res)(fs:DI):WI ρ:=λt w=>(fs t).map λq=>(q,w)
def uV{ρ:Res}(f:WE ρ):WI ρ:=λt w=>(f t w).bind λq=>match q.1.d with
 |.int n=>if eI n then Qs ((Qt,fN 0 n.toNat),q.2) else Qn
 |_=>Qn
noncomputable def gB{ρ:Res}(k:D->Th->Qo Th)(ft:WT ρ)(fe:WE ρ):Ql D->Th->ρ.γ->Qo (Ql D×ρ.γ)
 |[],_,w=>Qs ([],w)
 |d::ds,t,w=>(k d t).bind λt1=>(ft t1 w).bind λq=>if q.1 then(fe t1 q.2).bind λz=>(gB k ft fe ds t1 z.2).map λys=>(z.1.d::ys.1,ys.2) else gB k ft fe ds t1 q.2
def rO{ρ:Res}(n:Nat)(cap:Ql Nat)(fs:WI ρ)(k:D->Th->Qo Th)(ft:WT ρ)(fe:WE ρ):WE ρ:=λt w=>(fs t w).bind λq=>(gC t cap).bind λc=>if q.1.2.length<=50000 then(gB k ft fe q.1.2 (RT n Sl.no++c.2.map Sl.val) q.2).bind λys=>if(q.1.1&&c.1)||Wv ys.1 then Qs (.nw ys.1,ys.2) else Qn else Qn
theorem AJ{fe:WE ρ}:∀{ds:Ql D}{t:Th}{w:ρ.γ}{ys:Ql D×ρ.γ},gB k ft fe ds t w=Qs ys->ys.1.length<=ds.length
 |[],t,w,ys,e=>by cases e;simp
 |d::ds,t,w,ys,e=>by
  unfold gB at e;refine aA e λt1 e1 e=>?_;have e:((ft t1 w).bind λq=>if q.1 then(fe t1 q.2).bind λz=>(gB k ft fe ds t1 z.2).map λys=>(z.1.d::ys.1,ys.2) else gB k ft fe ds t1 q.2)=Qs ys:=e;refine aA e λq e2 e=>?_;obtain⟨b,w1⟩:=q;cases b with
  |false=>have:=AJ (ds:=ds) (t:=t1) e;simp;lia
  |true=>
   have e:((fe t1 w1).bind λz=>(gB k ft fe ds t1 z.2).map λys=>(z.1.d::ys.1,ys.2))=Qs ys:=e;refine aA e λz e3 e=>?_;have e:((gB k ft fe ds t1 z.2).map λys=>(z.1.d::ys.1,ys.2))=Qs ys:=e;cases e4:gB k ft fe ds t1 z.2 with
   |none=>rw[e4]at e;cases e
   |some us=>rw[e4]at e;cases e;have:=AJ e4;simp;lia
theorem RW.zbX{K:Rv}(R:RW ρ K P H [] t σ p w B)(hd:d∈P)(e:H d=Qs (.lst vs)):RW ρ K P (upd H d (.lst ws)) [] t σ p w B:=⟨RS.zbX R.rs (Ru _ hd),ρ.mono R.rel λb o h k=>by
  rw[aY]
  .assumption
  .intro z;subst z;rcases k with k|k
   .rw[e]at h;cases h;cases k
   .exact R.dj _ k hd,R.nd,R.dj⟩
def AR(c:Ch B Ha Hb):VJ (aj (B++P) Ha) (aj (B++P) Hb):=λx o z=>by obtain⟨nx,z⟩:=cN z;exact bH (c x o (λy=>nx (Rw _ y)) z) nx
def Qy(hn:H1 d=Qn)(sm:Ch B H1 H)(s:Ch B H H'):Ch B H1 (upd H' d o):=λb u nx z=>by rw[aY (λw=>by lia)];exact s _ _ nx (sm _ _ nx z)
def zV(hd:d=Qt->b=Qt):∀x∈B++Xn d A F,x∈Xn b A (B++F):=λx hx=>by
 rcases Ry.mp hx with y|y
 .exact uY x (Rw _ y)
 .cases d with
  |false=>exact uY x (Ru _ y)
  |true=>rw[hd rfl];exact(Ry.mp y).elim (λz=>Rw _ z) λz=>Ru _ (Ru _ z)
inductive CW(ρ:Res)(K:Rv)(kt:D->Th->Option Th)(ft:WT ρ)(fe:WE ρ)(ds xs:List D)(wf:ρ.γ)(H1:Hp)(P B:List ZE)(p d:ZE)(Good:List ZE->Hp->Prop)(i m:Nat)(σ:L2.St)(H:Hp):Prop
 |mk (th:Th) (wn:ρ.γ) (acc rest:List D) (vs:List V) (hm:i+m=ds.length) (R:RW ρ K P H [] th σ p wn B) (ec:gB kt ft fe (ds.drop i) th wn=Qs (rest,wf)) (ex:acc++rest=xs) (hv:H d=Qs (.lst vs)) (hr:VQ K (aj (B++P) H) acc vs) (sm:Ch B H1 H) (gg:Good (B++P) H)
theorem CW.step{K:Rv}{Good:Ql ZE->Hp->Prop}(src:Src K ds J Good)(hk:cV K (B++P) g kt)(hp:d∈P)(nB:d∉B)(hn:H1 d=Qn)(hx:xs.length<=50000) (c:CW ρ K kt ft fe ds xs wf H1 P B p d Good i (m+1) σ H):J.go i H/\∃N:L2.St->Hp->Prop,(∀σ2 H2,N σ2 H2->∃m',m'<m+1/\CW ρ K kt ft fe ds xs wf H1 P B p d Good (i+1) m' σ2 H2)/\∀x H2,J.XH i H x H2->g x σ H2 λσ2 H3=>∃F',wT ρ K F' p ft σ2 H3 λb H4=>
   if b=Qt then ∃F',wE ρ K F' p fe σ2 H4 λv H5=>∃vs,H5 d=Qs (.lst vs)/\vs.length<Sf/\N σ2 (upd H5 d (.lst (vs++[v]))) else N σ2 H4:=by
 obtain⟨th,wn,acc,rest,vs,hm,R,ec,ex,hv,hr,sm,gg⟩:=c;have Yz:i<ds.length:=by lia
 have hm':i+1+m=ds.length:=by lia
 refine⟨src.go _ _ i gg Yz,_,λ_ _ q=>⟨m,SO m,q⟩,λx H2 y=>?_⟩;obtain⟨Wz,d',hd,rd⟩:=src.XH _ _ i x _ gg R.rs.mu y Yz;rw[Ax Yz hd]at ec;refine aA ec λt1 k1 ec=>?_;refine aA ec λq k2 ec=>?_;obtain⟨bb,w2⟩:=q;have R0:=R.grow Wz;refine hk σ _ _ _ _ _ x _ R0.rs rd k1 λσ2 A2 X3 R2=>?_;have A20:=um R2 X3;subst A20;refine⟨P,[],B,t1,wn,bb,w2,R0.step X3 R2,k2,λH3 c3 R3=>?_⟩;have c23:=(Ch.of Wz).trans c3;cases bb with
 |false=>exact mF ⟨t1,w2,acc,rest,vs,hm',R3,ec,ex,c23 _ _ nB hv,VQ.mono (AR c23) hr,sm.trans c23,src.keep _ _ _ _ gg (AR c23)⟩
 |true=>refine aA (ec) λz k3 ec=>?_;obtain⟨re,w3⟩:=z;refine uy ec λys k4 ec=>?_;obtain⟨ys,w4⟩:=ys;cases ec;refine mE ⟨P,[],B,t1,w2,re,w3,R3,k3,λv H4 c4 R4 q4=>?_⟩;have c24:=c23.trans c4;have hv4:=c24 _ _ nB hv;have hu:VJ _ (aj (B++P) (upd H4 d (.lst (vs++[v])))):=oQ (Ru _ hp);have s5:=(AR c24).trans hu;exact⟨vs,hv4,Bx hr.length ex hx,t1,w3,_,ys,_,hm',R4.zbX hp hv4,k4,by rw[SI];assumption,bK,(VQ.mono s5 hr).app (VQ.one (Rep.mono hu (q4.Ze R3.rs.mu))),Qy hn sm c24,src.keep _ _ _ _ gg s5⟩
def Jo{X:Cx}(hk:∀F',cV X.K F' g kt)(h:wE ρ X.K F p (rO n cap fs kt ft fe) σ H Q):nL n cap (wI ρ X.K F p fs) g (λσ H Q=>∃F',wT ρ X.K F' p ft σ H Q) (λσ H Q=>∃F',wE ρ X.K F' p fe σ H Q) σ H Q:=by
 obtain⟨A,B,t,w,r,w',R,e,h⟩:=h;refine aA e λq e1 e=>?_;refine aA e λc e2 e=>?_;obtain⟨⟨b,ds⟩,w1⟩:=q;obtain⟨c,zbS⟩:=c;refine cH e λhlen e=>?_;refine aA e λys e3 e=>?_;obtain⟨xs,wf⟩:=ys;refine cH e λok e=>?_;cases e;refine⟨A,B,t,w,b,ds,w1,R,e1,λJ H1 Good ch R1 src gd d hD=>?_⟩;obtain⟨cvs,cv1,cv2⟩:=r8 R1.rs e2;have nB:d∉B:=λz=>R1.al z hD;have hb:(b&&c)=Qt->b=Qt:=λz=>(RX.mp z).1;have hc:(b&&c)=Qt->c=Qt:=λz=>(RX.mp z).2;have st0:VJ (aj (B++Xn (b&&c) A F) H1) (aj (B++(d::Xn (b&&c) A F)) (upd H1 d (.lst []))):=λx o z=>by
  obtain⟨nx,z⟩:=cN z;have nd:x≠d:=λy=>by lia
  refine bH (by rw[aY nd];assumption) λy=>?_
  simp_all
 have mu0:∀x∈B++Xn (b&&c) A F,x∈A++(B++F):=λx hx=>uX x (zV hb x hx);refine⟨CW ρ X.K kt ft fe ds xs wf H1 (d::Xn (b&&c) A F) B p d Good,⟨ds.length,⟨_,w1,[],xs,[],UC _,⟨⟨λq hq=>?_,Sv,λp hp=>(by cases hp),?_⟩,ρ.mono R1.rel λx o z _=>by rw[aY (λy=>by lia)];assumption,R1.nd,λx hx z=>?_⟩,e3,rfl,bK,.nil,Ch.of (dZ hD),src.keep _ _ _ _ gd ((bE H1 (zV hb)).trans st0)⟩⟩,λi m σ' H' c'=>?_⟩
 .have hq:q∈B++(d::Xn (b&&c) A F):=hq;by_cases z:q=d
  .exact⟨mL _,by rw[z];exact bK⟩
  .have y:=(Ry.mp hq).elim (λy=>Rw _ y) λy=>(RB.mp y).elim (λy=>absurd y z) λy=>Ru _ y;obtain⟨us,y⟩:=R1.rs.mu q (mu0 q y);exact⟨us,by rw[aY z];assumption⟩
 .unfold g9;rw[cv1];exact We.zda (VQ.mono ((bE _ (zV hc)).trans st0) cv2) n
 .rcases RB.mp z with y|y
  .lia
  .rcases Ry.mp (uX x y) with u|u
   .exact R1.za8 hx u
   .exact R1.dj x hx u
 cases m with
 |succ m=>exact .inr (c'.step src (hk _) (Rz ..) nB hD (SH (AJ e3) hlen))
 |zero=>
  obtain⟨th,wn,acc,rest,vs,hm,RR,ec,ex,hv,hr,sm,gg⟩:=c';cases hm;rw[Tr]at ec;cases ec;rw[SE]at ex;subst ex;have R2:=R1.chg sm RR.rel;have fr:H d=Qn:=by
   cases z:H d with
   |none=>rfl
   |some o=>rw[ch d o nB z]at hD;assumption
  refine .inl ⟨src.stop _ _ gg,h _ H' (ch.trans sm) R2 ⟨d,vs,rfl,fr,hv,?_⟩⟩;rcases US _ _▸ok with k|k
  .refine VQ.mono (bE _ λx hx=>?_) hr;rw[k];show x∈B++(d::(A++F))
   grind
  .refine VQ.W2 (λq hq=>?_) k (VQ.mono (aR _ _) hr);rcases RB.mp hq with z|z
   .exact⟨mL _,by rw[z];assumption⟩
   .exact R2.rs.mu q z
section
variable {X:Cx}{F:Ql ZE}{p:ZE}{a b c:ZG}{fa fb fc:WE ρ}{ga:WA ρ}{st:ZH}{sts:Ql ZH}{tg:ZG}
def sT{ρ:Res}:WT ρ:=λ_ w=>Qs (Qt,w)
def K5:XZ Y [] (wT ρ Y.K F p sT):=XZ.imp Dr λσ H Q ⟨A,B,t,w,b,w',R,e,h⟩=>by cases e;exact h H Ch.refl R
def yF(h:∀F',PI X tg a (dI X.K F' fs)):PI X tg a (wI ρ X.K F p (mJ ρ fs)):=by
 rintro pins s σ H R I ⟨A,B,t,w,b,ds,w',RR,e,k⟩;unfold mJ at e;rcases e1:fs t with _|q
 .rw[e1]at e;cases e
 rw[e1]at e;cases e;exact h _ _ s σ H R I ⟨A,t,b,ds,RR.rs,e1,λJ H1 Good gs S gd=>k J _ _ (Ch.of gs) (RR.grow gs) S gd⟩
def nR{ρ:Res}(k:D->Th->Qo Th)(fs:WI ρ)(body:WS ρ):WS ρ:=λt w=>(fs t w).bind λq=>if q.1.1 then gz k body q.1.2 t q.2 else Qn
def yr(hp:PassesOwn (model X.prog X.w) X.A X.env X.xe)(hc:X.calm=Qt)(hi:PI X tg a (wI ρ X.K F p fs))(hg:PG X tg gt)(ht:∀F',cV X.K F' gt kt)(hb:WH X body (wS ρ X.K F p g)) (hs:∀x,foldedSetIterable a X.env x=pure x:=by intro _;rfl):PS X (.For tg a body [] pos) (wS ρ X.K F p (nR kt fs g)):=by
 rintro pins s σ H E I ⟨A,B,t,w,o,R,e,h⟩;refine aA e λq e1 e=>?_;obtain⟨⟨bb,ds⟩,w1⟩:=q;cases bb with
 |false=>cases e
 |true=>refine kY hp hc hi hg hb hs _ s σ H E I ⟨A,B,t,w,Qt,ds,w1,R,e1,λJ H1 Good c R1 S gd=>?_⟩;exact PX S ht R1 e (h.back (RW.grB c R1)) gd
end
def We.zfT (hr:Rep K H0 d v)(h:We K H0 H t σ A):∀i:Nat,t[i]?=Qs .no->σ[i]?=Qs (Qs v)->We K H0 H (t.set i (.val d)) σ A:=by
 induction h with
 |nil=>simp
 |no r ih=>
  intro i e f;cases i with
  |zero=>simp at f;subst f;exact .val hr r
  |succ i=>exact .no (ih i (e) (f))
 |val h r ih=>
  intro i e f;cases i with
  |zero=>simp at e
  |succ i=>exact .val h (ih i (e) (f))
 |own h1 h2 r ih=>
  intro i e f;cases i with
  |zero=>simp at e
  |succ i=>exact .own h1 h2 (ih i (e) (f))
 |dp h r ih=>
  intro i e f;cases i with
  |zero=>simp at e
  |succ i=>exact .dp h (ih i (e) (f))
def We.fgt (h:We K H0 H t σ A):∀i:Nat,∃A',A'.Sublist A/\We K H0 H (t.set i .no) σ A':=by
 induction h with
 |nil=>intro i;exact⟨[],Sh _,.nil⟩
 |no r ih=>
  intro i;cases i with
  |zero=>exact⟨_,Sh _,.no r⟩
  |succ i=>obtain⟨A',s,q⟩:=ih i;exact⟨A',s,.no q⟩
 |val h r ih=>
  intro i;cases i with
  |zero=>exact⟨_,Sh _,.no r⟩
  |succ i=>obtain⟨A',s,q⟩:=ih i;exact⟨A',s,.val h q⟩
 |own h1 h2 r ih=>
  intro i;cases i with
  |zero=>exact⟨_,TR _ _,.no r⟩
  |succ i=>obtain⟨A',s,q⟩:=ih i;exact⟨_,s.cons₂ _,.own h1 h2 q⟩
 |dp h r ih=>
  intro i;cases i with
  |zero=>exact⟨_,T7 _ _,.no r⟩
  |succ i=>obtain⟨A',s,q⟩:=ih i;exact⟨_,S4 (Sh _) s,.dp h q⟩
def YN.zi2 (h:YN K (B++F) A H H' r v):YN K F A H H' r v:=by
 have le:∀P,VJ (aj (P++(B++F)) _) (aj (P++F) H'):=λP=>bE _ λb hb=>by
  grind
 cases r with
 |cl d=>exact Rep.mono (le []) h
 |tm d=>exact Rep.mono (le []) h
 |nw xs=>obtain⟨q,vs,rfl,h1,h2,h3,h4⟩:=h;exact⟨q,vs,rfl,h1,λz=>h2 (Ru _ z),h3,VQ.mono (le [q]) h4⟩
 |dn d=>obtain⟨C,h0,h1,h2⟩:=h;exact⟨C,h0,λb hb=>⟨(h1 b hb).1,λz=>(h1 b hb).2 (Ru _ z)⟩,Wn.mono (le C) h2 λ_ _ _ q=>q⟩
def sZ{γ:Type}(i:Nat):OW γ->Out
 |.nx t _=>.nx (t.set i .no)
 |.rt r _=>.rt r
 |.bk t _=>.bk (t.set i .no)
 |.ct t _=>.ct (t.set i .no)
open Classical in
noncomputable def oU(i:Nat)(g:ZE->WS au):DS:=λt=>match t[i]? with
 |some (.own [.int c,.int n])=>if h:∃o,∀p,(g p (t.set i (.val (.adr p))) (c,n)).map (sZ i)=Qs o then Qs h.choose else Qn
 |_=>Qn
open Classical in
def O6(e:t[i]?=Qs (.own [.int c,.int n]))(h:∀p,(g p (t.set i (.val (.adr p))) (c,n)).map (sZ i)=Qs o):oU i g t=Qs o:=by unfold oU;have hx:∃o,∀p,(g p (t.set i (.val (.adr p))) _).map _=Qs o:=⟨o,h⟩;rw[e];show(if h:∃o,∀p,(g p _ _).map _=Qs o then Qs _ else Qn)=Qs o;rw[dif_pos hx];have:=hx.choose_spec 0;rw[h 0]at this;exact this.symm
section
variable {X:Cx}{F:Ql ZE}{a b c:ZG}{es:Ql ZG}{fa:DE}{st:ZH}{sts:Ql ZH}
def Lj(i:Nat)(h:∀p,WH X sts (wS au X.K F p (g p))):WH X sts (dS X.K F (oU i g)):=by
 intro pins s σ H E I q;obtain⟨A,t,o,R,e,post⟩:=kz q;unfold oU at e;split at e
 case h_2=>cases e
 rename_i c n z;split at e
 case isFalse=>cases e
 rename_i hx;have zbL:=hx.choose_spec;have eo:hx.choose=o:=by simpa using e
 rw[eo]at zbL;obtain⟨p,vs,b1,b2,b3,b4⟩:=R.rel.Yw z;have ev:vs=[.int c,.int n]:=by
  cases b4 with
  |cons r1 r'=>
   cases r' with
   |cons r2 r3=>cases r3;cases r1;cases r2;rfl
 subst ev;obtain⟨A',sub,pn,mk⟩:=R.rel.zch i R.nd z b1;have zb1:∀b∈A',b∈A:=λb hb=>sub.subset hb;have hs:VJ (aj (A++F) H) (aj (A'++([p]++F)) H):=bE H λb hb=>by
  rcases Ry.mp hb with y|y
  .exact Rw _ (zb1 b y)
  .rcases Ry.mp y with y|y
   .simp_all
   .exact Ru _ y
 have hi:i<t.length:=(RZ.mp z).1;have rel:We X.K (aj (A'++([p]++F)) H) H (t.set i (.val (.adr p))) σ A':=by
  have:=We.zfT (.adr p) (mk _ H hs λ_ _ _ w=>w) i (by simp[hi]) b1
  rwa [VY]at this
 have RWp:RW au X.K F H A' (t.set i (.val (.adr p))) σ p (c,n) [p]:=⟨⟨λb hb=>?_,R.nd.sublist sub,λb hb w=>?_,rel⟩,⟨rfl,b3⟩,(by simp),λb hb=>?_⟩
 .have hp:=zbL p;rcases ho:g p (t.set i (.val (.adr p))) (c,n) with _|ow
  .rw[ho]at hp;cases hp
  rw[ho]at hp;have hp:=by simpa using hp
  refine h p _ s σ H E I ⟨A',[p],_,_,ow,RWp,ho,?_⟩;have gr:∀{A2 B2 A3:Ql _}{H':Hp},Gr _ H (A2++B2) H'->(∀b∈A3,b∈A2)->Gr A H _ _:=λ{A2 B2 A3 H'} g s3=>by
   have nA:∀b,b∉A->b∉A'++[p]:=λb nb w=>by
    rcases Ry.mp w with w|w
    .exact nb (zb1 b w)
    .simp_all
   refine⟨λb o' nb w=>g.kp b _ (nA b nb) w,λb hb=>?_,λb hb=>?_⟩
   .by_cases w:b∈A'++[p]
    .exact g.al b w
    .obtain⟨u,y⟩:=R.mu b (Rw _ hb);rw[g.kp b _ w y];simp
   .rcases g.nw b (Rw _ (s3 b hb)) with w|w
    .by_cases y:b∈A
     .exact .inl y
     .exact absurd w (nA b y)
    .exact .inr w
  have after:∀{N:L2.St->Hp->Prop}{t':Th}{w':Int×Int},After X.K F A H N (t'.set i .no)->wu au X.K F p A' [p] H N t' w':=λ{N t' w'} k σ' H' A2 B2 g R2=>by
   obtain⟨A3,s3,q3⟩:=R2.rs.rel.fgt i;have m3:∀b∈A3,b∈A2:=λb hb=>s3.subset hb;refine k σ' H' A3 (gr g m3) ⟨λb hb=>R2.rs.mu b ?_,R2.rs.nd.sublist s3,λb hb w=>R2.rs.dj b (m3 b hb) (Ru _ w),We.mono (bE H' λb hb=>?_) q3 λ_ _ _ w=>w⟩
   .rcases Ry.mp hb with w|w
    .exact Rw _ (m3 b w)
    .exact Ru _ (Ru _ w)
   .rcases Ry.mp hb with w|w
    .exact Rw _ (m3 b w)
    .exact Ru _ (Ru _ w)
  cases ow with
  |nx t' w'=>subst hp;exact after post
  |bk t' w'=>subst hp;exact after post
  |ct t' w'=>subst hp;exact after post
  |rt r w'=>
   subst hp;intro v H' A2 B2 g zfH nd dj y;refine post v _ [] (gr g λb hb=>nomatch hb) (y.zi2.weak λb hb=>?_);rcases Ry.mp hb with w|w
   .exact zb1 b w
   .rw[RG.mp w];assumption
 .rcases Ry.mp hb with w|w
  .exact R.mu b (Rw _ (zb1 b w))
  .rcases Ry.mp w with w|w
   .rw[RG.mp w];exact⟨mL _,b3⟩
   .exact R.mu b (Ru _ w)
 .rcases Ry.mp w with w|w
  .rw[RG.mp w]at hb;exact pn hb
  .exact R.dj b (zb1 b hb) w
 .rw[RG.mp hb];exact R.dj p b2
end
section
variable {X:Cx}{F:Ql ZE}{p:ZE}{a b c:ZG}{fa fb fc:WE ρ}{ga:WA ρ}{st:ZH}{sts:Ql ZH}{tg:ZG}
def Lc (n:Nat)(cap:Ql Nat)(N':Ql Str)(ZO:X.N.Nodup)(ZL:X.N[i]?=Qs y)(hy:Loc X.env.scope y)(hc:X.calm=Qt)(hi:PI X tg iter (wI ρ X.K F p fs)) (hg:∀C s₃ H₃ fp pins,PG (bC X N' scope C s₃ H₃ fp pins) tg g) (hk:∀F',cV X.K F' g kt) (ht:∀C s₃ H₃ fp pins F',XZ (bC X N' scope C s₃ H₃ fp pins) ifs (wT ρ X.K F' p ft)) (he:∀C s₃ H₃ fp pins F',PE (bC X N' scope C s₃ H₃ fp pins) elt (wE ρ X.K F' p fe)) (X8:swapsWith (.ListComp elt [⟨tg,iter,ifs,0⟩] scope pos) (Qs (.Name y py)) Zl.line X.env=pure Qt:=by rfl) (hf:X.fn y=Qt\/X.env.scope.names.lookup y=Qs .local:=by first|exact .inl rfl|exact .inr rfl) (Y9:scope.kind=.function:=by rfl) (Zb:lG scope.names X.env.kindOf=Qt:=by rfl) (hN:N'.length=n+cap.length:=by rfl) (XQ:jN N' X.N n scope.names 0 cap=Qt:=by rfl) (hs:∀x,foldedSetIterable iter X.env x=pure x:=by intro _;rfl):PS X (.Assign [.Name y py] (.ListComp elt [⟨tg,iter,ifs,0⟩] scope pos) Zl) (wS ρ X.K F p (fM i (rO n cap fs kt ft fe))):=by
 refine PS.imp (DC (tt:=λσ H Q=>∃F',wT ρ _ _ p _ σ H Q) (te:=λσ H Q=>∃F',wE ρ _ _ p _ σ H Q) (rW Y9 Zb) hc hi hN (λk j e=>by simpa using oX XQ k j e) hg (λC s₃ H₃ fp pins Y6 s σ H Q I ⟨F',q⟩=>ht C _ _ _ _ F' _ s σ H Q I q) (λC s₃ H₃ fp pins Y6 s σ H Q I ⟨F',q⟩=>he C _ _ _ _ F' _ s σ H Q I q) ZO ZL hy X8 hf hs) ?_;rintro E σ H ⟨A,B,t,w,o,R,e,h⟩;refine Jo hk ?_;refine aA e λq e1 e=>?_;rcases e2:dR t i _ with _|t'
 .rw[e2]at e;cases e
 rw[e2]at e;cases e;refine⟨A,B,t,w,q.1,q.2,R,e1,λv H' c R' y=>?_⟩;obtain⟨A',g',RR⟩:=R.put c R' y e2;exact h _ _ _ _ g' RR
def LR(hgr:Gl X "range")(hm:X.mg "range"=Qn)(ha:PE X a (wE ρ X.K F p fa))(WY:RM [a] X.env=[(Qf,eval a X.env)]:=by rfl):PI X tg (.Call (.Name "range" p1) [a] [] p2) (wI ρ X.K F p (uV fa)):=by
 refine PI.imp (yI hgr hm (fG ha gx WY) WY) ?_;rintro σ H R ⟨A,B,t,w,b,ds,w',RR,e,h⟩;refine aA e λq e1 e=>?_;obtain⟨r,w1⟩:=q;refine⟨A,B,t,w,r,w1,RR,e1,λv H1 c R1 y=>?_⟩;split at e
 case h_2=>cases e
 rename_i n z;refine cH e λok e=>?_;cases e;simp only[eI,XT]at ok;have y:=y.full;rw[z]at y;cases cL y;exact⟨n,rfl,by lia,by lia,h _ _ _ c R1 w6 trivial⟩
def PW.ptw(h:PW X a (wT ρ X.K F p ft)):PT X a (wT ρ X.K F p ft):=λpins s σ H Q I q=>h _ _ s σ H Q I q
end
noncomputable def bI(f:Str):Ql Str->Qo Nat
 |[]=>Qn
 |n::ns=>if n=f then Qs 0 else(bI f ns).map (·+1)
theorem ox{α:Type}:∀{ns:Ql Str}{vs:Ql α}{j:Nat}{v:α},bI f ns=Qs j->vs[j]?=Qs v->(ns.zip vs).lookup f=Qs v
 |[],_,_,_,e,_=>by cases e
 |n::ns,[],j,v,e,h=>‹_›
 |n::ns,x::vs,j,v,e,h=>by
  simp only[bI]at e;by_cases z:n=f
  .rw[V4 z]at e;cases e
   simp_all
  .rw[Wh z]at e;simp only[Sx,VD,(beq_eq_false_iff_ne.mpr λw=>z w.symm)];rcases e1:bI f _ with _|k
   .rw[e1]at e;cases e
   rw[e1]at e;cases e;exact ox e1 (h)
theorem zl{α:Type}:∀{ns:Ql Str}{vs:Ql α},bI f ns=Qn->(ns.zip vs).lookup f=Qn
 |[],_,_=>by simp
 |n::ns,[],_=>by simp
 |n::ns,x::vs,e=>by
  simp only[bI]at e;by_cases z:n=f
  .lia
  .simp only[Sx,VD,(beq_eq_false_iff_ne.mpr λw=>z w.symm)];exact zl (by simp_all)
theorem Dm:∀{ns:Ql Str}{vs:Ql V}{j:Nat},bI f ns=Qs j->ns.length=vs.length->dH f v (ns.zip vs)=ns.zip (vs.set j v)
 |[],_,_,e,_=>by cases e
 |n::ns,[],j,e,h=>by simp at h
 |n::ns,x::vs,j,e,h=>by
  simp only[bI]at e;by_cases z:n=f
  .rw[V4 z]at e;cases e;simp only[Sx,dH,V4 z,List.set_cons_zero]
  .rw[Wh z]at e;rcases e1:bI f _ with _|k
   .rw[e1]at e;cases e
   rw[e1]at e;cases e;simp only[Sx,dH,Wh z,List.set_cons_succ];rw[Dm e1 (by simpa using h)]
theorem Dl:∀{ns:Ql Str}{vs:Ql V},bI f ns=Qn->ns.length=vs.length->dH f v (ns.zip vs)=(ns++[f]).zip (vs++[v])
 |[],[],_,_=>rfl
 |[],_::_,_,h=>by simp at h
 |n::ns,[],e,h=>by simp at h
 |n::ns,x::vs,e,h=>by
  simp only[bI]at e;by_cases z:n=f
  .lia
  .simp only[Sx,dH,Wh z,TC];rw[Dl (by simp_all) (by simpa using h)]
theorem GW:∀{ns:Ql Str}{j:Nat},bI f ns=Qs j->j<ns.length
 |[],_,e=>by cases e
 |n::ns,j,e=>by
  simp only[bI]at e;split at e
  .cases e;simp
  .rcases e1:bI f _ with _|k
   .rw[e1]at e;cases e
   rw[e1]at e;cases e;have:=GW e1;simp;assumption
section
variable {X:Cx}{F:Ql ZE}{a b c o:ZG}{es:Ql ZG}{fa:DE}{g g1 g2:DS}{ft:DT}{st:ZH}{C:ZE}{f m:Str}
def aP(C:ZE)(f:Str):Ev->Qo Ev:=λr=>match r.d with
 |.obj C' ns ds=>if C'=C then(bI f ns).bind λj=>(ds[j]?).map λd=>if r.ok||flat d then .cl d else .tm d else Qn
 |_=>Qn
def du(c:Xb X.K C)(n:Wx X.K C f)(ha:PE X a (dE X.K F fa))(hb:attributeBase a f X.env (eval a X.env)=eval a X.env:=by rfl):PE X (.Attribute a f pos) (dE X.K F (d1 (aP C f) fa)):=by
 refine PE.imp (mh ha hb) ?_;rintro σ H Q ⟨A,t,r,R,e,h⟩;unfold d1 at e;rcases e1:fa t with _|r1
 .rw[e1]at e;cases e
 rw[e1]at e;replace e:aP C f _=Qs r:=e;refine⟨A,t,r1,R,e1,λv H1 gs q=>?_⟩;have m:=R.mu;have m2:=m.mono gs;have key:∀P,Rep X.K (aj P H1) r1.d v->(∀d v,Rep X.K (aj P H1) d v->Wt X.K F A H H1 (if r1.ok||flat d then Ev.cl d else Ev.tm d) v)->∃a C dx fs v',v=.ref a/\H1 a=Qs (.ins C dx fs)/\Xb X.K C/\Wx X.K C f/\fs.lookup f=Qs v'/\Q v' H1:=λP hP fin=>by
  unfold aP at e;split at e
  case h_2=>cases e
  rename_i C' ns ds z1;replace e:=Xz e;obtain⟨ec,e⟩:=e;subst ec;rw[z1]at hP;cases hP with
  |@obj _ dx _ _ p vs l h1 h2=>
   rcases e4:bI f _ with _|j
   .rw[e4]at e;cases e
   rw[e4]at e;simp only[RF]at e;rcases e5:ds[j]? with _|d
   .rw[e5]at e;cases e
   rw[e5]at e;have e:(if r1.ok||flat d then Ev.cl d else Ev.tm d)=r:=by simpa using e
   obtain⟨v',e6,rv⟩:=h2.get e5;exact⟨p,C',dx,_,v',rfl,(cN h1).2,c,n,ox e4 e6,h _ _ gs (e▸fin d _ rv)⟩
 by_cases k:r1.ok=Qt
 .refine key _ (q.clean m gs k) λd v rv=>?_;rw[k,UB];assumption
 .refine key F (q.Ze m) λd v rv=>?_;have k:=by simpa using k
  rw[k];split
  .rename_i f;exact Rep.W2 m2 f (Rep.mono (aR _ _) rv)
  assumption
structure zaz(P:Te)(w:UX)(K:Rv)(mg:Str->Option R8)(base:Yp)(C:ZE)(m:Str)(k:Nat)(G:List D->Option Ev):Prop where
 ex:∃(f:ZE) (fd:Ud) (ps:List Str),Meth K C m f/\L2.Binds K fd ps []/\XC P w K mg base dk k f fd ps (ZW K G)
def cZ(C:ZE)(m:Str)(G:Ql D->Qo Ev)(fo:DE)(ga:DA):DE:=λt=>(fo t).bind λr0=>match r0.d with
 |.obj C' ns _=>if C'=C/\bI m ns=Qn then(ga t).bind λrs=>aH G (r0::rs) else Qn
 |_=>Qn
def Eu{k:Nat}(hq:dE X.K F (cZ C m G fo ga) σ H Q):sU C m (ZW X.K G) [] E (dE X.K F fo) (dA X.K F ga) σ H Q:=by
 obtain⟨A,t,r,R,e,h⟩:=hq;unfold cZ at e;rcases e1:fo t with _|r0
 .rw[e1]at e;cases e
 rw[e1]at e;simp at e;split at e
 case h_2=>cases e
 rename_i C' ns ds z1;replace e:=Xz e;obtain⟨ec,e⟩:=e;obtain⟨rfl,ec⟩:=ec;rcases e2:ga t with _|rs
 .rw[e2]at e;cases e
 rw[e2]at e;refine⟨A,t,r0,R,e1,λx H1 XR q1=>?_⟩;have q1f:=q1.full;rw[z1]at q1f;cases q1f with
 |@obj _ dx _ _ p vs l h1 h2=>refine⟨p,dx,_,rfl,h1,zl ec,A,t,rs,R.grow XR,e2,λus H2 Wz q2=>?_⟩;rw[SE];exact HF R.mu (XR.trans Wz) (.cons (q1.mono Wz) (Xo.back XR q2)) e λv H' g' q'=>h v _ ((XR.trans Wz).trans g') q'
def oh{pl:Sem Bool}(cl:Xb X.K C)(cm:zaz X.prog X.w X.K X.mg X.base C m k G)(hr:Xa k X.A)(ho:PE X o (dE X.K F fo))(ha:PA X (a::es) (dA X.K F ga)) (WY:RM (a::es) X.env=(Qf,eval a X.env)::RM es X.env:=by rfl) (XX:(TV pos (RM es X.env)).any (·.1)=Qf:=by rfl) (ht:eval (.Call (.Attribute o m apos) (a::es) [] pos) X.env=(do
   let ov<-eval o X.env
   standAt apos.atName
   let (f,first)<-holding [ov] (getMethod ov m pl)
   callWith pos f first (TV pos (RM (a::es) X.env)) (backToKw pos (keywordEach [] X.env))):=by rfl):PE X (.Call (.Attribute o m apos) (a::es) [] pos) (dE X.K F (cZ C m G fo ga)):=by obtain⟨f,fd,ps,h1,h2,h3⟩:=cm.ex;exact PE.imp (DY ho cl h1 h3 hr h2 .nil mi ha WY XX ht) λσ H Q hq=>Eu (k:=k) hq
def L5(cl:Xb X.K C)(cm:zaz X.prog X.w X.K X.mg X.base C m k G)(hr:Xa k X.A)(ho:PE X o (dE X.K F fo)) (ht:eval (.Call (.Attribute o m apos) [] [] pos) X.env=(do
   let ov<-eval o X.env
   standAt apos.atName
   let (f,first)<-holding [ov] (getMethod ov m pl)
   callWith pos f first (TV pos (RM [] X.env)) (backToKw pos (keywordEach [] X.env))):=by rfl):PE X (.Call (.Attribute o m apos) [] [] pos) (dE X.K F (cZ C m G fo aq)):=by obtain⟨f,fd,ps,h1,h2,h3⟩:=cm.ex;refine PE.imp (DX ho cl h1 h3 hr h2 .nil mi ht) λσ H Q hq=>?_;obtain⟨A,t,r,R,e,h⟩:=Eu (k:=k) (E:=E0) hq;refine⟨A,t,r,R,e,λx H1 gs q=>?_⟩;obtain⟨p,dx,fs,e1,e2,e3,A2,t2,rs,R2,e4,h4⟩:=h x _ gs q;cases e4;exact⟨p,dx,fs,e1,e2,e3,h4 _ _ (VJ.refl _) .nil⟩
end
inductive Swp(K:Rv)(H0 H:Hp)(ds:List D)(vs:List V)(C:List ZE)(j:Nat)(d:D):Prop
 |mk (v B1:_) (_:vs[j]?=Qs v) (_:Wn K H0 H d v B1) (_:(∀b∈B1,b∈C)) (_:B1.Nodup) (_:∀Xe H' y v2 B2,VJ H0 Xe->Wn K Xe H' y v2 B2->B2.Nodup->(∀b∈B2,b∈B1\/b∉C)->(∀q∈C,q∉B1->∀o,H q=Qs o->H' q=Qs o)->∃C',Wf K Xe H' (ds.set j y) (vs.set j v2) C'/\C'.Nodup/\∀b∈C',b∈B2\/(b∈C/\b∉B1))
theorem Wf.swap{K:Rv}{H0 H:Hp}:∀{ds:Ql D}{vs:Ql V}{C:Ql ZE},Wf K H0 H ds vs C->C.Nodup->∀{j:Nat}{d:D},ds[j]?=Qs d->Swp K H0 H ds vs C j d
 |_,_,_,.nil,nd,j,d,e=>by simp at e
 |_,_,_,.cons (v:=v) (B:=B) h r,nd,0,d,e=>by
  simp at e;subst e;have n:=RI.mp nd;refine⟨v,B,rfl,h,λb hb=>Rw _ hb,n.1,λXe H' y v2 B2 s q n2 sb k=>⟨_,.cons q (Wf.mono s r λp hp o w=>?_),RI.mpr ⟨n2,n.2.1,λx hx z hz e=>?_⟩,λb hb=>?_⟩⟩
  .exact k p (Ru _ hp) (λz=>n.2.2 p z p hp rfl) o w
  .grind
  .grind
 |_,_,_,.cons (B:=B) h r,nd,j+1,d,e=>by
  have n:=RI.mp nd;obtain⟨v1,B1,a1,a2,a3,a5,a4⟩:=Wf.swap r n.2.1 (j:=j) (d:=d) (by assumption);refine⟨v1,B1,by assumption,a2,λb hb=>Ru _ (a3 b hb),a5,λXe H' y v2 B2 s q n2 sb k=>?_⟩;obtain⟨C',b1,b2,b3⟩:=a4 Xe H' y v2 B2 s q n2 (λb hb=>(sb b hb).imp id λz w=>z (Ru _ w)) (λq hq=>k q (Ru _ hq));refine⟨B++C',.cons (Wn.mono s h λp hp o w=>k p (Rw _ hp) (λz=>n.2.2 p hp p (a3 p z) rfl) o w) b1,RI.mpr ⟨n.1,b2,λx hx z hz e=>?_⟩,λb hb=>?_⟩
  .subst e;rcases b3 x hz with w|w
   .rcases sb x w with u|u
    .exact n.2.2 x hx x (a3 x u) rfl
    .exact u (Rw _ hx)
   .exact n.2.2 x hx x w.1 rfl
  .rcases Ry.mp hb with w|w
   .exact .inr ⟨Rw _ w,λz=>n.2.2 b w b (a3 b z) rfl⟩
   .rcases b3 b w with u|u
    .exact .inl u
    .simp_all
theorem Wf.snoc{K:Rv}{H0 H:Hp}{d:D}{v:V}{B:Ql ZE}(q:Wn K H0 H d v B):∀{ds:Ql D}{vs:Ql V}{C:Ql ZE},Wf K H0 H ds vs C->Wf K H0 H (ds++[d]) (vs++[v]) (C++B)
 |_,_,_,.nil=>by have:Wf K _ H _ _ _:=.cons q .nil;rw[SE]at this;assumption
 |_,_,_,.cons h r=>by rw[SI];exact .cons h (Wf.snoc q r)
def J6{σ:L2.St}(h:σ[i]?=Qs (Qs v)):σ.set i (Qs v)=σ:=by
 apply Us;intro k;by_cases z:i=k
 .subst z;rw[Ts ((RZ.mp h).1),h]
 .rw[Ss z]
def RS.ze0 (R:RS K (Z++F) H A t σ)(zf:∀z∈Z,z∉F)(e:t[i]?=Qs (.dp d)):∃v B A',σ[i]?=Qs (Qs v)/\B.Nodup/\(∀b∈B,b∈A)/\(∀b∈A',b∈A)/\(∀b∈B,b∉A'++(Z++F))/\Wn K (aj (A'++(B++(Z++F))) H) H d v B/\Wn K (aj (A++(Z++F)) H) H d v B/\∀H1 d2 B2,(∀b o,b∉B->b∉Z->H b=Qs o->H1 b=Qs o)->B2.Nodup->(∀b∈B2,b∈B\/b∈Z\/H b=Qn)->Wn K (aj (A'++(B2++F)) H1) H1 d2 v B2->∃A2,RS K F H1 A2 (t.set i (.dp d2)) σ/\∀b∈A2,b∈A\/b∈Z\/H b=Qn:=by
 obtain⟨v,B,A',a1,R',nb,dj,rd0,sub,YL⟩:=R.zcR e;have hi:i<t.length:=(RZ.mp e).1;have le:VJ (aj (A++(Z++F)) H) (aj (A'++(B++(Z++F))) H):=bE H λx hx=>by
  rcases Ry.mp hx with z|z
  .exact Rw _ (sub x z)
  .rcases Ry.mp z with z|z
   .exact Rw _ (YL x z)
   .exact Ru _ z
 refine⟨v,B,A',a1,nb,YL,sub,λb hb z=>(Ry.mp z).elim (λw=>R'.dj b w (Rw _ hb)) (dj b hb),Wn.mono le rd0 λ_ _ _ w=>w,rd0,λH1 d2 B2 kp nb2 new rd=>?_⟩;have up:∀b,b∈A'++F->b∈A'++(B++(Z++F)):=λb hb=>by
  rcases Ry.mp hb with w|w
  .exact Rw _ w
  .simp_all
 have out:∀b,b∈A'++F->b∉B:=λb hb z=>by
  rcases Ry.mp hb with w|w
  .exact R'.dj b w (Rw _ z)
  .exact dj b z (Ru _ w)
 have zdY:∀b,b∈A'++F->b∉Z:=λb hb z=>by
  rcases Ry.mp hb with w|w
  .exact R'.dj b w (Ru _ (Rw _ z))
  .exact zf b z w
 have zfO:∀b,b∈A'++F->b∉B2:=λb hb z=>by
  rcases new b z with w|w|w
  .exact out b hb w
  .exact zdY b hb w
  .obtain⟨o,q⟩:=R'.mu b (up b hb);lia
 have mu2:WM H1 (A'++(B2++F)):=λb hb=>by
  have other:b∈A'++F->∃o:MO,H1 b=Qs o.1:=λz=>by obtain⟨o,q⟩:=R'.mu b (up b z);exact⟨o,kp b _ (out b z) (zdY b z) q⟩
  rcases Ry.mp hb with z|z
  .exact other (Rw _ z)
  .rcases Ry.mp z with z|z
   .exact rd.lists b z
   .exact other (Ru _ z)
 have R2:RS K (B2++F) H1 A' (t.set i .no) σ:=by
  refine⟨mu2,R'.nd,λb hb z=>?_,We.mono (λb o h=>?_) R'.rel λb hb o h=>kp b o (out b (Rw _ hb)) (zdY b (Rw _ hb)) h⟩
  .rcases Ry.mp z with w|w
   .exact zfO b (Rw _ hb) w
   .exact R'.dj b hb (Ru _ (Ru _ w))
  .obtain⟨n,h⟩:=cN h;have nB:b∉B:=λz=>n (Ru _ (Rw _ z));have nZ:b∉Z:=λz=>n (Ru _ (Ru _ (Rw _ z)));refine bH (kp b o nB nZ h) λz=>?_;rcases Ry.mp z with w|w
   .exact n (Rw _ w)
   .rcases Ry.mp w with w|w
    .rcases new b w with u|u|u
     .exact nB u
     .exact nZ u
     .lia
    .simp_all
 obtain⟨A2,s2,RR⟩:=R2.zis (i:=i) nb2 (λb hb z=>zfO b (Ru _ z) hb) rd (by rw[UP];assumption);rw[VY,J6 a1]at RR;refine⟨A2,RR,λb hb=>?_⟩;rcases s2 b hb with z|z
 .rcases new b z with w|w|w
  .exact .inl (YL b w)
  .exact .inr (.inl w)
  .exact .inr (.inr w)
 .exact .inl (sub b z)
inductive zmj(K:Rv)(F Z A:List ZE)(H:Hp)(t:Th)(σ:L2.St)(i:Nat)(C:ZE)(ns:List Str)(ds:List D):Prop
 |mk (p dx vs C0:_) (_:σ[i]?=Qs (Qs (.ref p))) (_:H p=Qs (.ins C dx (ns.zip vs))) (_:ns.length=vs.length) (_:p∈A) (_:p∉C0) (_:p∉Z) (_:C0.Nodup) (_:(∀b∈C0,b∈A/\b∉Z)) (_:Wf K (aj (A++(Z++F)) H) H ds vs C0) (_:∀H1 ns2 vs2 YC C2,(∀b o,b≠p->b∉C0->b∉Z->H b=Qs o->H1 b=Qs o)->H1 p=Qs (.ins C dx (ns2.zip vs2))->ns2.length=vs2.length->C2.Nodup->p∉C2->(∀b∈C2,b∈C0\/b∈Z\/H b=Qn)->Wf K (aj ((p::(C0++C2))++(A++(Z++F))) H1) H1 YC vs2 C2->∃A2,RS K F H1 A2 (t.set i (.dp (.obj C ns2 YC))) σ/\∀b∈A2,b∈A\/b∈Z\/H b=Qn)
def RS.zeC (R:RS K (Z++F) H A t σ)(zf:∀z∈Z,z∉F)(e:t[i]?=Qs (.dp (.obj C ns ds))):zmj K F Z A H t σ i C ns ds:=by
 obtain⟨v,B,A',a1,nb,YL,sub,nz,rdA,rd0,fin⟩:=R.ze0 zf e;cases rd0 with
 |flat f r=>simp[flat]at f
 |@obj _ dx _ _ p vs C0 l h r=>
  have n0:=RQ.mp nb;refine⟨p,dx,vs,C0,a1,h,l,YL p (Rz ..),n0.1,λz=>nz p (Rz ..) (Ru _ (Rw _ z)),n0.2,λb hb=>⟨YL b (Rx _ hb),λz=>nz b (Rx _ hb) (Ru _ (Rw _ z))⟩,r,λH1 ns2 vs2 YC C2 kp hp l2 n2 np new rd=>?_⟩;refine fin _ _ _ (λb o nB nZ w=>kp b o (λz=>nB (z▸Rz ..)) (λz=>nB (Rx _ z)) nZ w) (RQ.mpr ⟨np,n2⟩) (λb hb=>?_) (.obj l2 hp (Wf.mono (bE _ λb hb=>?_) rd λ_ _ _ w=>w))
  .rcases RB.mp hb with z|z
   .exact .inl (z▸Rz ..)
   .exact(new b z).imp (Rx _) id
  .rcases Ry.mp hb with z|z
   .exact Ru _ (Rw _ (sub b z))
   .rcases Ry.mp z with z|z
    .refine Rw _ ?_;rcases RB.mp z with z|z
     .exact z▸Rz ..
     .exact Rx _ (Ru _ z)
    .exact Ru _ (Ru _ (Ru _ z))
def lD:Ev->Qo D
 |.cl d=>if flat d then Qs d else Qn
 |.tm d=>if flat d then Qs d else Qn
 |.nw xs=>if Wv xs then Qs (.lst xs) else Qn
 |.dn d=>Qs d
def Wt.owned (m:WM H (A++F))(gs:VJ H H1)(q:Wt K F A H H1 r v)(e:lD r=Qs y):∃Bn:Ql ZE,Bn.Nodup/\(∀b∈Bn,H b=Qn)/\Wn K (aj (Bn++(A++F)) H1) H1 y v Bn:=by
 cases r with
 |cl d=>simp only[lD]at e;replace e:=Xz e;obtain⟨f,e⟩:=e;cases e;exact⟨[],Sv,(λb hb=>nomatch hb),.flat f q⟩
 |tm d=>simp only[lD]at e;replace e:=Xz e;obtain⟨f,e⟩:=e;cases e;exact⟨[],Sv,(λb hb=>nomatch hb),.flat f (Rep.W2 (m.mono gs) f (Rep.mono (aR _ _) q))⟩
 |nw xs=>simp only[lD]at e;replace e:=Xz e;obtain⟨f,e⟩:=e;cases e;obtain⟨p,vs,rfl,h1,h2,h3⟩:=q;exact⟨[p],by simp,λb hb=>by rw[RG.mp hb];assumption,.lst h2 (Wf.za7 f h3)⟩
 |dn d=>cases e;obtain⟨B,h1,h2,h3⟩:=q;exact⟨B,h1,h2,h3⟩
def zaf(C:ZE)(ns:Ql Str)(ds:Ql D)(f:Str)(y:D):D:=match bI f ns with
 |some j=>.obj C ns (ds.set j y)
 |none=>.obj C (ns++[f]) (ds++[y])
theorem RS.zaf{K:Rv}(R:RS K F H A t σ)(e:t[i]?=Qs (.dp (.obj C ns ds))):∃p dx vs,σ[i]?=Qs (Qs (.ref p))/\H p=Qs (.ins C dx (ns.zip vs))/\ns.length=vs.length/\VQ K H ds vs/\∀f H1 y w Bn,VJ H H1->Bn.Nodup->(∀b∈Bn,H b=Qn)->Wn K (aj (Bn++(A++F)) H1) H1 y w Bn->∃A2,RS K F (L2.upd H1 p (.ins C dx (dH f w (ns.zip vs)))) A2 (t.set i (.dp (DL.zaf C ns ds f y))) σ/\Gr A H A2 (L2.upd H1 p (.ins C dx (dH f w (ns.zip vs)))):=by
 obtain⟨p,dx,vs,C0,a1,hp,hl,pA,pC,_,nC,Zq,rd,fin⟩:=RS.zeC (Z:=[]) R (λz hz=>nomatch hz) e;have rd:Wf K (aj (A++F) H) H ds vs C0:=rd;refine⟨p,dx,vs,a1,hp,hl,Wf.rep (aR _ _) rd λ_ _ _ w=>w,λf H1 y w Bn gs nB fr rdy=>?_⟩;have hpn:∀b,H b=Qn->b≠p:=λb h z=>by lia
 have alA:∀b∈A,H b≠Qn:=λb hb z=>by obtain⟨o,q⟩:=R.mu b (Rw _ hb);lia
 have hu:∀o b,b≠p->L2.upd H1 p o b=H1 b:=λo b n=>aY n;generalize YX:L2.upd H1 p (.ins C dx (dH f w (ns.zip vs)))=H2;have u1:∀b,b≠p->H2 b=H1 b:=λb n=>by rw[<-YX];exact aY n
 have u2:H2 p=Qs (.ins C dx (dH f w (ns.zip vs))):=by rw[<-YX];exact bK
 have S1:VJ (aj (A++F) H) (aj (Bn++(A++F)) H2):=λb o h=>by
  obtain⟨n,h⟩:=cN h;refine bH (by rw[u1 b (λz=>n (z▸Rw _ pA))];exact gs b o h) λz=>?_
  simp_all
 have S2:VJ (aj (Bn++(A++F)) H1) (aj (Bn++(A++F)) H2):=λb o h=>by obtain⟨n,h⟩:=cN h;exact bH (by rw[u1 b (λz=>n (z▸Ru _ (Rw _ pA)))];assumption) n
 have ry:Wn K (aj (Bn++(A++F)) H2) H2 y w Bn:=Wn.mono S2 rdy λb hb o h=>by rw[u1 b (hpn b (fr b hb))];assumption
 have kC:∀q∈C0,∀o,H q=Qs o->H2 q=Qs o:=λq hq o h=>by rw[u1 q (λz=>pC (z▸hq))];exact gs q o h
 have gr:∀A2:Ql ZE,(∀b∈A2,b∈A\/b∈([]:Ql ZE)\/H b=Qn)->Gr A H A2 H2:=λA2 h=>by
  refine⟨λb o n q=>by rw[u1 b (λz=>n (z▸pA))];exact gs b o q,λb hb=>?_,λb hb=>?_⟩
  .by_cases z:b=p
   .lia
   .obtain⟨o,q⟩:=R.mu b (Rw _ hb);rw[u1 b z,gs b _ q];simp
  .simp_all
 have kp:∀b o,b≠p->b∉C0->b∉([]:Ql ZE)->H b=Qs o->H2 b=Qs o:=λb o n _ _ h=>by rw[u1 b n];exact gs b o h
 have sub:∀C2:Ql ZE,(∀b∈C2,b∈Bn\/b∈C0)->VJ (aj (Bn++(A++F)) H2) (aj ((p::(C0++C2))++(A++([]++F))) H2):=λC2 h=>bE H2 λb hb=>by
  have c0:b∈C0->b∈Bn++(A++F):=λz=>Ru _ (Rw _ (Zq b z).1);rcases Ry.mp hb with z|z
  .rcases RB.mp z with z|z
   .simp_all
   .rcases Ry.mp z with z|z
    .exact c0 z
    .rcases h b z with z|z
     .exact Rw _ z
     .exact c0 z
  .exact Ru _ z
 unfold DL.zaf;cases ef:bI f ns with
 |some j=>
  have hj:j<ds.length:=by have:=GW ef;have l2:=rd.length;lia
  obtain⟨v1,B1,b1,b2,b3,b4,b5⟩:=rd.swap nC (RH hj);obtain⟨C',c1,c2,c3⟩:=b5 _ _ y w _ S1 ry nB (λb hb=>.inr λz=>alA b (Zq b z).1 (fr b hb)) (λq hq _=>kC q hq);have X7:=λb hb=>(c3 b hb).imp id λz=>z.1;obtain⟨A2,d1,d2⟩:=fin _ _ _ _ _ kp (by rw[u2,Dm ef hl]) (by rw[UP];assumption) c2 (λz=>(X7 p z).elim (λz=>hpn p (fr p z) rfl) pC) (λb hb=>(X7 b hb).elim (λz=>.inr (.inr (fr b z))) .inl) (Wf.mono (sub _ X7) c1 λ_ _ _ w=>w);exact⟨A2,d1,gr _ d2⟩
 |none=>have c1:Wf K (aj (Bn++(A++F)) H2) H2 (ds++[y]) (vs++[w]) (C0++Bn):=Wf.snoc ry (Wf.mono S1 rd kC);have X7:∀b∈C0++Bn,b∈Bn\/b∈C0:=λb hb=>(Ry.mp hb).elim .inr .inl;obtain⟨A2,d1,d2⟩:=fin H2 (ns++[f]) (vs++[w]) (ds++[y]) (C0++Bn) kp (by rw[u2,Dl ef hl]) (by simp[hl]) (RI.mpr ⟨nC,nB,λx hx z hz e=>by subst e;exact alA x (Zq x hx).1 (fr x hz)⟩) (λz=>(X7 p z).elim (λz=>hpn p (fr p z) rfl) pC) (λb hb=>(X7 b hb).elim (λz=>.inr (.inr (fr b z))) .inl) (Wf.mono (sub _ X7) c1 λ_ _ _ w=>w);exact⟨A2,d1,gr A2 d2⟩
section
variable {X:Cx}{F:Ql ZE}{a b c o:ZG}{es:Ql ZG}{fa:DE}{C:ZE}{f m:Str}
def oG(t:Th)(i:Nat)(C:ZE)(f:Str)(r:Ev):Qo Out:=match t[i]?,lD r with
 |some (.dp (.obj C' ns ds)),Qs y=>if C'=C/\ns.length<900 then Qs (.nx (t.set i (.dp (DL.zaf C ns ds f y)))) else Qn
 |_,_=>Qn
def gh(i:Nat)(C:ZE)(f:Str)(fe:DE):DS:=λt=>(fe t).bind (oG t i C f)
def BS{ns:Ql Str}{vs:Ql V}(h:ns.length<900):(ns.zip vs).length<1000:=by rw[UR];lia
end
def xg{α:Type}{xs:Ql α}{x:α}(h:xs[j]?=Qs x):xs.set j x=xs:=by
 apply Us;intro k;by_cases z:j=k
 .subst z;rw[Ts ((RZ.mp h).1),h]
 .rw[Ss z]
inductive zmk(K:Rv)(F A:List ZE)(H:Hp)(t:Th)(σ:L2.St)(i j:Nat)(C:ZE)(ns:List Str)(ds es:List D)(f:Str):Prop
 |mk (p dx vs q ws:_) (_:σ[i]?=Qs (Qs (.ref p))) (_:H p=Qs (.ins C dx (ns.zip vs))) (_:(ns.zip vs).lookup f=Qs (.ref q)) (_:H q=Qs (.lst ws)) (_:VQ K (aj (A++F) H) es ws) (_:ns.length=vs.length) (_:vs[j]?=Qs (.ref q)) (_:(∃C0,Wf K (aj (A++F) H) H ds vs C0/\C0.Nodup)) (_:∀H1 Xf Yq,VJ H H1->Wv Xf=Qt->VQ K (aj (A++F) H1) Xf Yq->∃A2,RS K F (L2.upd H1 q (.lst Yq)) A2 (t.set i (.dp (.obj C ns (ds.set j (.lst Xf))))) σ/\Gr A H A2 (L2.upd H1 q (.lst Yq)))
def RS.zgH (R:RS K F H A t σ)(e:t[i]?=Qs (.dp (.obj C ns ds)))(ef:bI f ns=Qs j)(ed:ds[j]?=Qs (.lst es))(fl:Wv es=Qt):zmk K F A H t σ i j C ns ds es f:=by
 obtain⟨p,dx,vs,C0,a1,hp,hl,pA,pC,_,nC,Zq,rd,fin⟩:=RS.zeC (Z:=[]) R (λz hz=>nomatch hz) e;obtain⟨v1,B1,b1,b2,b3,b4,b5⟩:=rd.swap nC ed;cases b2 with
 |flat f' r=>simp[flat]at f'
 |@lst _ q ws Bq hq rq=>
  obtain⟨rs,eB⟩:=Wf.fl rq fl;subst eB;have qC:q∈C0:=b3 q (Rz ..);have qA:q∈A:=(Zq q qC).1;have qp:p≠q:=λz=>pC (z▸qC);refine⟨p,dx,vs,q,ws,a1,hp,ox ef b1,hq,rs,hl,b1,⟨C0,rd,nC⟩,λH1 Xf Yq gs fl' rs'=>?_⟩;generalize YX:L2.upd H1 q (.lst Yq)=H2;have u1:∀b,b≠q->H2 b=H1 b:=λb n=>by rw[<-YX];exact aY n
  have u2:H2 q=Qs (.lst Yq):=by rw[<-YX];exact bK
  have S1:VJ (aj (A++F) H) (aj (A++F) H2):=λb o h=>by obtain⟨n,h⟩:=cN h;exact bH (by rw[u1 b λz=>n (z▸Rw _ qA)];exact gs b o h) n
  have S2:VJ (aj (A++F) H1) (aj (A++F) H2):=λb o h=>by obtain⟨n,h⟩:=cN h;exact bH (by rw[u1 b λz=>n (z▸Rw _ qA)];assumption) n
  obtain⟨C',c1,c2,c3⟩:=b5 _ H2 (.lst Xf) (.ref q) [q] S1 (.lst u2 (Wf.za7 fl' (VQ.mono S2 rs'))) (by assumption) (λb hb=>.inl (by lia)) (λb hb n o h=>by rw[u1 b λz=>n (by rw[z];simp)];exact gs b o h);rw[xg b1]at c1;have X7:∀b∈C',b∈C0:=λb hb=>by
   rcases c3 b hb with z|z
   .rw[RG.mp z];assumption
   .exact z.1
  have sub:VJ (aj (A++F) H2) (aj ((p::(C0++C'))++(A++([]++F))) H2):=bE H2 λb hb=>by
   rcases Ry.mp hb with z|z
   .refine Rw _ ?_;rcases RB.mp z with z|z
    .rw[z];assumption
    .rcases Ry.mp z with z|z
     .exact(Zq b z).1
     .exact(Zq b (X7 b z)).1
   .assumption
  obtain⟨A2,d1,d2⟩:=fin H2 ns vs (ds.set j (.lst Xf)) C' (λb o n nC' _ h=>by rw[u1 b λz=>nC' (z▸qC)];exact gs b o h) (by rw[u1 p qp];exact gs p _ hp) hl c2 (λz=>pC (X7 p z)) (λb hb=>.inl (X7 b hb)) (Wf.mono sub c1 λ_ _ _ w=>w);refine⟨A2,d1,λb o n h=>by rw[u1 b λz=>n (z▸qA)];exact gs b o h,λb hb=>?_,λb hb=>?_⟩
  .by_cases z:b=q
   .lia
   .obtain⟨o,w⟩:=R.mu b (Rw _ hb);rw[u1 b z,gs b _ w];simp
  .simp_all
inductive zml(K:Rv)(F A:List ZE)(H:Hp)(t:Th)(σ:L2.St)(i j:Nat)(C:ZE)(ns:List Str)(ds es:List D)(f:Str):Prop
 |mk (p dx vs q ws:_) (_:σ[i]?=Qs (Qs (.ref p))) (_:H p=Qs (.ins C dx (ns.zip vs))) (_:(ns.zip vs).lookup f=Qs (.ref q)) (_:H q=Qs (.lst ws)) (_:VQ K (aj (A++F) H) es ws) (_:∀H1 Xf Yq,VJ H H1->Wv Xf=Qt->VQ K (aj (A++F) H1) Xf Yq->∃A2,RS K F (L2.upd H1 q (.lst Yq)) A2 (t.set i (.dp (.obj C ns (ds.set j (.lst Xf))))) σ/\Gr A H A2 (L2.upd H1 q (.lst Yq)))
def RS.zeD (R:RS K F H A t σ)(e:t[i]?=Qs (.dp (.obj C ns ds)))(ef:bI f ns=Qs j)(ed:ds[j]?=Qs (.lst es))(fl:Wv es=Qt):zml K F A H t σ i j C ns ds es f:=by obtain⟨p,dx,vs,q,ws,a1,a2,a3,a4,a5,_,_,_,a6⟩:=R.zgH e ef ed fl;exact⟨p,dx,vs,q,ws,a1,a2,a3,a4,a5,a6⟩
section
variable {X:Cx}{F:Ql ZE}{a b c o:ZG}{es:Ql ZG}{fa:DE}{C:ZE}{f m:Str}
def lu(t:Th)(i:Nat)(C:ZE)(f:Str)(k:Ql D->Qo (Ql D)):Qo Out:=match t[i]? with
 |some (.dp (.obj C' ns ds))=>if C'=C then(bI f ns).bind λj=>match ds[j]? with
  |some (.lst es)=>if Wv es then(k es).bind λXf=>if Wv Xf then Qs (.nx (t.set i (.dp (.obj C ns (ds.set j (.lst Xf)))))) else Qn else Qn
  |_=>Qn else Qn
 |_=>Qn
def uN{o:Out}(e:lu t i C f k=Qs o):∃ns ds j es Xf,t[i]?=Qs (.dp (.obj C ns ds))/\bI f ns=Qs j/\ds[j]?=Qs (.lst es)/\Wv es=Qt/\k es=Qs Xf/\Wv Xf=Qt/\o=.nx (t.set i (.dp (.obj C ns (ds.set j (.lst Xf))))):=by
 unfold lu at e;split at e
 case h_2=>cases e
 rename_i C' ns ds z1;replace e:=Xz e;obtain⟨ec,e⟩:=e;subst ec;rcases e1:bI f _ with _|j
 .rw[e1]at e;cases e
 rw[e1]at e;simp at e;split at e
 case h_2=>cases e
 rename_i es z2;replace e:=Xz e;obtain⟨fl,e⟩:=e;rcases e2:k _ with _|Xf
 .rw[e2]at e;cases e
 rw[e2]at e;simp only[RF]at e;split at e
 case isFalse=>cases e
 rename_i fl';cases e;exact⟨ns,ds,j,es,Xf,z1,e1,z2,fl,e2,fl',rfl⟩
def FA(r k:Ev)(es:Ql D):Qo (Ql D):=match k.d with
 |.int n=>if flat r.d then(XD es.length n).map λl=>es.set l r.d else Qn
 |_=>Qn
def oV(i:Nat)(C:ZE)(f:Str)(fk fe:DE):DS:=λt=>(fe t).bind λr=>(fk t).bind λk=>lu t i C f (FA r k)
def FC(g:Int->Int->Int)(k r:Ev)(es:Ql D):Qo (Ql D):=match k.d,r.d with
 |.int n,.int m=>(XD es.length n).bind λl=>match es[l]? with
  |some (.int v)=>Qs (es.set l (.int (g v m)))
  |_=>Qn
 |_,_=>Qn
def kB(g:Int->Int->Int)(i:Nat)(C:ZE)(f:Str)(fk fe:DE):DS:=λt=>(fk t).bind λk=>(fe t).bind λr=>lu t i C f (FC g k r)
def zH(r:Ev)(es:Ql D):Qo (Ql D):=if flat r.d&&decide (es.length<100000) then Qs (es++[r.d]) else Qn
def mW(i:Nat)(C:ZE)(f:Str)(fe:DE):DS:=λt=>(fe t).bind λr=>lu t i C f (zH r)
def zG(t:Th)(i:Nat)(C:ZE)(f:Str)(r:Ev):Qo Out:=match t[i]?,r.d with
 |some (.dp (.obj C' ns ds)),.int m=>if C'=C/\ns.length<900/\m.natAbs<=1000 then(bI f ns).bind λj=>match ds[j]? with
  |some (.int v)=>Qs (.nx (t.set i (.dp (DL.zaf C ns ds f (.int (v*m))))))
  |_=>Qn else Qn
 |_,_=>Qn
def vI(i:Nat)(C:ZE)(f:Str)(fe:DE):DS:=λt=>(fe t).bind (zG t i C f)
def O4:Im X .Mult (λx y H Q=>∃i j:Int,x=.int i/\y=.int j/\j.natAbs<=1000/\Q (.int (i*j)) H):=by rintro pins s σ H x y u v Q I rx ry ⟨i,j,rfl,rfl,hj,q⟩;refine OZ _ s σ H _ _ u v Q I rx ry ⟨i,j,rfl,rfl,.inr ⟨?_,?_⟩,q⟩<;>lia
end
section
variable {X:Cx}{F:Ql ZE}{I:Ql Nat}{a b c o:ZG}{es:Ql ZG}{fa:DE}{g:DS}{C:ZE}{f m:Str}
def iE(i:Nat){p0:Pos}(c:Xb X.K C)(n:Wx X.K C f)(he:PE X a (dE X.K F fa))(hN:X.N[i]?=Qs x:=by rfl)(hv:autoParam (dD X.env.scope x) qzA._auto_1)(hd:Xg x:=by decide) (W3:X4 x:=by decide) (hs:swapsWith a (Qs (.Attribute (.Name x p0) f pos')) pos.line X.env=pure Qf:=by rfl):PS X (.Assign [.Attribute (.Name x p0) f pos'] a pos) (dP X.K F I (gh i C f fa)):=by
 refine PS.imp (Ls (dU hN hv hd W3) he hs) ?_;rintro E σ H ⟨A,t,t2,R,e,h⟩;refine aA e λr e1 e=>?_;unfold oG at e;split at e
 case h_2=>cases e
 rename_i C' ns ds y z1 z2;refine cH e λok e=>?_;obtain⟨rfl,hl⟩:=ok;cases e;obtain⟨p,dx,vs,a1,a2,a3,_,a4⟩:=R.zaf z1;refine⟨A,t,r,R,e1,λw H1 gs q=>⟨_,a1,p,C',dx,_,rfl,gs _ _ a2,c,n,BS hl,?_⟩⟩;obtain⟨Bn,b1,b2,b3⟩:=q.owned R.mu gs z2;obtain⟨A2,c1,c2⟩:=a4 f _ y w _ gs b1 b2 b3;exact h _ _ _ c2 c1 λ_ _=>rfl
def LD(i:Nat){p0 p1:Pos}(c:Xb X.K C)(n:Wx X.K C f)(hb:PE X b (dE X.K F fb))(he:PE X a (dE X.K F fa))(hN:X.N[i]?=Qs x:=by rfl)(hv:autoParam (dD X.env.scope x) qzA._auto_1)(hd:Xg x:=by decide) (W3:X4 x:=by decide) (hab:attributeBase (.Name x p0) f X.env (eval (.Name x p0) X.env)=eval (.Name x p0) X.env:=by rfl) (ha:∀v,assign (.Subscript (.Attribute (.Name x p0) f p1) b X9) X.env v=(do
   let ov<-holding [v] (eval (.Attribute (.Name x p0) f p1) X.env)
   let iv<-holding [v,ov] (eval b X.env)
   standAt X9
   holding [v,ov,iv] (setItem ov iv v)
   release [v,ov,iv] []):=by intro _;rfl) (hs:swapsWithSole [.Subscript (.Attribute (.Name x p0) f p1) b X9] a pos.line X.env=pure Qf:=by rfl) (hw:swappedStores [.Subscript (.Attribute (.Name x p0) f p1) b X9] a X.env=pure Qn:=by rfl) (h1:(assignEach [.Subscript (.Attribute (.Name x p0) f p1) b X9] X.env).map (·.2)=[assign (.Subscript (.Attribute (.Name x p0) f p1) b X9) X.env]:=by rfl):PS X (.Assign [.Subscript (.Attribute (.Name x p0) f p1) b X9] a pos) (dP X.K F I (oV i C f fb fa)):=by
 refine PS.imp (tX he (yL (mh (dU hN hv hd W3) hab) hb pL ha) hs hw h1) ?_;rintro E σ H ⟨A,t,t2,R,e,h⟩;unfold oV at e;rcases e1:fa t with _|r
 .rw[e1]at e;cases e
 rcases e2:fb t with _|kk
 .rw[e1,e2]at e;cases e
 rw[e1,e2]at e;obtain⟨ns,ds,j,es,Xf,z1,z2,z3,fl,ek,fl',eo⟩:=uN e;cases eo;unfold FA at ek;split at ek
 case h_2=>cases ek
 rename_i n' zk;replace ek:=Xz ek;obtain⟨fr,ek⟩:=ek;rcases e4:XD _ _ with _|l
 .rw[e4]at ek;cases ek
 rw[e4]at ek;have ek:=by simpa using ek
 subst ek;obtain⟨p,dx,vs,q,ws,a1,a2,a3,a4,a5,a6⟩:=R.zeD z1 z2 z3 fl;refine⟨A,t,r,R,e1,λy H1 XR q1=>⟨_,a1,p,C,dx,_,_,rfl,XR _ _ a2,c,n,a3,A,t,kk,R.grow XR,e2,λw H2 Wz q2=>?_⟩⟩;have p2:=q2.full;rw[zk]at p2;cases cL p2;have gs:=XR.trans Wz;refine⟨q,ws,n',l,rfl,rfl,gs _ _ a4,by rw[a5.length];assumption,?_⟩;obtain⟨A2,c1,c2⟩:=a6 _ _ _ gs fl' (VQ.set (Rep.W2 (R.mu.mono gs) fr (q1.mono Wz).full) l (VQ.mono (cD gs) a5));exact h _ _ _ c2 c1 λ_ _=>rfl
def DF{g:Int->Int->Int}(i:Nat){p0 p1:Pos}(c:Xb X.K C)(n:Wx X.K C f)(ho:sv X op (uU g))(hb:PE X b (dE X.K F fb))(he:PE X a (dE X.K F fa))(hN:X.N[i]?=Qs x:=by rfl)(hv:autoParam (dD X.env.scope x) qzA._auto_1)(hd:Xg x:=by decide) (W3:X4 x:=by decide) (hab:attributeBase (.Name x p0) f X.env (eval (.Name x p0) X.env)=eval (.Name x p0) X.env:=by rfl) (ha:∀ov iv new,augStore b ov iv new=(do holding [new,ov,iv] (setItem ov iv new);release [new,ov,iv] [];pure .next):=by intros;rfl):PS X (.AugAssign (.Subscript (.Attribute (.Name x p0) f p1) b X9) op a pos) (dP X.K F I (kB g i C f fb fa)):=by
 refine PS.imp (yB (mh (dU hN hv hd W3) hab) hb zY he ho pL ha) ?_;rintro E σ H ⟨A,t,t2,R,e,h⟩;unfold kB at e;rcases e1:fb t with _|kk
 .rw[e1]at e;cases e
 rcases e2:fa t with _|r
 .rw[e1,e2]at e;cases e
 rw[e1,e2]at e;obtain⟨ns,ds,j,es,Xf,z1,z2,z3,fl,ek,fl',eo⟩:=uN e;cases eo;unfold FC at ek;split at ek
 case h_2=>cases ek
 rename_i n' m' zk zr;rcases e4:XD _ _ with _|l
 .rw[e4]at ek;cases ek
 rw[e4]at ek;simp at ek;split at ek
 case h_2=>cases ek
 rename_i v z4;cases ek;obtain⟨p,dx,vs,q,ws,a1,a2,a3,a4,a5,a6⟩:=R.zeD z1 z2 z3 fl;obtain⟨v0,b1,b2⟩:=a5.get z4;cases cL b2;refine⟨_,a1,p,C,dx,_,_,rfl,a2,c,n,a3,A,t,kk,R,e1,λw H1 XR q1=>?_⟩;have p1:=q1.full;rw[zk]at p1;cases cL p1;refine⟨q,ws,n',_,rfl,rfl,V5.of (XR _ _ a4),(by unfold L2.W7;rw[a5.length,e4];assumption),A,t,r,R.grow XR,e2,λy H2 Wz q2=>?_⟩;have p2:=q2.full;rw[zr]at p2;cases cL p2;have gs:=XR.trans Wz;refine⟨v,m',rfl,rfl,q,ws,n',l,rfl,rfl,gs _ _ a4,by rw[a5.length];assumption,?_⟩;obtain⟨A2,c1,c2⟩:=a6 _ _ _ gs fl' (VQ.set (.int _) l (VQ.mono (cD gs) a5));exact h _ _ _ c2 c1 λ_ _=>rfl
def yC(i:Nat){p0 p1:Pos}(c:Xb X.K C)(n:Wx X.K C f)(he:PE X a (dE X.K F fa))(hN:X.N[i]?=Qs x:=by rfl)(hv:autoParam (dD X.env.scope x) qzA._auto_1)(hd:Xg x:=by decide) (W3:X4 x:=by decide) (hab:attributeBase (.Name x p0) f X.env (eval (.Name x p0) X.env)=eval (.Name x p0) X.env:=by rfl) (WY:RM [a] X.env=[(Qf,eval a X.env)]:=by rfl) (zaq:attributeBase (.Attribute (.Name x p0) f p1) "append" X.env (eval (.Attribute (.Name x p0) f p1) X.env)=eval (.Attribute (.Name x p0) f p1) X.env:=by rfl) (zao:((TV W5 (RM [a] X.env)).all (λx=>!x.1)&&(backToKw W5 (keywordEach [] X.env)).all (λx=>x.1.isSome)
   && decide ([a].length+([]:Ql Vz).length+(if([]:Ql Vz).isEmpty then 0 else 1)<30))=Qt:=by rfl) (zam:(apos.endLine==W5.line)=Qt:=by rfl) (zaJ:(TV W5 (RM [] X.env)).any (·.1)=Qf:=by rfl) (X8:swapsWith (.Call (.Attribute (.Attribute (.Name x p0) f p1) "append" apos) [a] [] W5) Qn pos.line X.env=pure Qf:=by rfl):PS X (.Expr (.Call (.Attribute (.Attribute (.Name x p0) f p1) "append" apos) [a] [] W5) pos) (dP X.K F I (mW i C f fa)):=by
 refine PS.imp (n6 (ue TN Ti TH pX (mh (dU (i:=i) hN hv hd W3) hab) (fG he gx WY) zaq zao zam WY zaJ) X8) ?_;rintro E σ H ⟨A,t,t2,R,e,h⟩;unfold mW at e;refine aA e λr e1 e=>?_;replace e:lu t i C f (zH r)=Qs (.nx t2):=e;obtain⟨ns,ds,j,es,Xf,z1,z2,z3,fl,ek,fl',eo⟩:=uN e;cases eo;unfold zH at ek;refine cH ek λok ek=>?_;simp only[RJ,XT]at ok;cases ek;obtain⟨p,dx,vs,q,ws,a1,a2,a3,a4,a5,a6⟩:=R.zeD z1 z2 z3 fl;refine⟨_,a1,p,C,dx,_,_,rfl,a2,c,n,a3,.inl ⟨rfl,ws,V5.of a4⟩,A,t,r,R,e1,λy H1 gs qy=>⟨q,ws,y,rfl,rfl,gs _ _ a4,?_,?_⟩⟩
 .have:ws.length<100000:=by rw[a5.length];exact ok.2
  exact RO this (by decide)
 .obtain⟨A2,c1,c2⟩:=a6 _ _ _ gs fl' ((VQ.mono (cD gs) a5).app (VQ.one (Rep.W2 (R.mu.mono gs) ok.1 qy.full)));exact h _ _ _ c2 c1 λ_ _=>rfl
def LI(i:Nat){p0:Pos}(c:Xb X.K C)(n:Wx X.K C f)(he:PE X a (dE X.K F fa))(hN:X.N[i]?=Qs x:=by rfl)(hv:autoParam (dD X.env.scope x) qzA._auto_1)(hd:Xg x:=by decide) (W3:X4 x:=by decide):PS X (.AugAssign (.Attribute (.Name x p0) f X9) .Mult a pos) (dP X.K F I (vI i C f fa)):=by
 refine PS.imp (Lr (dU hN hv hd W3) he O4) ?_;rintro E σ H ⟨A,t,t2,R,e,h⟩;unfold vI at e;rcases e1:fa t with _|r
 .rw[e1]at e;cases e
 rw[e1]at e;replace e:zG t i C f r=Qs _:=e;unfold zG at e;split at e
 case h_2=>cases e
 rename_i C' ns ds m z1 z2;replace e:=Xz e;obtain⟨ok,e⟩:=e;obtain⟨rfl,hl,hm⟩:=ok;rcases e2:bI f _ with _|j
 .rw[e2]at e;cases e
 rw[e2]at e;simp at e;split at e
 case h_2=>cases e
 rename_i v z3;cases e;obtain⟨p,dx,vs,a1,a2,a3,a5,a4⟩:=R.zaf z1;obtain⟨v0,b1,b2⟩:=a5.get z3;cases cL b2;refine⟨_,a1,p,C',dx,_,_,rfl,a2,c,n,ox e2 b1,A,t,r,R,e1,λy H1 gs q=>?_⟩;have p1:=q.full;rw[z2]at p1;cases cL p1;obtain⟨A2,c1,c2⟩:=a4 f _ _ _ _ gs Sv (λb hb=>nomatch hb) (.flat rfl (.int _));exact⟨v,m,rfl,rfl,hm,dx,_,gs _ _ a2,BS hl,h _ _ _ c2 c1 λ_ _=>rfl⟩
end
noncomputable def uk:Out->Qo D
 |.nx t=>match t[0]? with
  |some (Sl.dp d)=>Qs d
  |_=>Qn
 |_=>Qn
def CB(N:Ql Str)(d:D)(ds:Ql D):Th:=.dp d::(ds.map Sl.val++RT (N.length-1-ds.length) Sl.no)
def mn(k:Nat)(N:Ql Str)(g:DS):Ql D->Qo D:=λds=>match ds with
 |d::ds=>if ds.length+1=k then(g (CB N d ds)).bind uk else Qn
 |[]=>Qn
inductive spO(K:Rv)(G:List D->Option D)(vs:List V)(H:Hp)(Q:VK)(x_:XK):Prop
 |mk (Fo:List ZE) (B:List ZE) (p:ZE) (d:D) (d2:D) (ds:List D) (XO:List V) (_:vs=.ref p::XO) (_:WM H (B++Fo)) (_:B.Nodup) (_:(∀b∈B,b∉Fo)) (_:Wn K (aj (B++Fo) H) H d (.ref p) B) (_:VQ K (aj (B++Fo) H) ds XO) (_:G (d::ds)=Qs d2) (_:∀H' B2,Gr B H B2 H'->B2.Nodup->(∀b∈B2,b∉Fo)->Wn K (aj (B2++Fo) H') H' d2 (.ref p) B2->Q .Wj H')
def Pz{st:ZH}(Fn:L2.Wy K x qual st f fd)(S:WJ N ps (aN st))(hm:ps.length=m)(g:DS) (ZM:∀(Wu:R8) (A:Ua) (outer:Ql Env) (s:R7) (H:Hp) (E:XK) (F:Ql ZE),Xa k (A.deeper (envOfC qual (aN st) s.heap.objs.size f Wu))->WH (iT dk P w K mg base N qual (aN st) f Wu A outer s H E).ZI (eE st) (dP K F [0] g)):XC P w K mg base dk (k+1) f fd ps (spO K (mn m N g)):=by
 refine Fn.ok S (λvs H Q E h=>?_) (λWu A outer s H vs Q E hr h=>?_)
 .obtain⟨Fo,B,p,d,d2,ds,XO,rfl,_,_,_,_,h2,hg,_⟩:=h;refine cH hg λhl hg=>?_;rw[Su,h2.length,hm];assumption
 .obtain⟨Fo,B,p,d,d2,ds,XO,rfl,hl,nd,dj,rd,h2,hg,cont⟩:=h;simp only[mn]at hg;replace hg:=Xz hg;obtain⟨_,hg⟩:=hg;refine aA hg λo ho hg=>?_;cases o with
  |bk t'=>cases hg
  |ct t'=>cases hg
  |rt r'=>cases hg
  |nx t'=>
   simp only[uk]at hg;split at hg
   case h_2=>cases hg
   rename_i d0 z;cases hg;refine⟨_,ZM _ A _ s H E _ hr,B,_,t',(by
    refine⟨hl,nd,dj,?_⟩;unfold CB L2.start;simp only[RK,TC,Su,h2.length];have e:N.length-1-ds.length=N.length-(ds.length+1):=by lia
    rw[e];have:=We.dp rd (We.start (We.zc9 (N.length-(ds.length+1))) h2);rw[(SE B)]at this;assumption),ho,λσ' H' A' g' R' n'=>?_⟩
   obtain⟨v,B2,A2,a1,_,nb,_,rd2,_,YL⟩:=R'.zcR z;have e0:=n' 0 (RG.mpr rfl);have es:(L2.start N (.ref p::XO))[0]?=Qs _:=rfl;rw[a1]at e0;cases e0;refine cont _ _ ⟨g'.kp,g'.al,λb hb=>g'.nw b (YL b hb)⟩ nb (λb hb=>R'.dj b (YL b hb)) (Wn.mono (bE _ λb hb=>?_) rd2 λ_ _ _ w=>w)
   grind
structure zcO(P:Te)(w:UX)(K:Rv)(mg:Str->Option R8)(base:Yp)(C:ZE)(m:Str)(k:Nat)(G:List D->Option D):Prop where
 ex:∃(f:ZE) (fd:Ud) (ps:List Str),Meth K C m f/\L2.Binds K fd ps []/\XC P w K mg base dk k f fd ps (spO K G)
structure zhs(P:Te)(w:UX)(K:Rv)(mg:Str->Option R8)(base:Yp)(x:Str)(C:ZE)(k:Nat)(G:List D->Option D):Prop where
 ex:∃(f:ZE) (fd:Ud) (ps:List Str),mg x=Qs (.ref C)/\Mk K C f/\L2.Binds K fd ps []/\XC P w K mg base dk k f fd ps (spO K G)
section
variable {X:Cx}{F:Ql ZE}{I:Ql Nat}{a b c o:ZG}{es:Ql ZG}{fa:DE}{g:DS}{C:ZE}{f m:Str}
def oF(t:Th)(i:Nat)(C:ZE)(m:Str)(G:Ql D->Qo D)(rs:Ql Ev):Qo Out:=match t[i]? with
 |some (.dp (.obj C' ns ds))=>if C'=C/\bI m ns=Qn/\Wv (rs.map Ev.d)=Qt then(G (.obj C ns ds::rs.map Ev.d)).map λd2=>.nx (t.set i (.dp d2)) else Qn
 |_=>Qn
def jK(i:Nat)(C:ZE)(m:Str)(G:Ql D->Qo D)(ga:DA):DS:=λt=>(ga t).bind (oF t i C m G)
def Ew{E:Ends}(R:RS X.K F H A t σ)(e:jK i C m G ga t=Qs (.nx t2))(h:∀H' A',Gr A H A' H'->RS X.K F H' A' t2 σ->E.nx σ H'):sU C m (spO X.K G) [] E' (λσ H Q=>∃v,σ[i]?=Qs (Qs v)/\Q v H) (dA X.K F ga) σ H λ_ H'=>E.nx σ H':=by
 unfold jK at e;rcases e1:ga t with _|rs
 .rw[e1]at e;cases e
 rw[e1]at e;replace e:oF t i C m G rs=Qs (.nx t2):=e;unfold oF at e;split at e
 case h_2=>cases e
 rename_i C' ns ds z;replace e:=Xz e;obtain⟨ok,e⟩:=e;obtain⟨rfl,hm,fl⟩:=ok;rcases e2:G (.obj C' ns ds::rs.map Ev.d) with _|d2
 .rw[e2]at e;cases e
 rw[e2]at e;cases e;obtain⟨v,B,A',a1,nb,YL,sub,dj,rdA,rd0,fin⟩:=RS.ze0 (Z:=[]) R (λz hz=>nomatch hz) z;have perm:∀Q H',VJ (aj (A'++(Q++F)) H') (aj (Q++(A'++F)) _):=λQ H'=>bE _ λb hb=>by simp at hb ⊢;lia
 have zix:∀Q H',VJ (aj (Q++(A'++F)) H') (aj (A'++(Q++F)) _):=λQ H'=>bE _ λb hb=>by simp at hb ⊢;lia
 cases rd0 with
 |flat f' r=>simp[flat]at f'
 |@obj _ dx _ _ p vs C0 l hp r=>
  refine⟨_,a1,p,dx,_,rfl,hp,zl hm,A,t,rs,R,e1,λus H2 gs q=>?_⟩;have mA:=λb hb=>R.mu.mono gs b (by
   rcases Ry.mp hb with w|w
   .exact Rw _ (YL b w)
   .rcases Ry.mp w with w|w
    .exact Rw _ (sub b w)
    .exact Ru _ w)
  refine⟨_,_,p,_,d2,_,_,rfl,mA,nb,dj,Wn.mono ((perm _ H).trans (cD gs)) rdA λb _ o w=>gs b o w,?_,e2,λH' B2 gr nb2 dj2 rd2=>?_⟩
  .rw[SE];exact VQ.W2 mA fl q.full
  .have kp:=λb o n w=>gr.kp b o n (gs b o w);have nw:∀b∈B2,b∈p::C0\/b∈([])\/H b=Qn:=λb hb=>(gr.nw b hb).imp id λw=>.inr (VJ.free gs w);obtain⟨A2,c1,c2⟩:=fin H' d2 B2 (λb o n _ w=>kp b o n w) nb2 nw (Wn.mono (zix _ H') rd2 λ_ _ _ w=>w);refine h H' A2 ⟨λb o n w=>kp b o (λz=>n (YL b z)) w,λb hb=>?_,λb hb=>?_⟩ c1
   .by_cases w:b∈p::C0
    .exact gr.al b w
    .obtain⟨o,u⟩:=R.mu b (Rw _ hb);rw[kp b _ w u];simp
   .simp_all
def DD{pl:Sem Bool}{p0:Pos}(i:Nat)(cl:Xb X.K C)(cm:zcO X.prog X.w X.K X.mg X.base C m k G)(hr:Xa k X.A)(ha:PA X (a::es) (dA X.K F ga))(hN:X.N[i]?=Qs x:=by rfl)(hv:autoParam (dD X.env.scope x) qzA._auto_1)(hd:Xg x:=by decide) (W3:X4 x:=by decide) (WY:RM (a::es) X.env=(Qf,eval a X.env)::RM es X.env:=by rfl) (XX:(TV W5 (RM es X.env)).any (·.1)=Qf:=by rfl) (ht:eval (.Call (.Attribute (.Name x p0) m apos) (a::es) [] W5) X.env=(do
   let ov<-eval (.Name x p0) X.env
   standAt apos.atName
   let (f,first)<-holding [ov] (getMethod ov m pl)
   callWith W5 f first (TV W5 (RM (a::es) X.env)) (backToKw W5 (keywordEach [] X.env))):=by rfl) (X8:swapsWith (.Call (.Attribute (.Name x p0) m apos) (a::es) [] W5) Qn pos.line X.env=pure Qf:=by rfl):PS X (.Expr (.Call (.Attribute (.Name x p0) m apos) (a::es) [] W5) pos) (dP X.K F I (jK i C m G ga)):=by obtain⟨f,fd,ps,h1,h2,h3⟩:=cm.ex;refine PS.imp (n6 (DY (dU hN hv hd W3) cl h1 h3 hr h2 .nil mi ha WY XX ht) X8) ?_;rintro E σ H ⟨A,t,t2,R,e,h⟩;exact Ew R e λH' A' gr R'=>h σ _ _ gr R' λ_ _=>rfl
def LB{pl:Sem Bool}{p0:Pos}(i:Nat)(cl:Xb X.K C)(cm:zcO X.prog X.w X.K X.mg X.base C m k G)(hr:Xa k X.A)(hN:X.N[i]?=Qs x:=by rfl)(hv:autoParam (dD X.env.scope x) qzA._auto_1)(hd:Xg x:=by decide) (W3:X4 x:=by decide) (ht:eval (.Call (.Attribute (.Name x p0) m apos) [] [] W5) X.env=(do
   let ov<-eval (.Name x p0) X.env
   standAt apos.atName
   let (f,first)<-holding [ov] (getMethod ov m pl)
   callWith W5 f first (TV W5 (RM [] X.env)) (backToKw W5 (keywordEach [] X.env))):=by rfl) (X8:swapsWith (.Call (.Attribute (.Name x p0) m apos) [] [] W5) Qn pos.line X.env=pure Qf:=by rfl):PS X (.Expr (.Call (.Attribute (.Name x p0) m apos) [] [] W5) pos) (dP X.K F I (jK i C m G aq)):=by obtain⟨f,fd,ps,h1,h2,h3⟩:=cm.ex;refine PS.imp (n6 (DX (dU hN hv hd W3) cl h1 h3 hr h2 .nil mi ht) X8) ?_;rintro E σ H ⟨A,t,t2,R,e,h⟩;obtain⟨v,a1,p,dx,fs,e1,e2,e3,A2,t3,rs,R2,e4,h4⟩:=Ew (E':=E0) R e λH' A' gr R'=>h σ _ _ gr R' λ_ _=>rfl;cases e4;exact⟨v,a1,p,dx,fs,e1,e2,e3,h4 _ H (VJ.refl H) .nil⟩
def yu{st:ZH}(hx:lL g)(h:PS X st (dP X.K F [] g)):PS X st (dS X.K F g):=by refine PS.imp h ?_;rintro E σ H ⟨A,t,o,R,e,k⟩;obtain⟨t2,rfl⟩:=hx t o e;exact⟨A,t,t2,R,e,λσ' H' A' gr R' _=>k _ _ _ gr R'⟩
def yY:lL (jK i C m G ga):=λt o e=>by
 refine aA e λrs e1 e=>?_;unfold oF at e;split at e
 case h_2=>cases e
 split at e
 case isFalse=>cases e
 rename_i C' ns ds z ok;cases e2:G _ with
 |none=>rw[e2]at e;cases e
 |some d2=>rw[e2]at e;cases e;lia
def qD(C:ZE)(G:Ql D->Qo D):Ql Ev->Qo Ev:=λrs=>if rs.all Ev.ok then(G (.obj C [] []::rs.map Ev.d)).map Ev.dn else Qn
def L4{q:Pos}(cn:zhs X.prog X.w X.K X.mg X.base x C k G)(hr:Xa (k+1) X.A)(ha:PA X (a::es) (dA X.K F ga))(hg:Gl X x:=by rfl)(Yv:Xg x:=by decide) (he:RM (a::es) X.env=(Qf,eval a X.env)::RM es X.env:=by rfl) (XX:(TV pos (RM es X.env)).any (·.1)=Qf:=by rfl):PE X (.Call (.Name x q) (a::es) [] pos) (dE X.K F (ag (qD C G) ga)):=by
 obtain⟨f,fd,ps,h1,h2,h3,h4⟩:=cn.ex;refine PE.imp (Me h2 h4 hr hg h1 h3 .nil (E:=E0) mi ha Yv he XX) ?_;rintro σ H Q ⟨A,t,r,R,e,h⟩;unfold ag at e;rcases e1:ga t with _|rs
 .rw[e1]at e;cases e
 rw[e1]at e;replace e:qD C G _=Qs r:=e;unfold qD at e;replace e:=Xz e;obtain⟨ok,e⟩:=e;rcases e2:G (.obj C [] []::rs.map Ev.d) with _|d2
 .rw[e2]at e;cases e
 rw[e2]at e;cases e;refine⟨A,t,rs,R,e1,λvs H1 gs q x dx hx hdx ne=>?_⟩;generalize YX:L2.upd _ x _=H2;have u0:H2 x=Qs (.ins C dx []):=by rw[<-YX];exact bK
 have u1:∀b,b≠x->b≠dx->H2 b=H1 b:=λb n n2=>by rw[<-YX,aY n,aY n2]
 have Wz:VJ H1 H2:=λb o w=>by rw[u1 b (λz=>by lia) (λz=>by lia)];assumption
 have g12:=gs.trans Wz;have m1:=R.mu.mono gs;have nx:=eP m1 hx;have hx0:=VJ.free gs hx;have nA:VJ (aj (A++F) _) (aj ([x]++(A++F)) _):=λb o w=>by
  obtain⟨n,w⟩:=cN w;refine bH (Wz b o w) λz=>?_
  simp_all
 refine⟨_,[x],x,_,d2,_,_,rfl,(λb hb=>by
  rcases Ry.mp hb with w|w
  .rw[RG.mp w];exact⟨mI C _ _,u0⟩
  .exact m1.mono Wz b w),(by simp),λb hb=>by rw[RG.mp hb];assumption,.obj rfl u0 .nil,by rw[SE];exact VQ.mono nA (q.clean R.mu gs ok),e2,λH' B2 gr nb2 dj2 rd2=>⟨rfl,?_⟩⟩
 refine h _ _ (λb o w=>gr.kp b o (λz=>by simp_all) (g12 b o w)) ⟨B2,nb2,λb hb=>?_,rd2⟩;rcases gr.nw b hb with w|w
 .rw[RG.mp w];assumption
 .exact VJ.free g12 w
end
end DL
namespace L2
open PySem.Spec TS
def Il(d:ZE)(o:Obj)(ks:Ql Int):It:=⟨λi H=>(∃u,H d=Qs (.XS o u))/\i<ks.length,λi H x H'=>H'=H/\∃b,ks[i]?=Qs b/\x=.int b,λi H=>(∃u,H d=Qs (.XS o u))/\ks.length=i⟩
def I0 (d it:ZE)(ex:o.ExactDict)(dd:o.data=.dict es ep)(hsz:es.size=ks.length)(hk:∀(i:Nat) (h:i<es.size) (h':i<ks.length),∃t,es[i].key=.int ks[i] t):Turn P w K tg (Il d o ks) [it] it (λi h=>h.IsKeyIter it d i es.size ep) where
 mem:=by simp
 obj:=λi h st b hb=>by
  have e:=by simpa using hb
  subst e;obtain⟨o,e,c,d⟩:=st
  simp_all
 keep:=λi h h' st k=>Heap.IsKeyIter.at st λo e=>k _ (by simp) o e
 item:=by intro X hP hw hK hc i pins s σ H E I hf st hg;obtain⟨⟨u,hd⟩,hi⟩:=hg;obtain⟨f0,f1,f2,f3,f4,f5⟩:=hf it (by simp);refine KG st ⟨o,((show Yc X.prog X.w H s.heap d (.XS o u) from I.Wk d _ hd).1),ex,dd⟩ (by lia) λh' Yx sb=>?_;obtain⟨oi,e,c,d⟩:=id Yx;obtain⟨tk,ek⟩:=hk i (by lia) hi;exact⟨_,rfl,vb e c d (rfl) ⟨_,H,(I.turned (t':=s.toks) (λb o hb e=>(sb.2 b hb).trans e) f0 f1 f3 f4 f5),by rw[ek];exact⟨tk,rfl⟩,⟨rfl,_,RH _,rfl⟩,Yx,λb hb=>(hf b hb).1⟩⟩
 done:=by
  intro X hP hw hK hc i pins s σ H E I hf st hg;obtain⟨⟨u,hd⟩,hi⟩:=hg;obtain⟨f0,f1,f2,f3,f4,f5⟩:=hf it (by simp);have ei:i=es.size:=by lia
  subst ei;exact KJ (I.ok.hd hc) st ⟨o,((show Yc X.prog X.w H s.heap d (.XS o u) from I.Wk d _ hd).1),ex,dd⟩ λh' eb=>⟨rfl,I.turned (λb o hb e=>eb b o hb e) f0 f1 f3 f4 f5⟩
 self:=λ_ _ _ _ _ st h=>wpAny_pyIter_keyiter st h
theorem FR:∀{ks:Ql Int}{vs:Ql (bQ×R8)}{es:Ql DictEntry},KV (DL.YW ks) vs->Pairs (gJ P w) es vs->es.length=ks.length/\∀(i:Nat) (h:i<es.length) (h':i<ks.length),∃t,es[i].key=.int ks[i] t
 |[],_,_,.nil,.nil=>⟨rfl,λi h=>by simp at h⟩
 |k::ks,_,_,.cons h r,.cons h1 _ r2=>by
  obtain⟨a,b⟩:=FR r r2;refine⟨by simp[a],λi hi hi'=>?_⟩;cases i with
  |zero=>rw[<-h.1,NV]at h1;have:=KA h1;assumption
  |succ i=>exact b i _ _
def Pf(tl:TE):TI:=λσ H R=>tl σ H λx H1=>∃a o ks,x=.ref a/\H1 a=Qs (.XS o (.dK (DL.YW ks)))/\R (Il a o ks) H1
def LX(hl:PE X l tl):PI X tg l (Pf tl):=by
 intro pins s σ H R I h;refine aF (hl pins s σ H _ I h) λv s1 ⟨x,H1,I1,r1,q1⟩=>?_;obtain⟨a,o,ks,e,hq,q⟩:=q1;subst e;cases r1;obtain⟨e0,_,nm,vs,kv,o',es,ep,e1,ex,d,ko,pr,_⟩:=(show Yc X.prog X.w H1 s1.heap a (.XS o (.dK (DL.YW ks))) from I1.Wk a _ hq);rw[e0]at e1;cases e1;obtain⟨sz,ky⟩:=FR kv pr;refine KC nm ⟨o,e0,ex,d⟩ ?_;refine⟨s1.heap.objs.size,[s1.heap.objs.size],_,_,H1,rfl,I1.kept (t':=s1.toks) λb o e=>RC _ e,I0 a _ (ks:=ks) ex d (by assumption) (λi h h'=>?_),⟨_,RV _ rfl,rfl,rfl⟩,λb hb=>?_,q⟩
 .simp_all
 .have e:=by simpa using hb
  subst e;exact I1.zau (RL _) (I1.Wk.fresh (RL _))
end L2
namespace DL
open PySem.Spec L2
section
variable {X:Cx}{F:Ql ZE}{a b:ZG}{fa:DE}{g:DS}{tg:ZG}{st:ZH}{I:Ql Nat}
def vG(k:D->Th->Qo Th)(f:DE)(body:DS):DS:=λt=>(f t).bind λr=>match r.d with
 |.WB ks=>bY k body (ks.map D.int) t
 |_=>Qn
def AB(f:DE):DT:=λt=>(f t).bind λr=>match r.d with
 |.WB ks=>Qs (!ks.isEmpty)
 |_=>Qn
def K7(ha:PE X a (dE X.K F fa))(he:∀whole,isTrue a X.env whole=(do let v<-whole;standAt a.pos;holding [v] (truthy v)):=by intro _;rfl):PT X a (dT X.K F (AB fa)):=by
 rintro pins s σ H Q I ⟨A,t,k,R,e,h⟩;unfold AB at e;rcases e1:fa t with _|r
 .rw[e1]at e;cases e
 rw[e1]at e;simp at e;split at e
 case h_2=>cases e
 rename_i ks z;cases e;refine isTrue_plain (aF (ha _ s σ H (λv H1=>VJ H _/\Rep _ _ _ v) I ⟨A,t,r,R,e1,λv H1 gs q=>⟨gs,z▸q.full⟩⟩) λv s1 ⟨x,H1,I1,r1,gs,rp⟩=>?_) (he _);cases rp with
 |@WB _ p o h1=>
  cases r1;obtain⟨hz,hS,vs,r,m⟩:=Ay I1.Wk (.inr ⟨o,h1⟩);have hlen:=Paired.length r;have hl:=oz;refine wpAny_truthy_dict hS m (by lia) ⟨H1,I1.tok _,?_⟩;rw[FJ r];have:(!(YW ks).isEmpty)=!ks.isEmpty:=by cases ks<;>rfl
  rw[this];exact h _ gs
theorem B6(n:Int):∀ks:Ql Int,(ie (YW ks) (Sum.inl n)).isSome=ks.contains n
 |[]=>rfl
 |k::ks=>by
  have i:=B6 n ks;unfold YW at i ⊢;simp only[RK,List.contains_cons];by_cases e:k=n
  .rw[pw (congrArg Sum.inl e)];simp[e]
  .rw[pB (λz=>e (Sum.inl.inj z)),i];lia
def qI(neg:Bool):Ev->Ev->Qo Ev:=λr1 r2=>match r2.d,r1.d with
 |.WB ks,.int n=>Qs (.cl (.bl (if neg then !ks.contains n else ks.contains n)))
 |_,_=>Qn
def Ny(hu:X.A.units+64<cLine):Xx X F (compareOp .In) (qI Qf):=by
 intro pins s σ H0 H A x y v u Q r1 r2 r I m g0 rx ry q1 q2 e hq;unfold qI at e;split at e
 case h_2=>cases e
 rename_i ks n z1 z2;cases e;have p1:=q1.full;rw[z2]at p1;have p2:=q2.full;rw[z1]at p2;cases cL p1;cases p2 with
 |@WB _ p o h1=>cases(ry);refine Hh (by lia) I ((.inl ⟨_,Sum.inl n,.inr ⟨o,h1⟩,rfl,rfl⟩)) rx λs' I'=>?_;rw[B6];exact⟨.bl _,H,I',rfl,hq _ H (VJ.refl H) (.bl _)⟩
noncomputable def jV:Ql bQ->Ql D->Qo (Ql Int)
 |[],[]=>Qs []
 |.inl k::ks,.bl Qt::ds=>(jV ks ds).map (k::·)
 |_,_=>Qn
theorem Cg:∀{ks:Ql bQ}{ds:Ql D}{is:Ql Int},jV ks ds=Qs is->ks=is.map Sum.inl/\ds=is.map λ_=>D.bl Qt
 |[],[],is,e=>by cases e;simp
 |.inl k::ks,.bl Qt::ds,is,e=>by
  simp only[jV]at e;rcases e1:jV _ _ with _|js
  .rw[e1]at e;cases e
  rw[e1]at e;cases e;obtain⟨a,b⟩:=Cg e1;rw[a,b];simp
 |[],_::_,_,e=>by cases e
 |.inl _::_,[],_,e=>by cases e
 |.inr _::_,_,_,e=>by cases e
 |.inl _::_,.bl Qf::_,_,e=>by cases e
 |.inl _::_,.Wj::_,_,e=>by cases e
 |.inl _::_,.int _::_,_,e=>by cases e
 |.inl _::_,.str _::_,_,e=>by cases e
 |.inl _::_,.tup _::_,_,e=>by cases e
 |.inl _::_,.lst _::_,_,e=>by cases e
 |.inl _::_,.WR _ _::_,_,e=>by cases e
 |.inl _::_,.Xy _::_,_,e=>by cases e
 |.inl _::_,.Ym _::_,_,e=>by cases e
 |.inl _::_,.adr _::_,_,e=>by cases e
 |.inl _::_,.obj _ _ _::_,_,e=>by cases e
 |.inl _::_,.WB _::_,_,e=>by cases e
def vE(i:Nat)(g:DS):DS:=λt=>match t[i]? with
 |some (.dp (.WR ks ds))=>(jV ks ds).bind λis=>g (t.set i (.val (.WB is)))
 |_=>Qn
def RS.toK (R:RS K F H A t σ)(e:t[i]?=Qs (.dp (.WR ks ds)))(et:jV ks ds=Qs is):∃p,H p=Qs (.dK (YW is))/\∀o,∃A2,RS K F (L2.upd H p (.XS o (.dK (YW is)))) A2 (t.set i (.val (.WB is))) σ/\Gr A H A2 (L2.upd H p (.XS o (.dK (YW is)))):=by
 obtain⟨rfl,rfl⟩:=Cg et;obtain⟨v,B,A',a1,R',nb,dj,rd,sub,YL⟩:=R.zcR e;cases rd with
 |flat f r=>simp[flat]at f
 |@WR _ _ p vs C l h r=>
  have sc:(is.map λ_=>D.bl Qt).all bz=Qt:=by simp[bz]
  obtain⟨ev,eC⟩:=yi r sc;subst eC;have ek:df (is.map Sum.inl) vs=YW is:=by rw[ev];unfold df YW;rw[R6,List.zip_map',];rfl
  rw[ek]at h;have pA:=YL p (Rz ..);have pA':=λz=>R'.dj p z (Rw _ (Rz ..));have pF:p∉F:=dj p (Rz ..);refine⟨p,h,λo=>?_⟩;generalize YX:L2.upd H p _=H2;have u1:∀b,b≠p->H2 b=H b:=λb n=>by rw[<-YX];exact aY n
  have u2:H2 p=Qs (.XS o (.dK (YW is))):=by rw[<-YX];exact bK
  have S:VJ (aj (A'++([p]++F)) H) (aj (A'++F) H2):=λb o' w=>by
   obtain⟨n,w⟩:=cN w;refine bH (by rw[u1 b (λz=>n (by rw[z];simp))];assumption) λz=>n ?_
   simp_all
  have rel:We K _ H2 _ σ A':=We.mono S R'.rel λb hb o' w=>by rw[u1 b λz=>pA' (z▸hb)];assumption
  have rp:Rep K _ _ (.ref p):=.WB (bH u2 λz=>(Ry.mp z).elim pA' pF);have zfG:=We.zfT rp rel i (by simp[((RZ.mp e).1)]) a1;rw[VY]at zfG;refine⟨A',⟨λb hb=>?_,R'.nd,λb hb z=>R'.dj b hb (Ru _ z),zfG⟩,λb o' n w=>by rw[u1 b λz=>n (z▸pA)];assumption,λb hb=>?_,λb hb=>.inl (sub b hb)⟩
  .have np:b≠p:=λz=>by simp_all
   obtain⟨us,w⟩:=R'.mu b (by simp_all);exact⟨us,by rw[u1 b np];assumption⟩
  .by_cases z:b=p
   .lia
   .obtain⟨us,w⟩:=R.mu b (Rw _ hb);rw[u1 b z,w];simp
def Ll(i:Nat)(h:PS X st (dS X.K F g)):PS X st (dS X.K F (vE i g)):=by
 intro pins s σ H D I q;obtain⟨A,t,o,R,e,p⟩:=kz q;unfold vE at e;split at e
 case h_2=>cases e
 rename_i ks ds z;refine aA e λis et e=>?_;obtain⟨a,h1,k⟩:=R.toK z et;have ok:=((I.Wk a _ h1));obtain⟨ob,ho⟩:∃ob,s.heap.get? a=Qs _:=by obtain⟨_,_,_,_,ob,_,_,e1,_⟩:=id ok;exact⟨ob,e1⟩
 obtain⟨A2,R2,gr⟩:=k ob;have I2:Inv X _ σ (L2.upd H a (.XS _ _)) { s with heap:=s.heap,toks:=s.toks }:=I.write (by rw[h1];exact True.intro) (.inl rfl) (λ_ _ _ w=>w) ⟨ob,ho⟩ ⟨ho,ok.YQ (λ_ _ _ w=>w) (λb w=>by rw[aY (uq w h1 λz=>nomatch z)];assumption) (λb xs w=>by rw[aY (uq w h1 λz=>nomatch z)];assumption) λb o' u w=>by rw[aY (uq w h1 λz=>nomatch z)];assumption⟩;exact h _ s σ _ D I2 (lF R2 e (p.back gr))
end
def sA(I:Ql Nat)(g:TG):Prop:=∀x σ H (Q Q':L2.St->Hp->Prop),(∀σ' H',Pn I σ σ'->Q σ' H'->Q' σ' H')->g x σ H Q->g x σ H Q'
def sC(I:Ql Nat)(g:lK):Prop:=∀xs σ H (Q Q':L2.St->Hp->Prop),(∀σ' H',Pn I σ σ'->Q σ' H'->Q' σ' H')->g xs σ H Q->g xs σ H Q'
def uG(h:i∉I):sA I (gf i):=λx σ H Q Q' k q=>k _ _ (λj hj=>Ss λ(z:i=j)=>h (z▸hj)) q
def Fv:sC I mN:=λxs σ H Q Q' k q=>⟨q.1,k _ _ (λ_ _=>rfl) q.2⟩
def uH(h1:sA I g)(h2:sC I u):sC I (ja g u):=λxs σ H Q Q' k q=>by obtain⟨v,r,e,q⟩:=q;exact⟨v,r,e,h1 v σ H _ _ (λσ1 H1 p1 q1=>h2 r _ _ Q _ (λσ2 H2 p2 q2=>k _ _ (λj hj=>(p2 j hj).trans (p1 j hj)) q2) q1) q⟩
def OD (h2:sC I u):sA I (rf K n u):=λx σ H Q Q' k q=>by obtain⟨a,xs,e1,e2,e3,q⟩:=q;exact⟨a,xs,e1,e2,e3,h2 _ σ H Q _ k q⟩
def OE (h2:sC I u):sA I (rh K n u):=λx σ H Q Q' k q=>by obtain⟨a,xs,e1,e2,e3,q⟩:=q;exact⟨a,xs,e1,e2,e3,h2 _ σ H Q _ k q⟩
section
variable {X:Cx}{F:Ql ZE}{I:Ql Nat}{a b c o:ZG}{es:Ql ZG}{fa:DE}{g:DS}{C:ZE}{f m:Str}{tg:ZG}
def DG(he:PE X a (dE X.K F fa))(hg:PG X tg gt)(ht:cV X.K F gt kt)(hk:sA I gt)(hs:swapsWithSole [tg] a pos.line X.env=pure Qf:=by rfl)(hw:swappedStores [tg] a X.env=pure Qn:=by rfl) (h1:(assignEach [tg] X.env).map (·.2)=[assign tg X.env]:=by rfl):PS X (.Assign [tg] a pos) (dP X.K F I (dY kt fa)):=by
 refine PS.imp (tX he hg hs hw h1) ?_;rintro E σ H ⟨A,t,t2,R,e,h⟩;refine aA e λr1 e1 e=>?_;refine cH e λok e=>?_;rcases e2:kt _ t with _|t'
 .rw[e2]at e;cases e
 rw[e2]at e;cases e;refine⟨A,t,r1,R,e1,λv H1 gs q=>?_⟩;refine hk v σ _ (λσ2 H2=>∃A2,Gr A H _ _/\RS _ F _ _ _ _) _ (λσ2 H2 pn ⟨A2,g2,R2⟩=>h _ _ A2 g2 R2 pn) ?_;exact ht σ _ A t _ _ v _ (R.grow gs) (q.clean R.mu gs ok) e2 λσ2 A2 g2 R2=>⟨A2,(Gr.of_same R.mu.left gs).trans g2,R2⟩
def LG(hk:k∉I)(hx:lL g)(hp:PassesOwn (model X.prog X.w) X.A X.env X.xe)(hc:X.calm=Qt)(hl:PE X a (dE X.K F fa))(hg:PG X tg (gf k))(hb:WH X body (dP X.K F I g)) (hs:∀x,foldedSetIterable a X.env x=pure x:=by intro _;rfl):PS X (.For tg a body [] pos) (dP X.K F I (vG (cG k) fa g)):=by
 refine PS.imp (kY hp hc (LX hl) hg hb hs) ?_;rintro E σ0 H ⟨A,t,t2,R,e,h⟩;refine aA e λr e1 e=>?_;refine⟨A,t,r,R,e1,λv H1 gs q=>?_⟩;split at e
 case h_2=>cases e
 rename_i ks z;have cl:=q.full;rw[z]at cl;have cl:=Rep.W2 (R.mu.mono gs) (show flat (.WB ks)=Qt from rfl) cl;cases cl with
 |@WB _ p ob h1=>
  refine⟨p,ob,ks,rfl,(cN h1).2,?_⟩;have hln:(ks.map D.int).length=ks.length:=by simp
  let W:=λi m σ H'=>i+m=ks.length/\∃A' t',bY (cG k) g ((ks.map D.int).drop i) t'=Qs (.nx t2)/\RS X.K F H' A' t' σ/\Gr A H A' H'/\Pn I σ0 σ/\aj (A'++F) H' p=Qs (.XS ob (.dK (YW ks)))
  refine⟨W,⟨ks.length,by lia,A,t,e,R.grow gs,(Gr.of_same R.mu.left gs),λ_ _=>rfl,h1⟩,?_⟩;rintro i m σ H' ⟨hm,A',t',e',R',gr,pn,s1⟩;cases m with
  |zero=>
   have zi:i=(ks.map D.int).length:=by lia
   rw[zi,Tr]at e';cases e';exact .inl ⟨⟨⟨_,(cN s1).2⟩,by lia⟩,h σ _ _ gr R' pn⟩
  |succ m=>
   have hi:i<ks.length:=by lia
   refine .inr ⟨⟨⟨_,(cN s1).2⟩,hi⟩,_,λσ' H' q=>⟨m,SO m,q⟩,λx YO y=>?_⟩;obtain⟨y1,n,y2,y3⟩:=y;subst y1 y3;have ed:(ks.map D.int).drop i=.int n::(ks.map D.int).drop (i+1):=by
    rw[SM (by lia)]
    simp_all
   rw[ed]at e';simp only[bY]at e';rcases e2:cG k _ _ with _|t1
   .rw[e2]at e';cases e'
   rw[e2]at e';simp at e';obtain⟨A2,ZP,R2⟩:=R'.put (r:=.cl _) (VJ.refl _) (.int n) e2;rcases e3:g _ with _|o2
   .rw[e3]at e';cases e'
   obtain⟨t4,rfl⟩:=hx _ _ e3;rw[e3]at e';refine⟨A2,t1,t4,R2,e3,λσ5 H5 A5 g5 R5 n5=>⟨by lia,A5,t4,e',R5,(gr.trans ZP).trans g5,λj hj=>?_,?_⟩⟩
   .rw[n5 j hj,Ss (λw=>hk (by lia)),pn j hj]
   .exact(ZP.trans g5).same _ _ s1
noncomputable def kn(j:Nat)(xs0:Ql D)(k:Nat)(g:DS):Ql D->Th->Qo Th
 |[],t=>Qs t
 |d::ds,t=>(cG k d t).bind λt1=>match g t1 with
  |some (.nx t')=>(match t'[j]? with
   |some (.own xs)=>if ZR xs xs0 then kn j xs0 k g ds t' else Qn
   |_=>Qn)
  |_=>Qn
def vF(j k:Nat)(g:DS):DS:=λt=>match t[j]? with
 |some (.own xs)=>if xs.all bz then(kn j xs k g xs t).map Out.nx else Qn
 |_=>Qn
def LF{p0:Pos}(hj:j∈I)(hk:k∉I)(hp:PassesOwn (model X.prog X.w) X.A X.env X.xe)(hc:X.calm=Qt)(hg:PG X tg (gf k))(hb:WH X body (dP X.K F I g)) (hN:X.N[j]?=Qs y:=by rfl) (hv:autoParam (dD X.env.scope y) qzA._auto_1) (hd:Xg y:=by decide) (W3:X4 y:=by decide) (hs:∀x,foldedSetIterable (.Name y p0) X.env x=pure x:=by intro _;rfl):PS X (.For tg (.Name y p0) body [] pos) (dP X.K F I (vF j k g)):=by
 refine PS.imp (kY hp hc (t8 (dU (i:=j) hN hv hd W3)) hg hb hs) ?_;rintro E σ0 H ⟨A,t,t2,R,e,h⟩;unfold vF at e;split at e
 case h_2=>cases e
 rename_i xs z;replace e:=Xz e;obtain⟨sc,e⟩:=e;rcases ef:kn j xs k g xs t with _|t3
 .rw[ef]at e;cases e
 rw[ef]at e;cases e;obtain⟨p,vs,a1,a2,a3,a4⟩:=R.rel.Yw z;refine⟨_,a1,p,rfl,⟨vs,V5.of a3⟩,?_⟩;have st:∀{σ H' A' t'},RS X.K F H' A' _ σ->Pn I σ0 σ->t'[j]?=Qs _->H' p=Qs (.lst vs):=λ{σ H' A' t'} R' pn z'=>by obtain⟨p',XO,b1,b2,b3,b4⟩:=R'.rel.Yw z';have:=pn j hj;rw[b1,a1]at this;cases this;rw[b3,yg b4 sc,(yg a4 sc)]
 have hl:=a4.length;let W:=λi m σ H'=>i+m=xs.length/\∃A' t',kn j xs k g (xs.drop i) t'=Qs t2/\t'[j]?=Qs (.own xs)/\RS X.K F H' A' t' σ/\Gr A H A' H'/\Pn I σ0 σ
 refine⟨W,⟨xs.length,by lia,A,t,ef,z,R,Gr.refl R.mu.left,λ_ _=>rfl⟩,?_⟩;rintro i m σ H' ⟨hm,A',t',e',zj,R',gr,pn⟩;have hp':=st R' pn zj;cases m with
 |zero=>subst (by assumption);rw[Tr]at e';cases e';exact .inl ⟨⟨vs,V5.of hp',by lia⟩,h σ _ _ gr R' pn⟩
 |succ m=>
  have hi:i<xs.length:=by lia
  refine .inr ⟨⟨vs,_,V5.of hp',RH (by lia)⟩,_,λσ' H' q=>⟨m,SO m,q⟩,λx YO y=>?_⟩;obtain⟨y1,y2⟩:=y;subst y1;obtain⟨d,YA,rd⟩:=a4.YM (y2 vs (V5.of hp'));have ed:xs.drop i=d::xs.drop (i+1):=by
   have hd2:xs[i]=d:=by
    simp_all
   rw[<-hd2];simp
  rw[ed]at e';simp only[kn]at e';rcases e2:cG k d _ with _|t1
  .rw[e2]at e';cases e'
  rw[e2]at e';simp at e';obtain⟨A2,ZP,R2⟩:=R'.put (r:=.cl d) (VJ.refl _) (Kz rd (SW.mp sc d (UA YA)) _) e2;split at e'
  case h_2=>cases e'
  rename_i t4 e3;split at e'
  case h_2=>cases e'
  rename_i xs' z4;split at e'
  case isFalse=>cases e'
  rename_i eq;have eq:=zlf.mp eq;subst eq;refine⟨A2,t1,t4,R2,e3,λσ5 H5 A5 g5 R5 n5=>⟨by lia,A5,t4,e',z4,R5,(gr.trans ZP).trans g5,λl hl'=>?_⟩⟩;rw[n5 l hl',Ss (λw=>hk (by lia)),pn l hl']
end
inductive Apt(K:Rv)(H0 H:Hp)(vs:List V)(C:List ZE)(j1 j2:Nat)(d1 d2:D):Prop
 |mk (v1 v2 B1 B2:_) (_:vs[j1]?=Qs v1) (_:vs[j2]?=Qs v2) (_:Wn K H0 H d1 v1 B1) (_:Wn K H0 H d2 v2 B2) (_:(∀b∈B1,b∈C)) (_:(∀b∈B2,b∈C)) (_:∀b∈B1,b∉B2)
theorem Wf.apart{K:Rv}:∀{ds:Ql D}{vs:Ql V}{C:Ql ZE},Wf K H0 H ds vs C->C.Nodup->∀{j1 j2:Nat}{d1 d2:D},j1≠j2->ds[j1]?=Qs d1->ds[j2]?=Qs d2->Apt K H0 H vs C j1 j2 d1 d2
 |_,_,_,.nil,nd,j1,j2,d1,d2,ne,e1,e2=>by simp at e1
 |_,_,_,.cons h r,nd,0,0,d1,d2,ne,e1,e2=>absurd rfl ne
 |_,_,_,.cons (v:=v) (B:=B) h r,nd,0,j2+1,d1,d2,ne,e1,e2=>by simp at e1;subst e1;obtain⟨v1,B1,a1,a2,a3,_⟩:=Wf.focus r (e2);exact⟨v,v1,B,B1,rfl,a1,h,a2,λb hb=>Rw _ hb,λb hb=>Ru _ (a3 b hb),λb hb z=>(RI.mp nd).2.2 b hb b (a3 b z) rfl⟩
 |_,_,_,.cons (v:=v) (B:=B) h r,nd,j1+1,0,d1,d2,ne,e1,e2=>by simp at e2;subst e2;obtain⟨v1,B1,a1,a2,a3,_⟩:=Wf.focus r (e1);exact⟨v1,v,B1,B,a1,rfl,a2,h,λb hb=>Ru _ (a3 b hb),λb hb=>Rw _ hb,λb hb z=>(RI.mp nd).2.2 b z b (a3 b hb) rfl⟩
 |_,_,_,.cons h r,nd,j1+1,j2+1,d1,d2,ne,e1,e2=>by obtain⟨v1,v2,B1,B2,a1,a2,a3,a4,a5,a6,a7⟩:=Wf.apart r (RI.mp nd).2.1 (λz=>ne (by rw[z])) (e1) (e2);exact⟨v1,v2,B1,B2,a1,a2,a3,a4,λb hb=>Ru _ (a5 b hb),λb hb=>Ru _ (a6 b hb),a7⟩
def hU(m:Int):Ql Int->Ql Int->Qo (Ql Int)
 |[],ws=>Qs ws
 |z::zs,ws=>(XD ws.length z).bind λl=>(ws[l]?).bind λv=>hU m zs (ws.set l (v+m))
def i7(σ:L2.St)(k:Nat)(zs:Ql Int):L2.St:=match zs.getLast? with
 |none=>σ
 |some z=>σ.set k (Qs (.int z))
def Ow(h:k≠j):(i7 σ k zs)[j]?=σ[j]?:=by
 unfold i7;split
 .rfl
 .exact Ss h
def Ox:(i7 σ k zs).length=σ.length:=by
 unfold i7;split
 .rfl
 .simp
def Ov:(i7 σ k zs).set k (Qs (.int z))=i7 σ k (zs++[z]):=by
 unfold i7;rw[List.getLast?_append];simp;split
 .rfl
 simp
theorem Ie:∀{zs:Ql Int}{z:Int}{ws us ts:Ql Int},hU m (zs++[z]) ws=Qs ts->hU m zs ws=Qs us->∃l v,XD us.length z=Qs l/\us[l]?=Qs v/\ts=us.set l (v+m)
 |[],z,ws,us,ts,e,e2=>by
  cases e2;simp only[UT,hU]at e;rcases e1:XD _ z with _|l
  .rw[e1]at e;cases e
  grind
 |y::zs,z,ws,us,ts,e,e2=>by
  simp only[TC,hU]at e e2;rcases e1:XD _ y with _|l
  .rw[e1]at e;cases e
  rw[e1]at e e2;simp at e e2;rcases e3:ws[l]? with _|v
  .rw[e3]at e;cases e
  rw[e3]at e e2;exact Ie e e2
theorem Ic:∀{zs ys:Ql Int}{ws ts:Ql Int},hU m (zs++ys) ws=Qs ts->∃us,hU m zs ws=Qs us
 |[],ys,ws,ts,e=>⟨ws,rfl⟩
 |y::zs,ys,ws,ts,e=>by
  simp only[TC,hU]at e ⊢;rcases e1:XD _ y with _|l
  .rw[e1]at e;cases e
  rw[e1]at e;simp at e ⊢;rcases e3:ws[l]? with _|v
  .rw[e3]at e;cases e
  rw[e3]at e;exact Ic e
section
variable {X:Cx}{F:Ql ZE}{I:Ql Nat}{a b c o:ZG}{es:Ql ZG}{fa:DE}{g:DS}{C:ZE}{f f1 f2 m:Str}{tg:ZG}
def vf(t:Th)(i:Nat):Qo (ZE×Ql Str×Ql D):=match t[i]? with
 |some (.dp (.obj C ns ds))=>Qs (C,ns,ds)
 |_=>Qn
def rm(t:Th)(a:Nat):Qo Int:=match t[a]? with
 |some (.val (.int n))=>Qs n
 |_=>Qn
def oR(d:Qo D):Qo (Ql D):=match d with
 |some (.lst xs)=>Qs xs
 |_=>Qn
def Pw(e:vf t i=Qs (C,ns,ds)):t[i]?=Qs (.dp (.obj C ns ds)):=by
 unfold vf at e;split at e
 .lia
 .cases e
def GH{a:Nat}(e:rm t a=Qs n):t[a]?=Qs (.val (.int n)):=by
 unfold rm at e;split at e
 .lia
 .cases e
def Ah(e:oR d=Qs xs):d=Qs (.lst xs):=by
 unfold oR at e;split at e
 .cases e;rfl
 .cases e
def zX(t:Th)(k:Nat)(z:Qo Int):Qo Out:=match z with
 |none=>Qs (.nx t)
 |some z=>(dR t k (.cl (.int z))).map Out.nx
def mV(i a k s:Nat)(C:ZE)(f1 f2:Str):DS:=λt=>(vf t i).bind λq=>(rm t a).bind λn=>(rm t s).bind λm=>if q.1=C/\k≠i/\k≠a/\k≠s/\k<t.length then (bI f1 q.2.1).bind λj1=>(bI f2 q.2.1).bind λj2=>(oR q.2.2[j1]?).bind λrows=>(oR q.2.2[j2]?).bind λes=>(oR (W7 rows n)).bind λxs=>(dX xs).bind λzs=>(dX es).bind λws=>
   if j1≠j2 then(hU m zs ws).bind λus=>zX (t.set i (.dp (.obj C q.2.1 (q.2.2.set j2 (.lst (us.map D.int)))))) k zs.getLast? else Qn else Qn
def LC{x y1 y2 y3:Str}{p0 p1 p2 p3 p4 p5 p6 p7 p8:Pos}(i a k s:Nat)(c:Xb X.K C)(n1:Wx X.K C f1)(n2:Wx X.K C f2)(hk:k∉I)(hp:PassesOwn (model X.prog X.w) X.A X.env X.xe)(hc:X.calm=Qt)(hg:PG X tg (gf k)) (hN0:X.N[i]?=Qs x:=by rfl) (hN1:X.N[a]?=Qs y1:=by rfl) (hN2:X.N[k]?=Qs y2:=by rfl) (hN3:X.N[s]?=Qs y3:=by rfl) (hv0:autoParam (dD X.env.scope x) qzA._auto_1) (hv1:autoParam (dD X.env.scope y1) qzA._auto_1) (hv2:autoParam (dD X.env.scope y2) qzA._auto_1) (hv3:autoParam (dD X.env.scope y3) qzA._auto_1) (hd0:Xg x:=by decide) (hd1:Xg y1:=by decide) (hd2:Xg y2:=by decide) (hd3:Xg y3:=by decide) (hc0:X4 x:=by decide) (hc1:X4 y1:=by decide) (hc2:X4 y2:=by decide) (hc3:X4 y3:=by decide) (zj4:attributeBase (.Name x p0) f1 X.env (eval (.Name x p0) X.env)=eval (.Name x p0) X.env:=by rfl) (zj3:attributeBase (.Name x p4) f2 X.env (eval (.Name x p4) X.env)=eval (.Name x p4) X.env:=by rfl) (hpx:o5 (.Name y1 p2):=by intro _ _;rfl) (ha:∀ov iv new,augStore (.Name y2 p6) ov iv new=(do holding [new,ov,iv] (setItem ov iv new);release [new,ov,iv] [];pure .next):=by intros;rfl) (hs:∀z,foldedSetIterable (.Subscript (.Attribute (.Name x p0) f1 p1) (.Name y1 p2) p3) X.env z=pure z:=by intro _;rfl):PS X (.For tg (.Subscript (.Attribute (.Name x p0) f1 p1) (.Name y1 p2) p3) [.AugAssign (.Subscript (.Attribute (.Name x p4) f2 p5) (.Name y2 p6) p7) .Add (.Name y3 p8) pos] [] pos') (dP X.K F I (mV i a k s C f1 f2)):=by
 refine PS.imp (kY hp hc (t8 (pS zck (mh (dU (i:=i) hN0 hv0 hd0 hc0) zj4) (dU (i:=a) hN1 hv1 hd1 hc1) hpx)) hg (tT (yB (mh (dU (i:=i) hN0 hv0 hd0 hc0) zj3) (dU (i:=k) hN2 hv2 hd2 hc2) zY (dU (i:=s) hN3 hv3 hd3 hc3) zM pL ha)) hs) ?_;rintro E σ0 H ⟨A,t,t2,R,e,h⟩;refine aA e λq z1 e=>?_;obtain⟨C',ns,ds⟩:=q;refine aA e λn z2 e=>?_;refine aA e λm z3 e=>?_;refine cH e λok e=>?_;obtain⟨rfl,ki,ka,ks,kt⟩:=ok;refine aA e λj1 ej1 e=>?_;refine aA e λj2 ej2 e=>?_;refine aA e λrows ed1 e=>?_;refine aA e λes0 ed2 e=>?_;refine aA e λxs er e=>?_;refine aA e λzs ezs e=>?_;refine aA e λws0 ews e=>?_;refine cH e λjne e=>?_;refine aA e λus eus e=>?_;have ef:=e
 repeat clear e
 have e:=ef;clear ef;replace z1:=Pw z1;replace z2:=GH z2;replace z3:=GH z3;replace ed1:=Ah ed1;replace ed2:=Ah ed2;replace er:=Ah er;have exs:=kf ezs;have ees:=kf ews;subst exs ees;obtain⟨p,dx,vs,q,ws,a1,a2,a3,a4,a5,hl,hvj,⟨C0,rd,nC⟩,a6⟩:=R.zgH z1 ej2 ed2 (Xp _);have ew:=iA a5;obtain⟨v1,v2,B1,B2,b1,b2,b3,b4,b5,b6,b7⟩:=rd.apart nC jne ed1 ed2;rw[hvj]at b2;cases b2;have qB:q∈B2:=by
  cases b4 with
  |flat f' _=>simp[flat]at f'
  |lst _ _=>exact Rz ..
 cases b3 with
 |flat f' _=>simp[flat]at f'
 |@lst _ q1 ws1 Cq hq1 rq1=>
 obtain⟨jr,jr1,jr2⟩:=Q7 er;obtain⟨vr,Br,c1,c2,c3,_⟩:=rq1.focus jr2;cases c2 with
 |flat f' _=>simp[flat]at f'
 |@lst _ qr wr Cr hqr rqr=>
 have q1q:q1≠q:=λz=>b7 q1 (Rz ..) (z▸qB);have qrq:qr≠q:=λz=>b7 qr (Rx _ (c3 qr (Rz ..))) (z▸qB);have ewr:wr=zs.map V.int:=iA (Wf.fl rqr (Xp _)).1;subst ewr;have hat:W7 ws1 n=Qs (.ref qr):=by unfold L2.W7;rw[rq1.length,jr1];exact c1
 obtain⟨vn,hn1,hn2⟩:=R.rel.zaR z2;cases cL hn2;obtain⟨vm,hm1,hm2⟩:=R.rel.zaR z3;cases cL hm2;have pq:p≠q:=λz=>by rw[z,a4]at a2;cases a2
 refine⟨_,a1,p,C',dx,_,_,rfl,a2,c,n1,ox ej1 b1,_,hn1,q1,ws1,n,.ref qr,rfl,rfl,V5.of hq1,hat,qr,rfl,⟨_,V5.of hqr⟩,?_⟩;let W:Nat->Nat->L2.St->Hp->Prop:=λi' m' σ H'=>i'+m'=zs.length/\∃us',hU m (zs.take i') ws0=Qs us'/\H'=L2.upd H q (.lst (us'.map V.int))/\σ=i7 σ0 k (zs.take i')
 have hH0:L2.upd H q (.lst (ws0.map V.int))=H:=by
  funext b;by_cases z:b=q
  .rw[z,bK,a4,ew]
  .exact aY z
 refine⟨W,⟨zs.length,by lia,ws0,rfl,hH0.symm,rfl⟩,?_⟩;rintro i' m' σ H' ⟨hm,us',eu,rfl,rfl⟩;have zei:L2.upd H q (.lst (us'.map V.int)) qr=Qs (.lst (zs.map V.int)):=by rw[aY qrq];exact hqr
 cases m' with
 |zero=>
  have zi:i'=zs.length:=by lia
  subst zi;rw[VZ]at eu;rw[VZ];rw[eus]at eu;cases eu;refine .inl ⟨⟨_,V5.of zei,by simp⟩,?_⟩;obtain⟨A2,d1,d2⟩:=a6 H (us.map D.int) (us.map V.int) (VJ.refl H) (Xp _) (VQ.ints us);unfold i7;unfold zX at e;split at e
  .rename_i el
   try rw[el]
   cases e;exact h _ _ _ d2 d1 λ_ _=>rfl
  .rename_i z el
   try rw[el]
   rcases es2:dR (t.set i (.dp (.obj C' ns (ds.set j2 (.lst (us.map D.int)))))) k (.cl (.int z)) with _|t5
   .rw[es2]at e;cases e
   rw[es2]at e;cases e;obtain⟨A3,g3,R3⟩:=d1.put (i:=k) (r:=.cl (.int z)) (VJ.refl _) (.int z) es2;exact h _ _ _ (d2.trans g3) R3 λj hj=>Ss λ(w:k=j)=>hk (w▸hj)
 |succ m'=>
  have hi:i'<zs.length:=by lia
  refine .inr ⟨⟨_,.int zs[i'],V5.of zei,by rw[Se,RH hi];rfl⟩,W (i'+1) m',λσ' H' q=>⟨m',SO m',q⟩,λw YO y=>?_⟩;obtain⟨y1,y2⟩:=y;have zz:=y2 _ (V5.of zei);subst y1;rw[Se,RH hi]at zz;cases zz;have et:zs.take (i'+1)=zs.take i'++[zs[i']]:=by rw[List.take_succ,RH hi];rfl
  obtain⟨ts,ets⟩:∃ts,hU m (zs.take (i'+1)) ws0=Qs ts:=Ic (ys:=zs.drop (i'+1)) (by rw[List.take_append_drop];exact eus);obtain⟨l,v,g1,g2,g3⟩:=Ie (by rw[<-et];exact ets) eu;have s1:∀j,k≠j->((i7 σ0 k (zs.take i')).set k (Qs (.int zs[i'])))[j]?=σ0[j]?:=λj hj=>by rw[Ss hj,Ow hj]
  have kl:k<(i7 σ0 k (zs.take i')).length:=by rw[Ox,R.rel.len];exact kt
  have hp2:L2.upd H q (.lst (us'.map V.int)) p=Qs (.ins C' dx (ns.zip vs)):=by rw[aY pq];exact a2
  refine⟨_,by rw[s1 i ki];exact a1,p,C',dx,_,_,rfl,hp2,c,n2,a3,_,by rw[Ts kl],q,_,zs[i'],.int v,rfl,rfl,V5.of bK,?_,_,by rw[s1 s ks];exact hm1,v,m,rfl,rfl,q,_,zs[i'],l,rfl,rfl,bK,?_,?_⟩
  .unfold L2.W7;rw[RE,g1];show(us'.map V.int)[l]?=_;rw[Se,g2];rfl
  .rw[RE];exact g1
  .refine⟨by lia,ts,ets,?_,?_⟩
   .rw[IL,g3,V0]
   .rw[Ov,<-et]
end
def RS.zkG (R:RS K F H A t σ)(ne:k≠i)(e:t[i]?=Qs (.dp (.obj C ns ds)))(ek:t[k]?=Qs (.own xs))(fl:Wv xs=Qt)(ef:bI f ns=Qs j)(ed:ds[j]?=Qs (.lst rows)):∃p dx vs q ws pj,σ[i]?=Qs (Qs (.ref p))/\σ[k]?=Qs (Qs (.ref pj))/\H p=Qs (.ins C dx (ns.zip vs))/\(ns.zip vs).lookup f=Qs (.ref q)/\H q=Qs (.lst ws)/\ws.length=rows.length/\∃A2,RS K F (L2.upd H q (.lst (ws++[.ref pj]))) A2 ((t.set k .no).set i (.dp (.obj C ns (ds.set j (.lst (rows++[.lst xs])))))) σ/\Gr A H A2 (L2.upd H q (.lst (ws++[.ref pj]))):=by
 obtain⟨pj,vj,A1,s1,R1,pF,hpj,rj,zfs,pjA⟩:=R.zh0 ek;have zf:∀z∈[pj],z∉F:=λz hz=>by rw[RG.mp hz];assumption
 have e':(t.set k .no)[i]?=Qs (.dp (.obj C ns ds)):=by rw[Ss ne];assumption
 obtain⟨p,dx,vs,C0,a1,hp,hl,pA,pC,pZ,nC,Zq,rd,fin⟩:=RS.zeC R1 zf e';obtain⟨v1,B1,b1,b2,b3,b4,b5⟩:=rd.swap nC ed;cases b2 with
 |flat f' r=>simp[flat]at f'
 |@lst _ q ws Bq hq rq=>
  have qC:q∈C0:=b3 q (Rz ..);have qA:q∈A1:=(Zq q qC).1;have qp:p≠q:=λz=>pC (z▸qC);have jC:pj∉C0:=λz=>(Zq pj z).2 (RG.mpr rfl);have qj:pj≠q:=λz=>jC (z▸qC);refine⟨p,dx,vs,q,ws,pj,a1,s1,hp,ox ef b1,hq,rq.length,?_⟩;generalize YX:L2.upd H q (.lst (ws++[.ref pj]))=H2;have u1:∀b,b≠q->H2 b=H b:=λb n=>by rw[<-YX];exact aY n
  have u2:H2 q=Qs (.lst (ws++[.ref pj])):=by rw[<-YX];exact bK
  have S1:VJ (aj (A1++([pj]++F)) H) (aj (A1++([pj]++F)) H2):=λb o h=>by obtain⟨n,h⟩:=cN h;exact bH (by rw[u1 b λz=>n (z▸Rw _ qA)];assumption) n
  have n1:=RQ.mp b4;have rj2:Wn K (aj (A1++([pj]++F)) H2) H2 (.lst xs) (.ref pj) [pj]:=.lst (by rw[u1 _ qj];assumption) (Wf.za7 fl (VQ.mono S1 rj));have rq2:Wf K (aj (A1++([pj]++F)) H2) H2 rows ws Bq:=Wf.mono S1 rq λb hb o h=>by rw[u1 b λz=>n1.1 (z▸hb)];assumption
  obtain⟨C',c1,c2,c3⟩:=b5 _ H2 (.lst (rows++[.lst xs])) (.ref q) (q::(Bq++[pj])) S1 (.lst u2 (Wf.snoc rj2 rq2)) (RQ.mpr ⟨λz=>(Ry.mp z).elim n1.1 λw=>qj (RG.mp w).symm,RI.mpr ⟨n1.2,by simp,λx hx y hy e=>by
   simp_all⟩⟩) (λb hb=>by
    rcases RB.mp hb with z|z
    .exact .inl (z▸Rz ..)
    .rcases Ry.mp z with z|z
     .exact .inl (Rx _ z)
     .simp_all) (λb hb n o h=>by simp_all)
  rw[xg b1]at c1;have X7:∀b∈C',b∈C0\/b∈[pj]:=λb hb=>by
   rcases c3 b hb with z|z
   .rcases RB.mp z with z|z
    .exact .inl (z▸qC)
    .rcases Ry.mp z with z|z
     .exact .inl (b3 b (Rx _ z))
     .exact .inr z
   .exact .inl z.1
  have sub:VJ (aj (A1++([pj]++F)) H2) (aj ((p::(C0++C'))++(A1++([pj]++F))) H2):=bE H2 λb hb=>by
   rcases Ry.mp hb with z|z
   .rcases RB.mp z with z|z
    .rw[z];exact Rw _ pA
    .rcases Ry.mp z with z|z
     .exact Rw _ (Zq b z).1
     .rcases X7 b z with z|z
      .exact Rw _ (Zq b z).1
      .exact Ru _ (Rw _ z)
   .assumption
  obtain⟨A2,d1,d2⟩:=fin H2 ns vs (ds.set j (.lst (rows++[.lst xs]))) C' (λb o n nC' _ h=>by rw[u1 b λz=>nC' (z▸qC)];assumption) (by rw[u1 p qp];assumption) hl c2 (λz=>(X7 p z).elim pC pZ) (λb hb=>(X7 b hb).imp id .inl) (Wf.mono sub c1 λ_ _ _ w=>w);refine⟨A2,d1,λb o n h=>by rw[u1 b λz=>n (z▸zfs q qA)];assumption,λb hb=>?_,λb hb=>?_⟩
  .by_cases z:b=q
   .lia
   .obtain⟨o,w⟩:=R.mu b (Rw _ hb);rw[u1 b z,w];simp
  .rcases d2 b hb with z|z|z
   .exact .inl (zfs b z)
   .simp_all
   .exact .inr z
section
variable {X:Cx}{F:Ql ZE}{I:Ql Nat}{C:ZE}{f:Str}
def vH(i k:Nat)(C:ZE)(f:Str):DS:=λt=>match t[i]?,t[k]? with
 |some (.dp (.obj C' ns ds)),Qs (.own xs)=>if C'=C/\k≠i/\Wv xs=Qt then(bI f ns).bind λj=>match ds[j]? with
  |some (.lst rows)=>if rows.length<100000 then Qs (.nx ((t.set k .no).set i (.dp (.obj C ns (ds.set j (.lst (rows++[.lst xs]))))))) else Qn
  |_=>Qn else Qn
 |_,_=>Qn
def LH(i k:Nat){x y:Str}{p0 p1 p2:Pos}(c:Xb X.K C)(n:Wx X.K C f)(hN:X.N[i]?=Qs x:=by rfl)(hv:autoParam (dD X.env.scope x) qzA._auto_1)(hd:Xg x:=by decide)(W3:X4 x:=by decide) (hN':X.N[k]?=Qs y:=by rfl) (hv':autoParam (dD X.env.scope y) qzA._auto_1) (YA:Xg y:=by decide) (zjU:X4 y:=by decide) (hab:attributeBase (.Name x p0) f X.env (eval (.Name x p0) X.env)=eval (.Name x p0) X.env:=by rfl) (WY:RM [.Name y p2] X.env=[(Qf,eval (.Name y p2) X.env)]:=by rfl) (zaq:attributeBase (.Attribute (.Name x p0) f p1) "append" X.env (eval (.Attribute (.Name x p0) f p1) X.env)=eval (.Attribute (.Name x p0) f p1) X.env:=by rfl) (zao:((TV W5 (RM [.Name y p2] X.env)).all (λx=>!x.1)&&(backToKw W5 (keywordEach [] X.env)).all (λx=>x.1.isSome)
   && decide ([Expr.Name y p2].length+([]:Ql Vz).length+(if([]:Ql Vz).isEmpty then 0 else 1)<30))=Qt:=by rfl) (zam:(apos.endLine==W5.line)=Qt:=by rfl) (zaJ:(TV W5 (RM [] X.env)).any (·.1)=Qf:=by rfl) (X8:swapsWith (.Call (.Attribute (.Attribute (.Name x p0) f p1) "append" apos) [.Name y p2] [] W5) Qn pos.line X.env=pure Qf:=by rfl):PS X (.Expr (.Call (.Attribute (.Attribute (.Name x p0) f p1) "append" apos) [.Name y p2] [] W5) pos) (dP X.K F I (vH i k C f)):=by
 refine PS.imp (n6 (ue TN Ti TH pX (mh (dU hN hv hd W3) hab) (fG (dU hN' hv' YA zjU) gx WY) zaq zao zam WY zaJ) X8) ?_;rintro E σ H ⟨A,t,t2,R,e,h⟩;unfold vH at e;split at e
 case h_2=>cases e
 rename_i C' ns ds xs z1 z2;replace e:=Xz e;obtain⟨ok,e⟩:=e;obtain⟨rfl,ne,fl⟩:=ok;rcases e2:bI f _ with _|j
 .rw[e2]at e;cases e
 rw[e2]at e;simp at e;split at e
 case h_2=>cases e
 rename_i rows z3;replace e:=Xz e;obtain⟨_,e⟩:=e;cases e;obtain⟨p,dx,vs,q,ws,pj,a1,a2,a3,a4,a5,a6,A2,b1,b2⟩:=R.zkG ne z1 z2 fl e2 z3;refine⟨_,a1,p,C',dx,_,_,rfl,a3,c,n,a4,.inl ⟨rfl,ws,V5.of a5⟩,_,a2,q,ws,_,rfl,rfl,a5,?_,h _ _ _ b2 b1 λ_ _=>rfl⟩;exact RO (show ws.length<100000 by lia) (by decide)
end
end DL
namespace PySem.SeqAt
open PySem.Spec
open MeetsSeq MeetsSeq2 MeetsSeq3
def Z2(z:Bool)(e c:Nat->Bool):Ql Nat->Bool
 |[]=>z
 |j::r=>if e j then Z2 z e c r else c j
theorem N3(l b:ZE)(items Xv:Array R8)(n n2:Nat)(dd dd2:Qo ZE)(sl sl2:Array (Qo R8))(e c:Nat->Bool)(k:Nat):∀i:Nat,min items.size Xv.size-i=k->i<=min items.size Xv.size->Meets (Builtin.«list.__eq__.loop» ⟨[.ref l,.ref b,rawInt i,rawInt 0],[]⟩) (λA R s=>s.heap.get? l=Qs {cls:=.type "list",dict:=dd,data:=.seq items n,slots:=sl}/\s.heap.get? b=Qs {cls:=.type "list",dict:=dd2,data:=.seq Xv n2,slots:=sl2}/\ (∀j (h1:j<items.size) (h2:j<Xv.size),EqAt A.in1 s items[j] Xv[j] (e j))/\(∀j (h1:j<items.size) (h2:j<Xv.size),e j=Qf->zbU .Lt A.in1 s items[j] Xv[j] (c j))/\R (.ok (.ret (.bool (Z2 (decide (items.size<Xv.size)) e c ((Si (min items.size Xv.size)).drop i))))) s):=by
 induction k with
 |zero=>
  intro i hk hi prog w A R s h;obtain⟨hp,g,d,tk,os⟩:=s;obtain⟨hl,hb,he,hcc,h⟩:=h;have hd:(Si (min items.size Xv.size)).drop i=[]:=by simp;lia
  rw[hd]at h
  wp_walk using wpAny_loadPart' hl,wpAny_loadPart' hb
  by_cases h1:i<items.size
  .have Za:items[(i:Int).toNat]?=Qs items[i]:=by simp[h1]
   have hi2:Xv[(i:Int).toNat]?=Qn:=by simp;lia
   rw[Za,hi2]
   wp_walk using wpAny_loadPart' _,wpAny_loadPart' _
   assumption
  .have Za:items[(i:Int).toNat]?=Qn:=by simp;lia
   rw[Za]
   wp_walk using wpAny_loadPart' _,wpAny_loadPart' _
   assumption
 |succ k ih=>
  intro i hk hi prog w A R s h;obtain⟨hp,g,d,tk,os⟩:=s;obtain⟨hl,hb,he,hcc,h⟩:=h
  wp_walk using wpAny_loadPart' hl,wpAny_loadPart' hb
  have hm:i<min items.size Xv.size:=by lia
  have Yy:i<items.size:=by lia
  have zen:i<Xv.size:=by lia
  have Za:items[((i:Nat):Int).toNat]?=Qs items[i]:=by simp[Yy]
  have hi2:Xv[((i:Nat):Int).toNat]?=Qs Xv[i]:=by simp[zen]
  have hd:(Si (min items.size Xv.size)).drop i=i::(Si (min items.size Xv.size)).drop (i+1):=by simp[SM,hm]
  have hc:((i:Int)+1)=((i+1:Nat):Int):=by push_cast;rfl
  rw[hd,Z2]at h;rw[Za,hi2];refine RA (he i Yy zen prog w _ _ ?_);cases ZN:e i with
  |true=>
   rw[ZN]at h
   wp_walk
   rw[hc];exact⟨plainId_quiet plain_eq_loop _,codeAny_builtin entry_eq_loop (by
    rw[Around.under_plainId plain_eq_loop _];exact ih (i+1) (by lia) (by lia) prog w A R _ ⟨hl,hb,he,hcc,by simpa using h⟩)⟩
  |false=>
   rw[ZN]at h
   wp_walk using wpAny_loadPart' hl,wpAny_loadPart' hb
   rw[Za,hi2];refine RA (hcc i Yy zen ZN prog w _ _ ?_)
   wp_walk
   simpa using h
theorem zf5(l b:ZE)(items Xv:Array R8)(n n2:Nat)(dd dd2:Qo ZE)(sl sl2:Array (Qo R8))(e c:Nat->Bool):Meets (Builtin.«list.__lt__» ⟨[.ref l,.ref b],[]⟩) (λA R s=>s.heap.get? l=Qs {cls:=.type "list",dict:=dd,data:=.seq items n,slots:=sl}/\s.heap.get? b=Qs {cls:=.type "list",dict:=dd2,data:=.seq Xv n2,slots:=sl2}/\ (∀j (h1:j<items.size) (h2:j<Xv.size),EqAt A.in1 s items[j] Xv[j] (e j))/\(∀j (h1:j<items.size) (h2:j<Xv.size),e j=Qf->zbU .Lt A.in1 s items[j] Xv[j] (c j))/\R (.ok (.ret (.bool (Z2 (decide (items.size<Xv.size)) e c (Si (min items.size Xv.size)))))) s):=by
 intro prog w A R s h;obtain⟨hl,hb,he,hcc,h⟩:=h;have f3:=AutoSeq1.sub_list_list
 wp_walk using wpAny_loadPart' hl,wpAny_loadPart' hb
 exact⟨plainId_quiet plain_eq_loop _,codeAny_builtin entry_eq_loop (by
  exact N3 l b _ _ n _ _ _ _ _ e c _ 0 rfl (Ui _) _ w A R _ ⟨hl,hb,he,hcc,h⟩)⟩
theorem zbU.zi1(hl:s.heap.IsList l items)(hb:s.heap.IsList b Xv)(hu:A.units<cLine) (he:∀j (h1:j<items.size) (h2:j<Xv.size),EqAt A.in1 s items[j] Xv[j] (e j)) (hc:∀j (h1:j<items.size) (h2:j<Xv.size),e j=Qf->zbU .Lt A.in1 s items[j] Xv[j] (c j)):zbU .Lt A s (.ref l) (.ref b) (Z2 (decide (items.size<Xv.size)) e c (Si (min items.size Xv.size))):=λprog w E Q h=>by
 obtain⟨⟨cls,dd,data,sl⟩,ho,hc1,n,hd⟩:=id hl;obtain⟨⟨zha,dd2,data2,sl2⟩,Zs,hc2,n2,hd2⟩:=id hb;subst hc1 hd hc2 hd2;exact richCompare_meets_room ⟨_,ho,rfl⟩ ⟨_,Zs,rfl⟩ UE Vr (Vk _ _) (zf5 l b _ _ n _ _ _ _ _ e c)
  ⟨ho,Zs,he,hc,(⟨(λx=>nomatch x),h⟩)⟩ hu
end PySem.SeqAt
namespace TS
noncomputable def W6:Ql Int->Ql Int->Bool
 |[],[]=>Qf
 |[],_::_=>Qt
 |_::_,[]=>Qf
 |a::as,b::bs=>if a=b then W6 as bs else decide (a<b)
theorem qt:∀xs:Ql Int,W6 xs xs=Qf
 |[]=>rfl
 |a::as=>by simp only[W6,if_true];exact qt _
theorem uE:∀{xs ys zs:Ql Int},W6 xs ys=Qt->W6 ys zs=Qt->W6 xs zs=Qt
 |[],[],_,h,_=>‹_›
 |[],_::_,[],_,h=>‹_›
 |[],_::_,_::_,_,_=>rfl
 |_::_,[],_,h,_=>by cases h
 |_::_,_::_,[],_,h=>‹_›
 |a::as,b::bs,c::cs,h1,h2=>by
  simp only[W6]at h1 h2 ⊢;by_cases e1:a=b
  .subst e1;rw[V4 rfl]at h1;by_cases e2:a=c
   .subst e2;rw[V4 rfl]at h2 ⊢;exact uE h1 h2
   .rw[Wh e2]at h2 ⊢;assumption
  .rw[Wh e1]at h1;have l1:a<b:=of_decide_eq_true h1;by_cases e2:b=c
   .simp_all
   .rw[Wh e2]at h2;have l2:=of_decide_eq_true h2;rw[Wh (by lia)];exact Ww (by lia)
theorem oA:∀{xs ys:Ql Int},xs≠ys->W6 xs ys=Qf->W6 ys xs=Qt
 |[],[],n,_=>absurd rfl n
 |[],_::_,_,h=>by cases h
 |_::_,[],_,_=>rfl
 |a::as,b::bs,n,h=>by
  simp only[W6]at h ⊢;by_cases e:a=b
  .subst e;rw[V4 rfl]at h ⊢;exact oA (λz=>n (by rw[z])) h
  .lia
def tM(ls:Ql (Ql Int))(x:Ql Int):Int:=((ls.filter λy=>W6 y x).length:Nat)
theorem CS(h:∀z,W6 z x=Qt->W6 z y=Qt):∀ls:Ql (Ql Int),(ls.filter λz=>W6 z x).length<=(ls.filter λz=>W6 z y).length
 |[]=>RL _
 |l::ls=>by
  have i:=CS h ls
  grind
theorem yf(hxy:W6 x y=Qt):∀{ls:Ql (Ql Int)},x∈ls->(ls.filter λz=>W6 z x).length<(ls.filter λz=>W6 z y).length
 |l::ls,m=>by
  have tr:∀z,W6 z x=Qt->W6 z y=Qt:=λz q=>uE q hxy;simp only[TF];rcases RB.mp m with e|m
  .subst e;have i:=CS tr ls;rw[qt,hxy];simp;lia
  .have i:=yf hxy m
   grind
def Ku(mx:x∈ls)(my:y∈ls):decide (tM ls x<tM ls y)=W6 x y:=by
 unfold tM;cases e:W6 x y with
 |true=>have:=yf e mx;exact Ww (by lia)
 |false=>
  refine Xt ?_;by_cases z:x=y
  .subst z;lia
  .have:=yf (oA z e) my;lia
theorem GN:∀l:Ql Nat,SeqAt.Z2 z e c (l.map f)=SeqAt.Z2 z (λj=>e (f j)) (λj=>c (f j)) l
 |[]=>rfl
 |j::l=>by simp only[RK,SeqAt.Z2,GN l]
theorem zeB:∀is js:Ql Int,SeqAt.Z2 (decide (is.length<js.length)) (λj=>decide (is.getD j 0=js.getD j 0)) (λj=>decide (is.getD j 0<js.getD j 0)) (Si (min is.length js.length))=W6 is js
 |[],[]=>rfl
 |[],_::_=>rfl
 |_::_,[]=>rfl
 |a::as,b::bs=>by
  have i:=zeB as bs;have hm:min (a::as).length (b::bs).length=min as.length bs.length+1:=by simp
  rw[hm,List.range_succ_eq_map];simp only[SeqAt.Z2,GN,W6]
  simp_all
def m5(h:ZF)(a:ZE)(is:Ql Int):Prop:=∃VU:Ql R8,h.IsList a VU.toArray/\IntsAre VU is
theorem zak:∀{vs:Ql R8}{ns:Ql Int},IntsAre vs ns->∀(j:Nat) (h:j<vs.length),∃t,vs[j]=.int (ns.getD j 0) t
 |_,_,.nil,j,h=>by simp at h
 |_,_,.cons n t r,0,h=>⟨t,rfl⟩
 |_,_,.cons n t r,j+1,h=>by obtain⟨t',e⟩:=zak r j (by simpa using h);exact⟨t',e⟩
theorem zbe:∀{vs:Ql R8}{ns:Ql Int},IntsAre vs ns->vs.length=ns.length
 |_,_,.nil=>rfl
 |_,_,.cons n t r=>by simp[zbe r]
section
variable {prog:Te}{w:UX}{A:Ua}{E:R8->R7->Prop}{s:R7}
def Qd(hl:m5 s.heap l is)(hb:m5 s.heap b js)(ne:is≠js)(hu:A.units<cLine)(hlb:l≠b):SeqAt.EqAt A s (.ref l) (.ref b) Qf:=by
 obtain⟨v1,a1,a2⟩:=hl;obtain⟨v2,b1,b2⟩:=hb;have l1:=zbe a2;have l2:=zbe b2;refine SeqAt.EqAt.of_refs hlb ?_;by_cases hz:is.length=js.length
 .have k:=SeqAt.RcAt.lists (e:=λj=>decide _) a1 b1 (by simp;lia) hu (λj g1 g2=>by
   obtain⟨t1,e1⟩:=zak a2 j _;obtain⟨t2,e2⟩:=zak b2 j _;have Z5:v1.toArray[j]=.int _ _:=e1;have Z4:v2.toArray[j]=.int _ _:=e2;rw[Z5,Z4];exact λprog w E Q h=>wpAny_eqBool_int h)
  have:((Si v1.toArray.size).all λj=>decide (is.getD j 0=js.getD j 0))=Qf:=by
   cases q:(Si _).all _ with
   |false=>rfl
   |true=>
    refine absurd (Vg hz λj h1 h2=>?_) ne
    simp_all
  rw[this]at k;assumption
 .exact SeqAt.RcAt.lists_lengths a1 b1 (by simp;lia) hu
def MF(hl:m5 s.heap l is)(hb:m5 s.heap b js)(hu:A.units+2<cLine)(h:Q (W6 is js) s):wpAny (model prog w) A (oneLt' Qt (.ref l) (.ref b)) Q E s:=by
 obtain⟨v1,a1,a2⟩:=hl;obtain⟨v2,b1,b2⟩:=hb;have l1:=zbe a2;have l2:=zbe b2;rw[<-zeB]at h;obtain⟨⟨cls,dd,data,sl⟩,ho,hc1,n,hd⟩:=id a1;obtain⟨⟨zha,dd2,data2,sl2⟩,Zs,hc2,n2,hd2⟩:=id b1;simp only at hc1 hd hc2 hd2;subst hc1 hd hc2 hd2;have at1:∀j (g1:j<v1.toArray.size),∃t,v1.toArray[j]=.int (is.getD j 0) t:=λj g1=>by obtain⟨t,e⟩:=zak a2 j (g1);exact⟨t,e⟩
 have at2:∀j (g1:j<v2.toArray.size),∃t,v2.toArray[j]=.int (js.getD j 0) t:=λj g1=>by obtain⟨t,e⟩:=zak b2 j (g1);exact⟨t,e⟩
 rw[oneLt'_eq];simp only[if_true];refine RA (wpAny_cRoomFor (by lia) ?_);refine RA (wpAny_callSpecialIfBound?_slot ⟨_,ho,rfl⟩ UE (call_meets UE ⟨_,ho,rfl⟩ Vr (Vk _ _) (SeqAt.zf5 l b v1.toArray v2.toArray n n2 dd dd2 sl sl2 (λj=>decide (is.getD j 0=js.getD j 0)) (λj=>decide (is.getD j 0<js.getD j 0))) ⟨ho,Zs,λj g1 g2=>?_,λj g1 g2 _=>?_,?_⟩))
 .obtain⟨t1,e1⟩:=at1 j g1;obtain⟨t2,e2⟩:=at2 j g2;rw[e1,e2];exact λprog w E Q h=>wpAny_eqBool_int h
 .obtain⟨t1,e1⟩:=at1 j g1;obtain⟨t2,e2⟩:=at2 j g2;rw[e1,e2];exact λprog w E Q h=>CmpOf.ints_lt (λn=>if n=0 then is.getD j 0 else js.getD j 0) (λ_ _ h=>h) 0 1 _ _ _ _ _ ⟨t1,rfl⟩ ⟨t2,rfl⟩ h
 .refine wpAny_truthy_bool ?_
  simp_all
end
def Xj(f:Nat->Int)(N:Nat){α:Type}(Q:α->Prop):U5 α->Prop
 |.ret a=>Q a
 |.ask i j k=>i<N/\j<N/\Xj f N Q (k (decide (f i<f j)))
section
variable {f:Nat->Int}{N:Nat}{α β:Type}{p:Array Nat}
theorem Xj.bind:∀{t:U5 α}{R:α->Prop},Xj f N R t->(∀a,R a->Xj f N Q (g a))->Xj f N Q (t.bind g)
 |.ret a,_,h,k=>k a h
 |.ask _ _ _,_,h,k=>⟨h.1,h.2.1,Xj.bind h.2.2 k⟩
theorem Xj.wp(hc:∀i j C,i<N->j<N->C (decide (f i<f j)) s->cmp i j C s)(hG:∀a,Q a->G a s):∀{t:U5 α},Xj f N Q t->t.kasWp cmp G s
 |.ret a,h=>hG a h
 |.ask i j k,h=>hc i j _ h.1 h.2.1 (Xj.wp hc hG h.2.2)
theorem Xj.ask{k:Bool->U5 α}(hi:i<N)(hj:j<N)(h1:f i<f j->Xj f N Q (k Qt))(h2:¬f i<f j->Xj f N Q (k Qf)):Xj f N Q (.ask i j k):=⟨hi,hj,by lia⟩
theorem Xj.mono(k:∀a,Q a->Q' a):∀{t:U5 α},Xj f N Q t->Xj f N Q' t
 |.ret a,h=>k a h
 |.ask _ _ _,h=>⟨h.1,h.2.1,Xj.mono k h.2.2⟩
def X5(N:Nat)(p:Array Nat):Prop:=p.toList.Perm (Si N)
def X5.sz(h:X5 N p):p.size=N:=by simpa using h.length_eq
def X5.lt(h:X5 N p)(i:Nat)(hi:i<N):p.getD i 0<N:=by
 have hi':i<p.size:=by rw[h.sz];assumption
 refine Tg.mp (h.mem_iff.mp ?_);simp[WN,hi']
def X5.inj(h:X5 N p)(i j:Nat)(hi:i<N)(hj:j<N)(e:p.getD i 0=p.getD j 0):i=j:=by
 have z:=h.sz;have nd:=Tb.mp (h.nodup_iff.mpr V1);simp only[WN,show i<p.size by lia,show j<p.size by lia,dite_true]at e;rcases VN i j with l|l|l
 .simp_all
 .assumption
 .exact absurd e.symm (nd j i _ _ l)
def cy(f:Nat->Int)(p:Array Nat)(i:Nat):Int:=f (p.getD i 0)
def Zg(f:Nat->Int)(p:Array Nat)(k:Nat):Prop:=∀i j,i<j->j<k->cy f p i<cy f p j
def KsD(f:Nat->Int)(p:Array Nat)(k:Nat):Prop:=∀i j,i<j->j<k->cy f p j<cy f p i
def X5.ne(h:X5 N p)(hf:∀i j,i<N->j<N->f i=f j->i=j)(hi:i<N)(hj:j<N)(n:i≠j):cy f p i≠cy f p j:=λe=>n (h.inj i j hi hj (hf _ _ (h.lt i hi) (h.lt j hj) e))
def Zg.snoc(h:Zg f p n)(n1:1<=n)(l:cy f p (n-1)<cy f p n):Zg f p (n+1):=λi j a b=>by
 by_cases z:j=n
 .subst z;by_cases y:i=j-1
  .rw[y];assumption
  .have:=h i (j-1) (by lia) (by lia);lia
 .exact h i j a (by lia)
def KsD.snoc(h:KsD f p n)(n1:1<=n)(l:cy f p n<cy f p (n-1)):KsD f p (n+1):=λi j a b=>by
 by_cases z:j=n
 .subst z;by_cases y:i=j-1
  .rw[y];assumption
  .have:=h i (j-1) (by lia) (by lia);lia
 .exact h i j a (by lia)
theorem zu(hp:X5 N p)(hf:∀i j,i<N->j<N->f i=f j->i=j):∀(fu n:Nat),1<=n->n+fu<=N->Zg f p n->Xj f N (λm=>n<=m/\m<=n+fu/\Zg f p m/\(m<n+fu->cy f p m<cy f p (m-1))) (PySem.W.kas_asc p fu n)
 |0,n,n1,h,u=>⟨RL _,RL _,u,λz=>absurd z (by lia)⟩
 |fu+1,n,n1,h,u=>by
  refine Xj.ask (hp.lt _ (by lia)) (hp.lt _ (by lia)) (λc=>?_) λc=>?_
  .exact⟨RL _,by lia,u,λ_=>c⟩
  .have ne:cy f p n≠cy f p (n-1):=hp.ne hf (by lia) (by lia) (by lia);have r:=zu hp hf fu _ (by lia) (by lia) (u.snoc n1 (by have c:¬cy f p n<cy f p _:=c;lia));rw[show n+1+fu=n+(fu+1) by lia]at r;exact Xj.mono (λm q=>⟨by lia,q.2⟩) r
theorem Ft(hp:X5 N p)(hf:∀i j,i<N->j<N->f i=f j->i=j):∀(fu n:Nat),1<=n->n+fu<=N->KsD f p n->Xj f N (λr=>r.1=p/\r.2.2=0/\n<=r.2.1/\r.2.1<=n+fu/\KsD f p r.2.1) (PySem.W.kas_desc fu p n 0)
 |0,n,n1,h,u=>⟨rfl,rfl,RL _,RL _,u⟩
 |fu+1,n,n1,h,u=>by
  refine Xj.ask (hp.lt _ (by lia)) (hp.lt _ (by lia)) (λc=>?_) λc=>?_
  .have r:=Ft hp hf fu _ (by lia) (by lia) (u.snoc n1 c);rw[show n+1+fu=n+(fu+1) by lia]at r;exact Xj.mono (λm q=>⟨q.1,q.2.1,by lia,q.2.2.2⟩) r
  .have ne:cy f p n≠cy f p (n-1):=hp.ne hf (by lia) (by lia) (by lia);refine Xj.ask (hp.lt _ (by lia)) (hp.lt _ (by lia)) (λ_=>⟨rfl,rfl,RL _,by lia,u⟩) λd=>absurd ne ?_;have c:¬cy f p n<cy f p _:=c;have d:¬cy f p _<cy f p n:=d;lia
def uF{q:Array Nat}:q.getD i 0=(q[i]?).getD 0:=by simp
def Fs(hp:X5 N p)(hn:n<=N)(i:Nat):(UU p 0 n).getD i 0=p.getD (if i<n then n-1-i else i) 0:=by rw[uF,uF];unfold UU;rw[getElem?_mirror_all (by rw[hp.sz];assumption)];lia
def Fq(hp:X5 N p):X5 N (UU p 0 n):=(UW.mp (mirror_perm _ _ _ _)).trans hp
def Oz(hp:X5 N p)(hn:n<=N)(d:KsD f p n):Zg f (UU p 0 n) n:=λi j a b=>by unfold cy;rw[Fs hp hn,Fs hp hn,V4 (by lia),V4 (by assumption)];exact d _ _ (by lia) (by lia)
def Rn(f:Nat->Int)(N:Nat)(r:Nat×Array Nat):Prop:=1<=r.1/\r.1<=N/\X5 N r.2/\Zg f r.2 r.1
def OC(hp:X5 N p)(hf:∀i j,i<N->j<N->f i=f j->i=j)(h2:2<=N):Xj f N (Rn f N) (VO N p):=by
 unfold VO;refine Xj.bind (zu hp hf (N-1) 1 (by lia) (by lia) λi j a b=>absurd b (by lia)) λn ⟨n1,n2,u,st⟩=>?_;by_cases z:n=N
 .rw[z,beq_self_eq_true];exact⟨by lia,RL _,hp,z▸u⟩
 .rw[Wh (by simpa using z)];by_cases y:n>1
  .rw[V4 y];exact Xj.ask (hp.lt _ (by lia)) (hp.lt _ (by lia)) (λ_=>⟨n1,by lia,hp,u⟩) λc=>absurd (u 0 _ (by lia) (by lia)) c
  .have en:n=1:=by lia
   subst en;refine Xj.bind (Ft hp hf _ _ (by lia) (by lia) ((show KsD f p 1 from λi j a b=>absurd b (by lia)).snoc (by assumption) (st (by lia)))) ?_;rintro⟨p',m,q⟩ ⟨e1,e2,m1,m2,d⟩;simp only at e1 e2 m1 m2 d;subst e1 e2;have hm:m<=N:=by lia
   exact Xj.bind (zu (Fq hp) hf (N-m) m (by lia) (by lia) (Oz hp hm d)) λk ⟨k1,k2,k3,_⟩=>⟨by lia,by lia,Fq hp,k3⟩
theorem zt(hp:X5 N p)(hf:∀i j,i<N->j<N->f i=f j->i=j)(hk:k<N):∀(fu l r:Nat),l<=r->r<=k->r-l<=fu->(∀i,i<l->cy f p i<cy f p k)->(∀i,r<=i->i<k->cy f p k<cy f p i)->Zg f p k->Xj f N (λm=>m<=k/\(∀i,i<m->cy f p i<cy f p k)/\∀i,m<=i->i<k->cy f p k<cy f p i) (VP p k fu l r)
 |0,l,r,h1,h2,h3,a,b,u=>⟨by lia,a,λi x y=>b i (by lia) y⟩
 |fu+1,l,r,h1,h2,h3,a,b,u=>by
  unfold VP;by_cases z:l≥r
  .rw[V4 z];exact⟨by lia,a,λi x y=>b i (by lia) y⟩
  .rw[Wh z];refine Xj.ask (hp.lt _ hk) (hp.lt _ (by lia)) (λc=>?_) λc=>?_
   .exact zt hp hf hk _ l _ (by lia) (by lia) (by lia) a (λi x y=>by
     have c:cy f p k<cy f p _:=c;by_cases w:i=(l+r)/2
     .rw[w];assumption
     .have:=u ((l+r)/2) i (by lia) y;lia) u
   .exact zt hp hf hk _ _ r (by lia) h2 (by lia) (λi x=>by
     have c:¬cy f p k<cy f p _:=c;have ne:cy f p k≠cy f p ((l+r)/2):=hp.ne hf hk (by lia) (by lia);by_cases w:i=(l+r)/2
     .rw[w];lia
     .have:=u i ((l+r)/2) (by lia) (by lia);lia) b u
def OA(hp:X5 N p)(hk:k<N)(hl:l<=k)(i:Nat):(bubble p k (k-l)).getD i 0=p.getD (if i=l then k else if l<i/\i<=k then i-1 else i) 0:=by
 rw[uF,uF,getElem?_bubble (by rw[hp.sz];assumption) _ (by lia),show k-(k-l)=l by lia];split
 .rfl
 .split<;>rfl
theorem Fu(hf:∀i j,i<N->j<N->f i=f j->i=j):∀(fu k:Nat){p:Array Nat},k+fu=N->X5 N p->Zg f p k->Xj f N (λq=>X5 N q/\Zg f q N) (V9 fu p k)
 |0,k,p,h,hp,u=>⟨hp,by lia⟩
 |fu+1,k,p,h,hp,u=>by
  unfold V9;have hk:k<N:=by lia
  refine Xj.bind (zt hp hf hk k 0 k (by simp) (RL _) (by lia) (λi z=>absurd z (by lia)) (λi z y=>absurd y (by lia)) u) λl ⟨hl,a,b⟩=>?_;have e:=λi=>OA hp hk hl i;refine Fu hf fu (k+1) (by lia) ((UW.mp (bubble_perm _ _ _)).trans hp) λi j ij jk=>?_;unfold cy;rw[e i,e j];have a':=λi h=>(a i h:f (p.getD i 0)<f (p.getD k 0));have b':=λi h g=>(b i h g:f (p.getD k 0)<f (p.getD i 0));have u':=λi j h g=>(u i j h g:f (p.getD i 0)<f (p.getD j 0));by_cases i1:i=l
  .rw[V4 i1,Wh (by lia),V4 (by lia)];exact b' _ (by lia) (by lia)
  .rw[Wh i1];by_cases j1:j=l
   .rw[V4 j1,Wh (by lia)];exact a' _ (by lia)
   .split<;>split
    .exact u' _ _ (by lia) (by lia)
    .lia
    .exact u' _ _ (by lia) (by lia)
    .exact u' _ _ (by assumption) (by lia)
def OB(hf:∀i j,i<N->j<N->f i=f j->i=j)(h2:2<=N):Xj f N (λq=>X5 N q/\Zg f q N) (V2 N):=by
 have hp:X5 N (List.toArray (Si N)):=Ue _;unfold V2;refine Xj.bind (OC hp hf h2) ?_;rintro⟨n,q⟩ ⟨n1,n2,hq,u⟩;simp only at n1 n2 hq u;by_cases z:n<N
 .rw[V4 z,show max n 1=n by lia];exact Fu hf _ n (by lia) hq u
 .rw[Wh z];have:n=N:=by lia
  exact⟨hq,this▸u⟩
end
end TS
namespace DL
open PySem.Spec L2 TS
def Z0{α:Type}(x:Ql Int×α):Ql (Ql Int×α)->Ql (Ql Int×α)
 |[]=>[x]
 |y::ys=>if W6 y.1 x.1 then y::Z0 x ys else x::y::ys
def Yg{α:Type}:Ql (Ql Int×α)->Ql (Ql Int×α)
 |[]=>[]
 |x::xs=>Z0 x (Yg xs)
theorem zP(x:Ql Int×α):∀ys:Ql (Ql Int×α),(Z0 x ys).Perm (x::ys)
 |[]=>Ue _
 |y::ys=>by
  unfold Z0;split
  .exact((zP x _).cons y).trans (Wm x y _)
  .rfl
theorem ZX:∀xs:Ql (Ql Int×α),(Yg xs).Perm xs
 |[]=>Ue _
 |x::xs=>(zP x _).trans ((ZX _).cons x)
def BD{α:Type}(xs:Ql (Ql Int×α)):Prop:=xs.Pairwise λx y=>W6 y.1 x.1=Qf
def Oe(h:W6 x y=Qt):W6 y x=Qf:=by
 cases e:W6 y x with
 |false=>rfl
 |true=>have:=uE h e;rw[qt]at this;cases this
def Od(h1:W6 y x=Qf)(h2:W6 z y=Qf):W6 z x=Qf:=by
 cases e:W6 z x with
 |false=>rfl
 |true=>
  by_cases q:x=y
  .lia
  .have:=oA (λw=>q w.symm) h1;rw[uE e this]at h2;assumption
theorem FN(x:Ql Int×α):∀{ys:Ql (Ql Int×α)},BD ys->BD (Z0 x ys)
 |[],_=>Va _ _
 |y::ys,h=>by
  have h':=Sy.mp h;unfold Z0;split
  .rename_i c;refine Sy.mpr ⟨λz hz=>?_,FN x h'.2⟩;rcases RB.mp ((zP x _).mem_iff.mp hz) with e|m
   .rw[e];exact Oe c
   .exact h'.1 z m
  .rename_i c;have c:=by simpa using c
   refine Sy.mpr ⟨λz hz=>?_,h⟩;rcases RB.mp hz with e|m
   .rw[e];assumption
   .exact Od c (h'.1 z m)
theorem zdL:∀xs:Ql (Ql Int×α),BD (Yg xs)
 |[]=>List.Pairwise.nil
 |x::xs=>FN x (zdL _)
theorem zfF{α:Type}{f:α->Ql Int}:∀{xs ys:Ql α},xs.Perm ys->(∀a∈xs,∀b∈xs,f a=f b->a=b)->(xs.Pairwise λx y=>W6 (f y) (f x)=Qf)->(ys.Pairwise λx y=>W6 (f y) (f x)=Qf)->xs=ys
 |[],ys,p,_,_,_=>by rw[List.nil_perm.mp p]
 |x::xs,[],p,_,_,_=>absurd p.length_eq (by simp)
 |x::xs,y::ys,p,inj,h1,h2=>by
  have c1:=Sy.mp h1;have c2:=Sy.mp h2;have m2:=p.mem_iff.mpr (Rz ..);have e:=by
   have a1:W6 (f x) (f y)=Qf:=by
    rcases RB.mp (p.mem_iff.mp (Rz ..)) with z|z
    .rw[z];exact qt _
    .exact c2.1 x z
   have a2:W6 (f y) (f x)=Qf:=by
    grind
   refine inj x (Rz ..) y m2 ?_;by_cases q:f x=f y
   .assumption
   .have:=oA q a1;lia
  subst e;rw[zfF (VG p) (λa ha b hb=>inj a (Rx _ ha) b (Rx _ hb)) c1.2 c2.2]
theorem FO(g:α->β)(x:Ql Int×α):∀ys:Ql (Ql Int×α),Z0 (x.1,g x.2) (ys.map λw=>(w.1,g w.2))=(Z0 x ys).map λw=>(w.1,g w.2)
 |[]=>rfl
 |y::ys=>by
  simp only[RK,Z0];split
  .rw[FO g x _];rfl
  .rfl
theorem pI(g:α->β):∀xs:Ql (Ql Int×α),Yg (xs.map λw=>(w.1,g w.2))=(Yg xs).map λw=>(w.1,g w.2)
 |[]=>rfl
 |x::xs=>by simp only[RK,Yg];rw[pI g _];exact FO g x _
theorem zfS{α β:Type}{g:α->β}:∀{xs:Ql α},(xs.map g).Nodup->∀a∈xs,∀b∈xs,g a=g b->a=b
 |[],_,a,ha,_,_,_=>nomatch ha
 |x::xs,h,a,ha,b,hb,e=>by
  have n:=RQ.mp h;rcases RB.mp ha with p|p
  .grind
  .rcases RB.mp hb with q|q
   .simp_all
   .exact zfS n.2 a p b q e
end DL
namespace TS
def Zw(h:ZF)(a:ZE)(is:Ql Int):Prop:=∃o l v n,h.get? a=Qs o/\o.cls=.type "tuple"/\o.data=.seq #[.ref l,v] n/\m5 h l is
theorem FL:∀{vs:Ql R8}{ns ms:Ql Int},IntsAre vs ns->IntsAre vs ms->ns=ms
 |_,_,_,.nil,.nil=>rfl
 |_,_,_,.cons n t r,.cons _ _ r'=>by rw[FL r r']
def Ob(a:m5 h l is)(b:m5 h l js):is=js:=by
 obtain⟨v1,⟨o,e,c,n,d⟩,a2⟩:=a;obtain⟨v2,⟨o',e',c',n',d'⟩,b2⟩:=b;rw[e]at e';cases e';rw[d]at d';have:v1=v2:=by lia
 subst this;exact FL a2 b2
def Zw.off{bs:Ql ZE}(x:Zw h b is)(ho:h.get? a=Qs (seqObj "list" (bs.map SA).toArray n))(mb:b∈bs)(k:∀c o,c≠a->h.get? c=Qs o->h'.get? c=Qs o):Zw h' b is:=by
 obtain⟨o,l,v,m,e,c,d,VU,⟨o2,e2,c2,n2,d2⟩,ia⟩:=x;exact⟨o,l,v,m,k b o (λz=>by
  lia) e,c,d,VU,⟨o2,k l _ (λz=>by
  rw[z,ho]at e2;cases SX e2;have z1:bs.map SA=VU:=by lia
  cases bs with
  |nil=>cases mb
  |cons b0 bs=>
   subst z1;cases ia) e2,c2,n2,d2⟩,ia⟩
section
variable {prog:Te}{w:UX}{A:Ua}{E:R8->R7->Prop}{s:R7}{zs:Ql (Ql Int×ZE)}{i j:Nat}
def zA(zs:Ql (Ql Int×ZE))(i:Nat):Ql Int×ZE:=zs.getD i ([],0)
def kW(zs:Ql (Ql Int×ZE))(i:Nat):Int:=tM (zs.map (·.1)) (zA zs i).1
def sL(h:i<zs.length):zA zs i∈zs:=by
 unfold zA
 simp_all
def tL(hi:i<zs.length)(hj:j<zs.length):decide (kW zs i<kW zs j)=W6 (zA zs i).1 (zA zs j).1:=Ku (UM (sL hi)) (UM (sL hj))
def BV(nd:(zs.map (·.1)).Nodup)(hi:i<zs.length)(hj:j<zs.length)(e:(zA zs i).1=(zA zs j).1):i=j:=by
 have p:=Tb.mp nd;unfold zA at e;rcases VN i j with l|l|l
 .simp_all
 .assumption
 .exact absurd (by simp_all) (p j i (by simpa using hj) (by simpa using hi) l)
def wy(h:i<zs.length):((zs.map (·.2)).map SA).getD i UY=.ref (zA zs i).2:=by unfold zA;simp[h]
def Q8(nd:(zs.map (·.1)).Nodup)(hu:A.units+2<cLine)(hk:∀z∈zs,Zw s.heap z.2 z.1)(i j:Nat)(C:Bool->R7->Prop)(hi:i<zs.length)(hj:j<zs.length)(h:C (decide (kW zs i<kW zs j)) s):Wa prog w A (tuples' Qt) ((zs.map (·.2)).map SA) i j C s:=by
 rw[tL hi hj]at h;obtain⟨o,l,v,n,g,c,d,la⟩:=hk _ (sL hi);unfold Wa;rw[wy hi,wy hj];by_cases z:i=j
 .subst z;rw[qt]at h;exact Wo g d g d (Vl (SeqAt.EqAt.same _ _ w _ _ (Wb (Vl (SeqAt.EqAt.same _ _ w _ _ (Wb (PySem.W.kat_nil (h))))))))
 .obtain⟨o',l',v',n',g',c',d',lb⟩:=hk _ (sL hj);have ne:=λe=>z (BV nd hi hj e);exact Wo g d g' d' (Vl (Qd la lb ne (by lia) (λq=>ne (Ob la (q▸lb))) _ w _ _ (PySem.W.kat_no (MF la lb hu h))))
def Kt(nd:(zs.map (·.1)).Nodup)(i j:Nat)(hi:i<zs.length)(hj:j<zs.length)(e:kW zs i=kW zs j):i=j:=by have a:=tL hi hj;have b:=tL hj hi;rw[e]at a b;refine Sw λn=>?_;have:=oA (λq=>n (BV nd hi hj q)) (by simp_all);lia
def Ir(nd:(zs.map (·.1)).Nodup)(hp:X5 zs.length p)(u:Zg (kW zs) p zs.length):p.toList.map (zA zs)=DL.Yg zs:=by
 have pz:(p.toList.map (zA zs)).Perm zs:=by
  have:=hp.map (zA zs);have e:(Si zs.length).map (zA zs)=zs:=Vg (by simp) λi a b=>by simp[zA,b]
  lia
 refine DL.zfF (pz.trans (DL.ZX _).symm) (λa ha b hb e=>DL.zfS nd a (pz.mem_iff.mp ha) b (pz.mem_iff.mp hb) e) ?_ (DL.zdL _);rw[Ut,Tb];intro i j hi hj l;have sz:=hp.sz;have hi':i<p.size:=hi;have hj':j<p.size:=hj;have k:=u i j l (by lia);unfold cy at k;have l1:=hp.lt i (by lia);have l2:=hp.lt j (by lia);simp only[WN,hi',hj',dite_true]at k l1 l2;have q:=tL l2 l1;rw[Xt (by lia)]at q;exact q.symm
theorem ED:∀{zs:Ql (Ql Int×ZE)},(∀z∈zs,Zw h z.2 z.1)->∃fs:Ql R8,PySem.W.KatTups h ((zs.map (·.2)).map SA) fs/\fs.length=zs.length/\∀v∈fs,∃l o,v=.ref l/\h.get? l=Qs o/\o.cls=.type "list"
 |[],_=>⟨[],.nil,rfl,λv hv=>by cases hv⟩
 |b::bs,ht=>by
  obtain⟨fs,k,l,r⟩:=ED λx hx=>ht x (Rx _ hx);obtain⟨o,l1,v1,n,e,c,d,VU,⟨o2,e2,c2,_⟩,_⟩:=ht b (Rz ..);refine⟨_,.cons e c d rfl k,by simp[l],λv hv=>?_⟩;rcases RB.mp hv with z|z
  .exact⟨l1,o2,z,e2,c2⟩
  .exact r v z
def N5(ho:s.heap.get? a=Qs (seqObj "list" ((zs.map (·.2)).map SA).toArray n))(ht:∀z∈zs,Zw s.heap z.2 z.1)(nd:(zs.map (·.1)).Nodup)(hu:A.units+2<cLine)(hz:zs.length<64)
  (h:P (.done (.ret .none)) { s with heap:=sortedHeap s.heap a ((zs.map (·.2)).map SA) (((DL.Yg zs).map (·.2)).map SA).toArray }):wpAny (model prog w) A (Builtin.«list.sort» ⟨[.ref a],[]⟩) P E s:=by
 obtain⟨V,hV⟩:∃V,V=(zs.map (·.2)).map SA:=⟨_,rfl⟩;have lv:V.length=zs.length:=by rw[hV];simp
 obtain⟨e1,ho1⟩:∃e1,(s.heap.update a (Obj.mapSeq λ_=>(#[]:Array R8))).get? a=Qs (seqObj "list" #[] e1):=⟨_,get?_update_seq ho λ_ => #[]⟩;rw[<-hV]at ho h;have Zs:(((s.heap.update a (Obj.mapSeq λ_=>(#[]:Array R8))).push (seqObj "tuple" V.toArray 0)).push (seqObj "list" #[] 0)).get? a=Qs (seqObj "list" #[] e1):=RC _ (RC _ ho1);have ht2:∀z∈zs,Zw (((s.heap.update a (Obj.mapSeq λ_=>(#[]:Array R8))).push (seqObj "tuple" V.toArray 0)).push (seqObj "list" #[] 0)) z.2 z.1:=λz m=>(ht z m).off (bs:=zs.map (·.2)) (by rw[<-hV];assumption) (UM m) λc o nc e=>RC _ (RC _ ((S9 _ _ (Ne.symm nc)).trans e));rw[list_sort_plain];refine RA (listItems_at ho rfl ?_);refine RA (listUpdate_at ho rfl ?_ (by rw[R9,sizeLine_eq];lia) (Ui _));refine RA (seqEpoch_at ho1 rfl ?_);refine RA (wpAny_newTuple ?_ (by show V.length<=_;rw[sizeLine_eq];lia));refine RA (wpAny_newList ?_ (Ui _));refine wpAny_holding ?_;have hv2:V.toArray.size=zs.length:=by assumption
 have q0:((V.toArray.zip V.toArray).map (·.2)).size=zs.length:=by simp[lv]
 by_cases h2:V.toArray.size<2
 .rw[V4 h2,V4 h2];refine RA (RP ?_);dsimp only;refine RA (RP ?_);have q3:(V.toArray.zip V.toArray).map (·.2)=(((DL.Yg zs).map (·.2)).map SA).toArray:=by
   subst hV;rcases zs with _ | ⟨z,_ | ⟨y,zs⟩⟩
   .simp[DL.Yg]
   .simp[DL.Yg,DL.Z0]
   .exact absurd h2 (by simp)
  refine RA (seqEpoch_at Zs rfl ?_);refine RA (listUpdate_at Zs rfl ?_ (Ui _) (by lia));simp only[bne_self_eq_false,Uj,if_false];rw[<-q3]at h;exact RP h
 .rw[Wh h2,Wh h2];obtain⟨fs,kt,fl,fi⟩:=ED ht2;rw[<-hV]at kt;refine RA (PySem.W.kat_kind (T:=.type "list") kt (by lia) (λv hv=>?_) (by rfl) ?_)
  .obtain⟨l,o,rfl,e1,e2⟩:=fi v hv;exact PySem.W.kitAt_ty _ _ ⟨o,e1,e2⟩
  rw[show(WD "list" != WD "tuple")=Qt by rfl];dsimp only;refine RA (wpAny_mono (PySem.W.kat_run (ks:=V) (vs:=V) (Q:=λYx s'=>s'={ s with heap:=((s.heap.update a (Obj.mapSeq λ_=>(#[]:Array R8))).push (seqObj "tuple" V.toArray 0)).push (seqObj "list" #[] 0) }/\failedOf Yx=Qn/\(arrOf Yx).map (·.2)=(((DL.Yg zs).map (·.2)).map SA).toArray)
   (G:=λp s'=>s'={ s with heap:=((s.heap.update a (Obj.mapSeq λ_=>(#[]:Array R8))).push (seqObj "tuple" V.toArray 0)).push (seqObj "list" #[] 0) }/\X5 zs.length p/\Zg (kW zs) p zs.length) rfl (by lia) (by lia) (λp Yx s' sz ar fl g=>⟨g.1,fl,?_⟩) (by
    rw[lv];refine Xj.wp (λi j C hi hj hc=>?_) (λq hq=>⟨rfl,hq⟩) (OB (Kt nd) (by lia));rw[hV];exact Q8 nd hu (by rw[hV]at ht2;assumption) i j C hi hj (by lia))) ?_ λ_ _ e=>e)
  .rw[PySem.W.kat_snds rfl ar, <-Ir nd g.2.1 g.2.2,R6,R6];refine congrArg _ (SF λi hi=>?_);rw[hV];exact wy (Tg.mp (g.2.1.mem_iff.mp hi))
  rintro⟨⟨⟩,Yx⟩ s' ⟨rfl,nf,q3⟩;dsimp only at nf q3 ⊢;refine RA (seqEpoch_at Zs rfl ?_);refine RA (listUpdate_at Zs rfl ?_ (Ui _) (by
   rw[q3,R9,RE,RE,(DL.ZX _).length_eq,sizeLine_eq];lia))
  rw[nf];simp only[bne_self_eq_false,Uj,if_false];rw[<-q3]at h;exact RP h
end
section
variable {prog:Te}{w:UX}{A:Ua}{E:R8->R7->Prop}{s:R7}
def Qx(ho:s.heap.get? p=Qs o)(hc:o.cls=.type "list")(hd:o.data=.seq items n)(hsz:items.size<=Sf) (h:∀(h':ZF),(∀b o,s.heap.get? b=Qs o->h'.get? b=Qs o)->s.heap.objs.size<=h'.objs.size->R items.toList {s with heap:=h'}):wpAny (model prog w) A (collect (.ref p)) R E s:=by
 unfold collect;refine RA (wpAny_runValue (codeAny_builtin entry_proto_collect' ?_));rw[Around.under_plainId PySem.F.plain_proto_collect _];show wpAny _ A.in1 (newList []>>=λl=>again (.builtin "list.__iadd__" ⟨[l,.ref p],[]⟩)) _ _ s;refine RA (wpAny_newObj_type ?_);refine RP ⟨plainId_quiet Vb _,codeAny_builtin entry_list_iadd' ?_⟩;rw[Around.under_plainId Vb _];have g0:(s.heap.push {cls:=.type "list",data:=.seq ([]:Ql R8).toArray}).get? s.heap.objs.size=Qs {cls:=.type "list",data:=.seq #[] 0}:=RV _ rfl;have g1:=Uv (Obj.mapSeq (·++items)) g0 rfl;have key:=wpAny_extend_seq (hsz:=hsz) (A:=A) (prog:=prog) (w:=w) (s:={s with heap:=s.heap.push {cls:=.type "list",data:=.seq ([]:Ql R8).toArray}}) (R:=λ(q:Result) (s':R7)=>∃(h':ZF) (ob:Obj) (m:Nat),q=.ok (.ret (.ref s.heap.objs.size))/\s'={s with heap:=h'}/\ (∀b o,s.heap.get? b=Qs o->h'.get? b=Qs o)/\s.heap.objs.size<=h'.objs.size/\h'.get? s.heap.objs.size=Qs ob/\ob.data=.seq (#[]++items) m)
  s.heap.objs.size p (.ref s.heap.objs.size) 0 (.inl rfl) g0 (RC _ ho) hc hd
  ⟨_,_,_,rfl,rfl,λb o e=>(S9 _ _ (Uh (RN e))).trans (RC _ e),Uz (RN g1),g1,rfl⟩
 show wpAny _ A.in1 (Builtin.List.listExtendWith (.ref s.heap.objs.size) (.ref p) (.ref s.heap.objs.size)) _ _ _;have zgI:∀(h':ZF) (ob:Obj) (m:Nat),(∀b o,s.heap.get? b=Qs o->h'.get? b=Qs o)->s.heap.objs.size<=h'.objs.size->h'.get? s.heap.objs.size=Qs ob->ob.data=.seq (#[]++items) m->wpAny (model prog w) A (load s.heap.objs.size>>=λo=>match o.data with
   |Data.seq xs _=>pure xs.toList
   |_=>unsupported "internal:collect") R E {s with heap:=h'}:=λh' ob m hk hz hS d=>by refine RA (wpAny_load hS ?_);rw[d];refine RP ?_;have:=h _ hk hz;simpa using this
 refine wpAny_mono key (λfin s' y=>?_) λe s' y=>?_
 .cases fin with
  |done f=>obtain⟨h',ob,m,e,rfl,hk,hz',hS',d⟩:=y;cases e;exact zgI _ _ m hk hz' hS' d
  |again c₁=>refine⟨y.1,codeAny_mono y.2 λq s₂ z=>?_⟩;obtain⟨h',ob,m,rfl,rfl,hk,hz',hS',d⟩:=z;exact zgI _ _ m hk hz' hS' d
 .obtain⟨_,_,_,e',_⟩:=y;cases e'
end
end TS
namespace L2
open PySem.Spec TS
section
variable {X:Cx}
theorem CY:∀out:Ql ZE,Vals (out.map V.ref) (out.map SA)
 |[]=>.nil
 |a::out=>.cons rfl (CY _)
theorem B3:∀{bs:Ql ZE}{us:Ql R8},Vals (bs.map V.ref) us->us=bs.map SA
 |[],_,.nil=>rfl
 |b::bs,_,.cons h r=>by cases h;rw[B3 r];rfl
def BE(K:Rv)(H:Hp)(b:ZE)(is:Ql Int):Prop:=∃l v,H b=Qs (.tup [.ref l,v])/\V5 K H l (is.map V.int)
def NP{σ:L2.St}(I:Inv X pins σ H s)(h:BE X.K H b is):Zw s.heap b is:=by
 obtain⟨l,v,hb,hl⟩:=h;obtain⟨_,VU,rv,o,e,c,d⟩:=((I.Wk b _ hb));obtain⟨zbd,rv2,pl,_⟩:=I.list hl;cases rv with
 |cons r1 rv=>
  cases rv with
  |cons r2 rv=>cases rv;cases r1;obtain⟨n,d⟩:=d;exact⟨o,l,_,n,e,c,d,zbd,DL.PlainL.XY pl,oN rv2⟩
def Zw.keep(x:Zw h b is)(k:∀c o,h.get? c=Qs o->h'.get? c=Qs o):Zw h' b is:=by obtain⟨o,l,v,m,e,c,d,VU,⟨o2,e2,c2⟩,ia⟩:=x;exact⟨o,l,v,m,k b o e,c,d,VU,⟨o2,k l _ e2,c2⟩,ia⟩
def QF(hu:X.A.units+64<cLine)(hc:X.calm=Qt):gj X (.builtin "sorted") (λxs H Q=>∃(p:ZE) (zs:Ql (Ql Int×ZE)),xs=[.ref p]/\V5 X.K H p ((zs.map (·.2)).map V.ref)/\zs.length<64/\(∀z∈zs,BE X.K H z.2 z.1)/\(zs.map (·.1)).Nodup/\∀l,H l=Qn->Q (.ref l) (upd H l (.lst (((DL.Yg zs).map (·.2)).map V.ref)))):=by
 intro pins s σ H xs us Q I r h;obtain⟨p,zs,rfl,hp,hb,hm,hd,q⟩:=h;obtain⟨u,rfl,ru⟩:=jT r;cases ru;obtain⟨VU,rv,pl,_⟩:=I.list hp;have ei:=B3 rv;subst ei;have lz:((zs.map (·.2)).map SA).length=zs.length:=by simp
 have lo:((DL.Yg zs).map (·.2)).length<64:=by rw[RE,(DL.ZX _).length_eq];assumption
 refine J1 (P:=λus=>us=(zs.map (·.2)).map SA) (args_sorted1 _) (λ_=>args_list_sort _) (λR hR=>?_) (λh' tk us hk hz hu' hlen=>?_)
 .obtain⟨o,e,c,n,d⟩:=DL.PlainL.XY pl;refine Qx e c d (by rw[R9,sizeLine_eq];lia) (λh' hk hz=>?_);have:=hR _ s.toks _ hk hz rfl (by lia);lia
 .subst hu';refine N5 (s:={s with heap:=h'.push (seqObj "list" ((zs.map (·.2)).map SA).toArray 0),toks:=tk}) (RV _ rfl) (λb m=>Zw.keep (NP I (hm b m)) λc o z=>RC _ (hk c o z)) hd (by show X.A.units+1+1+2<cLine;lia) hb ⟨rfl,?_⟩;have fr:s.heap.objs.size<=h'.objs.size:=hz;obtain⟨out,ho⟩:∃out,out=(DL.Yg zs).map (·.2):=⟨_,rfl⟩;rw[<-ho]at lo ⊢;have g0:(h'.push (seqObj "list" ((zs.map (·.2)).map SA).toArray 0)).get? h'.objs.size=Qs (seqObj "list" ((zs.map (·.2)).map SA).toArray 0):=RV _ rfl;obtain⟨e1,g1⟩:∃e1,((h'.push (seqObj "list" ((zs.map (·.2)).map SA).toArray 0)).update h'.objs.size (Obj.mapSeq λ_=>(#[]:Array R8))).get? h'.objs.size=Qs (seqObj "list" #[] e1):=⟨_,get?_update_seq g0 λ_=>#[]⟩;obtain⟨k,g2⟩:∃k,(sortedHeap (h'.push (seqObj "list" ((zs.map (·.2)).map SA).toArray 0)) h'.objs.size ((zs.map (·.2)).map SA) (out.map SA).toArray).get? h'.objs.size=Qs (seqObj "list" (out.map SA).toArray k):=⟨_,get?_update_seq (RC _ (RC _ g1)) λ_=>(out.map SA).toArray⟩;refine⟨.ref _,_,I.laid (o:=HO.lst (out.map V.ref)) (λb o e=>?_) fr ⟨?_,out.map SA,k,CY out,by lia⟩,rfl,ho▸q _ (I.Wk.fresh fr)⟩
  .have e2:=hk b o e;have nb:=Uh (RN e2);exact(S9 _ _ nb).trans (RC _ (RC _ ((S9 _ _ nb).trans (RC _ e2))))
  .refine DL.ZZ ?_;rw[RE];lia
end
end L2
namespace DL
open PySem.Spec L2 TS
def Wf.perm{ps qs:Ql (D×V)}(p:ps.Perm qs):∀{C:Ql ZE},Wf K H0 H (ps.map (·.1)) (ps.map (·.2)) C->∃C',C'.Perm C/\Wf K H0 H (qs.map (·.1)) (qs.map (·.2)) C':=by
 induction p with
 |nil=>intro C h;exact⟨C,Ue _,h⟩
 |@cons x l1 l2 _ ih=>
  intro C h;cases h with
  |cons a r=>obtain⟨C',p',r'⟩:=ih r;exact⟨_,p'.append_left _,.cons a r'⟩
 |@swap x y l=>
  intro C h;cases h with
  |cons a r=>
   cases r with
   |cons b r=>refine⟨_,?_,.cons b (.cons a r)⟩;rw[<-SI,<-SI];exact List.perm_append_comm.append_right _
 |trans _ _ ih1 ih2=>
  grind
def oq:D->Qo (Ql Int)
 |.tup [.lst xs,_]=>dX xs
 |_=>Qn
noncomputable def kd:Ql D->Qo (Ql (Ql Int×D))
 |[]=>Qs []
 |d::ds=>(oq d).bind λk=>(kd ds).map λr=>(k,d)::r
def nJ:Ql (Ql Int×D)->Bool
 |[]=>Qt
 |x::xs=>xs.all (λy=>decide (y.1≠x.1))&&nJ xs
def uL:Ql Ev->Qo Ev:=λrs=>match rs with
 |[.dn (.lst ds)]=>(kd ds).bind λks=>if nJ ks&&decide (ks.length<64) then Qs (.dn (.lst ((Yg ks).map (·.2)))) else Qn
 |_=>Qn
theorem Ez:∀{ds:Ql D}{ks:Ql (Ql Int×D)},kd ds=Qs ks->ds=ks.map (·.2)/\∀x∈ks,oq x.2=Qs x.1
 |[],ks,e=>by cases e;simp
 |d::ds,ks,e=>by
  simp only[kd]at e;rcases e1:oq d with _|k
  .rw[e1]at e;cases e
  rw[e1]at e;rcases e2:kd _ with _|r
  .rw[e2]at e;cases e
  rw[e2]at e;cases e;obtain⟨a,b⟩:=Ez e2
  grind
theorem B8:∀{ks:Ql (Ql Int×D)},nJ ks=Qt->(ks.map (·.1)).Nodup
 |[],_=>Sv
 |x::xs,h=>by
  simp only[nJ,RJ,SW,XT]at h;exact RQ.mpr ⟨λm=>by
   obtain⟨y,hy,e⟩:=RU.mp m;exact h.1 y hy e,B8 h.2⟩
theorem Ex{K:Rv}(hs:VJ H0 H):∀{ks:Ql (Ql Int×D)}{vs:Ql V}{C:Ql ZE},Wf K H0 H (ks.map (·.2)) vs C->(∀x∈ks,oq x.2=Qs x.1)->∃zs:Ql (Ql Int×(D×ZE)),ks=zs.map (λz=>(z.1,z.2.1))/\vs=zs.map (λz=>V.ref z.2.2)/\∀z∈zs,BE K H z.2.2 z.1
 |[],_,_,.nil,_=>⟨[],rfl,rfl,λz hz=>nomatch hz⟩
 |k::ks,_,_,.cons h r,hk=>by
  obtain⟨zs,e1,e2,e3⟩:=Ex hs r λx hx=>hk x (Rx _ hx);have ek:=hk k (Rz ..);obtain⟨kk,d⟩:=k;have ek:oq d=Qs kk:=ek;unfold oq at ek;split at ek
  case h_2=>cases ek
  have ei:=kf ek;subst ei;cases h with
  |flat f _=>simp[flat,Wv]at f
  |@tup _ p us _ h1 h2=>
   cases h2 with
   |@cons _ v1 _ vs1 B1 C1 a1 a2=>
    cases a2 with
    |@cons _ v2 _ vs2 B2 C2 b1 b2=>
     cases b2;cases a1 with
     |flat f _=>simp[flat]at f
     |@lst _ l us2 Cl c1 c2=>
      have eu:=iA (Wf.fl c2 (Xp _)).1;subst eu;refine⟨(kk,(_,p))::zs,by rw[e1];rfl,by rw[e2];rfl,λz hz=>?_⟩;rcases RB.mp hz with q|q
      .subst q;exact⟨l,v2,hs _ _ h1,V5.of c1⟩
      .exact e3 z q
section
variable {X:Cx}{F:Ql ZE}
def Qz(hu:X.A.units+64<cLine)(hc:X.calm=Qt):X0 X F (.builtin "sorted") uL:=X0.of (QF hu hc) λH0 H A xs rs e Q m g q ek hq=>by
 unfold uL at ek;split at ek
 case h_2=>cases ek
 rename_i ds;cases q with
 |cons q1 q2=>
  cases q2;rcases e1:kd ds with _|ks
  .rw[e1]at ek;cases ek
  rw[e1]at ek;simp only[RF]at ek;replace ek:=Xz ek;obtain⟨ok,ek⟩:=ek;simp only[RJ,XT]at ok;cases ek;obtain⟨eds,emk⟩:=Ez e1;subst eds;obtain⟨B,nb,fr,rd⟩:=q1;cases rd with
  |flat f _=>simp[flat]at f
  |@lst _ p vs C hp r=>
   obtain⟨zs,z1,z2,z3⟩:=Ex (aR _ _) r emk;have nk:=B8 ok.1;subst z1 z2;refine⟨p,zs.map λz=>(z.1,z.2.2),rfl,V5.of (by simp_all),by simpa using ok.2,λz hz=>?_,by rw[R6]at nk ⊢;assumption,λl hl=>?_⟩
   .obtain⟨y,hy,rfl⟩:=RU.mp hz;exact z3 y hy
   .rw[pI _];rw[pI _]at hq;have pz:=ZX zs;generalize Yg _=zs2 at*
    have q1:∀Z:Ql (Ql Int×(D×ZE)),(Z.map λz=>(z.2.1,V.ref z.2.2)).map (·.1)=(Z.map λz=>(z.1,z.2.1)).map (·.2):=λZ=>by simp
    have q2:∀Z:Ql (Ql Int×(D×ZE)),(Z.map λz=>(z.2.1,V.ref z.2.2)).map (·.2)=((Z.map λz=>(z.1,z.2.2)).map (·.2)).map V.ref:=λZ=>by simp
    have q3:∀Z:Ql (Ql Int×(D×ZE)),(Z.map λz=>V.ref z.2.2)=(Z.map λz=>(z.2.1,V.ref z.2.2)).map (·.2):=λZ=>by simp
    rw[<-q1,q3]at r;obtain⟨C',pC,r2⟩:=Wf.perm ((pz.map _).symm) r;rw[q1,q2]at r2;have nC:=RQ.mp nb;have al:∀b∈C',H b≠Qn:=λb hb z=>by obtain⟨o,w⟩:=r2.lists b hb;lia
    have hlC:l∉C':=λz=>al l z hl;have S:VJ (aj ((p::C)++(A++F)) H) (aj ((l::C')++(A++F)) (L2.upd H l (.lst (((zs2.map λz=>(z.1,z.2.2)).map (·.2)).map V.ref)))):=λb o h=>by
     obtain⟨n,h⟩:=cN h;have bl:b≠l:=λz=>by lia
     refine bH (by rw[aY bl];assumption) λz=>?_
     grind
    have kp:∀b∈C',∀o,H b=Qs o->L2.upd H l (.lst (((zs2.map λz=>(z.1,z.2.2)).map (·.2)).map V.ref)) b=Qs o:=λb hb o h=>by rw[aY (show b≠l from λz=>hlC (z▸hb))];assumption
    refine hq _ _ (dZ hl) ⟨l::C',RQ.mpr ⟨hlC,pC.nodup_iff.mpr nC.2⟩,λb hb=>?_,.lst bK (Wf.mono S r2 kp)⟩;rcases RB.mp hb with z|z
    .rw[z];exact VJ.free g hl
    .exact fr b (Rx _ (pC.mem_iff.mp z))
end
open PySem.Spec L2
def kc(st:ZH)(k:Nat):ZH:=match st with
 |.ClassDef _ _ _ body _ _ _ _ _ _ _=>body.getD k (.Pass ⟨0,0,0,0⟩)
 |_=>.Pass ⟨0,0,0,0⟩
inductive Hm(K:Rv)(C:ZE)(x qual:Str)(st:ZH)(f:ZE):Prop where
 |mk {oc:R8}{od an:Option ZE}{osl:Array (Option R8)}{kV doc pm Wu ct:R8} (a:S8 K (.ref C) x=Qs (Qs (.ref f))) (n:Vv K (.ref f)=Qt) (l:K.lookup f=Qs ⟨oc,od,.func (SV x qual (gK st) (eE st) (aN st) .none kV doc pm an Wu ct),osl⟩) (c:Uw K Wu qual=Qt) (k:S0 K (.ref f)=Qt):Hm K C x qual st f
def Hm.fn{st:ZH}(h:Hm K C x qual st f):∃fd,L2.Wy K x qual st f fd:=by
 cases h with
 |mk a n l c k=>exact⟨_,GJ l c k⟩
def Hm.ZY{st:ZH}(h:Hm K C x qual st f):Meth K C x f:=by
 cases h with
 |mk a n l c k=>exact⟨a,n,k⟩
def Hm.mk_{st:ZH}(h:Hm K C "__init__" qual st f)(m:UO K C=Qt)(k:S0 K (.ref C)=Qt):Mk K C f:=by
 cases h with
 |mk a n l c k'=>exact⟨m,a,n,k⟩
structure Hc(K:Rv)(x:Str)(C:ZE):Prop where
 a:SQ K mainGlobals x=Qs (Qs (.ref C))
 c1:Ub K C Str.empty=Qt
 c2:Uo K C=Qt
 c3:U7 K C=Qt
 c4:S8 K (.ref C) "__setattr__"=Qs (Qs (.builtin "object.__setattr__"))
 k1:UO K C=Qt
 k2:S0 K (.ref C)=Qt
def Hc.cls (h:Hc K x C):Xb K C:=⟨h.c1,h.c2,h.c3,h.c4⟩
theorem Hc.mg{K:Rv}{mg:Str->Qo R8}(h:Hc K x C)(X:K.In hp)(G:hp.Ns mainGlobals mg):mg x=Qs (.ref C):=WK X G h.a
section
variable {X:Cx}{F:Ql ZE}{a b c o:ZG}{es:Ql ZG}{fa:DE}{g g1 g2:DS}{ft:DT}{st:ZH}{C:ZE}{f m:Str}{I J:Ql Nat}
def Lz(h:PS X st (dP X.K F J g))(s:∀i∈I,i∈J:=by decide):PS X st (dP X.K F I g):=by refine PS.imp h ?_;rintro E σ H ⟨A,t,t',R,e,k⟩;exact⟨A,t,t',R,e,λσ' H' A' gr R' p=>k _ _ _ gr R' λi hi=>p i (s i hi)⟩
def rP(i:Nat)(g:DS):DS:=λt=>match t[i]? with
 |some (.dp (.WR ks ds))=>vE i g t
 |some (.val (.WB _))=>g t
 |_=>Qn
def Lk(i:Nat)(h:PS X st (dS X.K F g)):PS X st (dS X.K F (rP i g)):=by
 intro pins s σ H D I q;obtain⟨A,t,o,R,e,p⟩:=kz q;unfold rP at e;split at e
 .exact Ll i h _ s σ H D I (lF R e p)
 .exact h _ s σ H D I (lF R e p)
 .cases e
def mU(f:DE):DT:=λt=>(f t).bind λr=>match r.d with
 |.WB ks=>Qs (!ks.isEmpty)
 |.WR ks _=>Qs (!ks.isEmpty)
 |_=>Qn
def K8(ha:PE X a (dE X.K F fa))(he:∀whole,isTrue a X.env whole=(do let v<-whole;standAt a.pos;holding [v] (truthy v)):=by intro _;rfl):PT X a (dT X.K F (mU fa)):=by
 rintro pins s σ H Q I ⟨A,t,k,R,e,h⟩;unfold mU at e;rcases e1:fa t with _|r
 .rw[e1]at e;cases e
 rw[e1]at e;simp at e;split at e
 .exact K7 ha he _ s σ H Q I ⟨A,t,k,R,by unfold AB;simp_all,h⟩
 .rename_i ks ds z;exact fh ha he _ s σ H Q I ⟨A,t,k,R,by unfold dh;rw[e1];simp only[RF,z];assumption,h⟩
 .cases e
def jJ(g:nh):DE:=λt=>(g t).bind λq=>if q.1.length<=1000&&q.2.isEmpty then Qs (.dn (.tup q.1)) else Qn
def ub(h:PA X es (dNs X.K F fns)):PE X (.Tuple es x1 pos) (dE X.K F (jJ fns)):=by
 refine PE.imp (ud h) ?_;rintro σ H Q ⟨A,t,r,R,e,h⟩;unfold jJ at e;rcases e1:fns t with _|q
 .rw[e1]at e;cases e
 obtain⟨ds,I⟩:=q;rw[e1]at e;refine cH e λok e=>?_;cases e;simp at ok;obtain⟨hl,rfl⟩:=ok;refine⟨A,t,ds,[],R,e1,λvs H1 B g1 n1 f1 r1=>⟨by rw[r1.length];exact ZZ (by lia),λp hp=>?_⟩⟩;have s1:=dZ (o:=HO.tup vs) hp;refine h _ _ (g1.trans s1) ⟨B,n1,λb hb=>?_,.tup (WG.of (bH bK λz=>(Ry.mp z).elim (eP r1.lists hp) (eP ((R.mu).mono g1) hp))) (Wf.mono (cD s1) r1 λb hb o w=>s1 _ _ w)⟩;rcases f1 b hb with w|⟨i,hi,_⟩
 .assumption
 .cases hi
def Ee(h1:lL g1)(h2:lL g2):lL (aB g1 g2):=λt o e=>by refine aA e λo1 e1 e=>?_;obtain⟨t1,rfl⟩:=h1 t _ e1;exact h2 _ o e
def Ef:lL (kB k i C f fa fb):=λt o e=>by refine aA e λr1 e1 e=>?_;refine aA e λr2 e2 e=>?_;obtain⟨_,_,_,_,_,_,_,_,_,_,_,h⟩:=uN (e);exact⟨_,h⟩
def ND{i a k s:Nat}:lL (mV i a k s C f1 f2):=λt o e=>by
 refine aA e λq _ e=>?_;refine aA e λn _ e=>?_;refine aA e λm _ e=>?_;refine cH e λ_ e=>?_;refine aA e λj1 _ e=>?_;refine aA e λj2 _ e=>?_;refine aA e λrows _ e=>?_;refine aA e λes0 _ e=>?_;refine aA e λxs _ e=>?_;refine aA e λzs _ e=>?_;refine aA e λws0 _ e=>?_;refine cH e λ_ e=>?_;refine aA e λus _ e=>?_;unfold zX at e;split at e
 .cases e;simp
 .obtain⟨t',_,rfl⟩:=Vm.mp e;lia
end
section
variable {X:Cx}{F:Ql ZE}
def qF:Ev->Ev->Qo Ev:=λr1 r2=>match r1.d,r2.d with
 |.lst xs,.lst ys=>(dX xs).bind λis=>(dX ys).map λjs=>.cl (.bl (TS.W6 is js))
 |_,_=>Qn
def Nv(hu:X.A.units+64<cLine):Xx X F (compareOp .Lt) qF:=by
 intro pins s σ H0 H A x y v u Q r1 r2 r I m g0 rx ry q1 q2 hc hq;unfold qF at hc;have p1:=q1.full;have p2:=q2.full;split at hc
 case h_2=>cases hc
 rename_i xs ys z1 z2;rw[z1]at p1;rw[z2]at p2;cases p1 with
 |@lst _ pa vs h1 h2=>
 cases p2 with
 |@lst _ pb ws g1 g2=>
  refine aA hc λis e1 hc=>?_;obtain⟨js,e2,rfl⟩:=Vm.mp hc;have x1:=kf e1;have x2:=kf e2;subst x1 x2;have v1:=iA h2;have v2:=iA g2;subst v1 v2;cases rx;cases ry;obtain⟨VU,w1,w2,_⟩:=I.list h1;obtain⟨XF,XU,Ys,_⟩:=I.list g1;have a1:=oN w1;have a2:=oN XU;have l1:=TS.zbe a1;have l2:=TS.zbe a2;have k:=SeqAt.zbU.zi1 (A:=X.A) (e:=λj=>decide _) (c:=λj=>decide (is.getD j 0<js.getD j 0)) (PlainL.XY w2) (PlainL.XY Ys) (by lia) (λj q1 q2=>by
   obtain⟨t1,e1⟩:=TS.zak a1 j _;obtain⟨t2,e2⟩:=TS.zak a2 j _;have Z5:VU.toArray[j]=.int _ _:=e1;have Z4:XF.toArray[j]=.int _ _:=e2;rw[Z5,Z4];exact λprog w E Q h=>wpAny_eqBool_int h) (λj q1 q2 _=>by
   obtain⟨t1,e1⟩:=TS.zak a1 j _;obtain⟨t2,e2⟩:=TS.zak a2 j _;have Z5:VU.toArray[j]=.int _ _:=e1;have Z4:XF.toArray[j]=.int _ _:=e2;rw[Z5,Z4];exact λprog w E Q h=>CmpOf.ints_lt (λn=>if n=0 then is.getD j 0 else js.getD j 0) (λ_ _ h=>h) 0 1 _ _ _ _ _ ⟨t1,rfl⟩ ⟨t2,rfl⟩ h)
  have sz1:VU.toArray.size=is.length:=‹_›;have sz2:XF.toArray.size=js.length:=‹_›;rw[sz1,sz2,TS.zeB]at k;exact k _ _ _ _ ⟨.bl _,H,I,rfl,hq _ H (VJ.refl H) (.bl _)⟩
end
theorem Al:∀{ds:Ql D}{n:Nat}{d:D},Wv ds=Qt->ds[n]?=Qs d->flat d=Qt
 |d::ds,0,_,h,e=>by cases e;simp only[Wv,RJ]at h;exact h.1
 |d::ds,n+1,_,h,e=>by simp only[Wv,RJ]at h;exact Al h.2 (e)
def oJ(t:Th)(i n:Nat)(r:Ev):Qo Out:=match t[i]?,toDn r with
 |some (.dp (.tup ds)),Qs d=>match ds[n]? with
  |some (.lst rows)=>if rows.length<100000 then Qs (.nx (t.set i (.dp (.tup (ds.set n (.lst (rows++[d]))))))) else Qn
  |_=>Qn
 |_,_=>Qn
def rV(i:Nat)(fb:DE)(f:DE):DS:=λt=>(j5 [fb] t).bind λns=>(f t).bind λr=>match ns with
 |[n]=>if 0<=n then oJ t i n.toNat r else Qn
 |_=>Qn
section
variable {X:Cx}{F:Ql ZE}{a o:ZG}{fa:DE}
def Dz(i:Nat) (ho:PE X o (plE X.K F i [fb]))(he:PE X a (dE X.K F fa))(WY:RM [a] X.env=[(Qf,eval a X.env)]:=by rfl) (zaq:attributeBase o "append" X.env (eval o X.env)=eval o X.env:=by rfl) (zao:((TV W5 (RM [a] X.env)).all (λx=>!x.1)&&(backToKw W5 (keywordEach [] X.env)).all (λx=>x.1.isSome)
   && decide ([a].length+([]:Ql Vz).length+(if([]:Ql Vz).isEmpty then 0 else 1)<30))=Qt:=by rfl) (zam:(apos.endLine==W5.line)=Qt:=by rfl) (zaJ:(TV W5 (RM [] X.env)).any (·.1)=Qf:=by rfl) (X8:swapsWith (.Call (.Attribute o "append" apos) [a] [] W5) Qn pos.line X.env=pure Qf:=by rfl):PS X (.Expr (.Call (.Attribute o "append" apos) [a] [] W5) pos) (dS X.K F (rV i fb fa)):=by
 refine PS.imp (n6 (ue TN Ti TH pX ho (fG he gx WY) zaq zao zam WY zaJ) X8) ?_;rintro E σ H ⟨A,t,o,R,e,h⟩;unfold rV at e;refine aA e λns e0 e=>?_;refine aA e λr e1 e=>?_;have ef:=e
 repeat clear e
 have e:=ef;clear ef;rcases ns with _|⟨n,_|⟨_,_⟩⟩
 .cases e
 case cons.cons=>cases e
 have e:(if 0<=n then oJ t i n.toNat r else Qn)=Qs o:=e;replace e:=Xz e;obtain⟨n0,e⟩:=e;unfold oJ at e;split at e
 case h_2=>cases e
 rename_i ds d z ed;split at e
 case h_2=>cases e
 rename_i rows z1;replace e:=Xz e;obtain⟨hl,e⟩:=e;cases e;obtain⟨v,B,A',a1,R',nb,dj,rd0,sub,YL⟩:=R.zcR z;cases rd0 with
 |flat f _=>exact absurd (Al (‹_›) z1) (by simp[flat])
 |@tup _ p us _ hp rs=>
  obtain⟨v1,B1,b1,b2,b3,b4,b5⟩:=rs.swap nb z1;cases b2 with
  |flat f _=>simp[flat]at f
  |@lst _ q ws Bq hq rq=>
   have hp':H p=Qs (.tup us):=(cN hp).2;have hnl:n.toNat<us.length:=(RZ.mp b1).1;refine⟨A,t,_,[n],.ref q,R,e0,a1,⟨p,us,.ref q,rfl,.inr (WG.of hp'),?_,rfl⟩,λH1 gs=>⟨.inl ⟨rfl,ws,V5.of (gs _ _ hq)⟩,A,t,r,R.grow gs,e1,λy H2 Wz qv=>⟨q,ws,y,rfl,rfl,Wz _ _ (gs _ _ hq),?_,?_⟩⟩⟩
   .unfold W7 XD
    simp_all
   .have:ws.length<100000:=by rw[rq.length];assumption
    exact RO this (by decide)
   .have g2:=gs.trans Wz;obtain⟨C,nC,fC,rC⟩:=(qv.toDn (R.mu.mono gs) Wz ed);have R2:RS X.K (C++F) H2 A t σ:=(R.grow gs).zhg Wz fC rC.lists;have cA:∀b∈C,b∉A++F:=λb hb=>eP (R.mu.mono gs) (fC b hb);have cF:∀b∈C,b∉F:=λb hb w=>cA b hb (Ru _ w);have hq2:=g2 _ _ hq;have hp2:=g2 _ _ hp';obtain⟨v',B',A2',a1',nB',zde,zh5,znE,_,zik,fin⟩:=R2.ze0 cF z;rw[a1]at a1';cases a1';cases zik with
    |flat f _=>exact absurd (Al (‹_›) z1) (by simp[flat])
    |@tup _ _ us' _ hp3 rs'=>
     obtain⟨pn,hp3⟩:=cN hp3;rw[hp2]at hp3;cases hp3;obtain⟨v1',B1',b1',b2',b3',b4',b5'⟩:=rs'.swap nB' z1;rw[b1]at b1';cases b1';cases b2' with
     |flat f _=>simp[flat]at f
     |@lst _ _ Yq Bq' hq3 rq'=>
      rw[hq2]at hq3;cases hq3;have qA:q∈A:=zde q (b3' q (Rz ..));generalize hH3:L2.upd H2 q (.lst (ws++[y]))=H3;have u1:∀b,b≠q->H3 b=H2 b:=λb n=>by rw[<-hH3];exact aY n
      have u2:H3 q=Qs (.lst (ws++[y])):=by rw[<-hH3];exact bK
      have S1:VJ (aj (A++(C++F)) H2) (aj (A++(C++F)) H3):=λb o h=>by obtain⟨n,h⟩:=cN h;exact bH (by rw[u1 b λz=>n (z▸Rw _ qA)];assumption) n
      have S2:VJ (aj (C++(A++F)) H2) (aj (A++(C++F)) H3):=λb o h=>by
       obtain⟨n,h⟩:=cN h;refine S1 b o (bH h λw=>?_)
       simp_all
      have n1:=RQ.mp b4';have qC:q∉C:=λw=>cA q w (Rw _ qA);have rC2:Wn X.K (aj (A++(C++F)) H3) H3 d y C:=Wn.mono S2 rC λb hb o w=>by rw[u1 b λz=>qC (z▸hb)];assumption
      have rq2:Wf X.K (aj (A++(C++F)) H3) H3 rows ws Bq':=Wf.mono S1 rq' λb hb o w=>by rw[u1 b λz=>n1.1 (z▸hb)];exact w
      obtain⟨C',c1,c2,c3⟩:=b5' _ H3 (.lst (rows++[d])) (.ref q) (q::(Bq'++C)) S1 (.lst u2 (Wf.snoc rC2 rq2)) (RQ.mpr ⟨λw=>(Ry.mp w).elim n1.1 qC,RI.mpr ⟨n1.2,nC,λx hx y hy e=>cA y hy (Rw _ (zde y (b3' y (Rx _ (e▸hx)))))⟩⟩) (λb hb=>by
       rcases RB.mp hb with w|w
       .exact .inl (w▸Rz ..)
       .rcases Ry.mp w with w|w
        .exact .inl (Rx _ w)
        .exact .inr λu=>cA b w (Rw _ (zde b u))) (λb hb n o w=>by rw[u1 b λz=>n (by rw[z];exact Rz ..)];exact w)
      rw[xg b1]at c1;have X7:∀b∈C',b∈B'\/b∈C:=λb hb=>by
       rcases c3 b hb with w|w
       .rcases RB.mp w with w|w
        .exact .inl (b3' b (w▸Rz ..))
        .rcases Ry.mp w with w|w
         .exact .inl (b3' b (Rx _ w))
         .exact .inr w
       .exact .inl w.1
      have sub:∀b∈A2'++(C'++F),b∈A++(C++F):=λb hb=>by
       rcases Ry.mp hb with w|w
       .exact Rw _ (zh5 b w)
       .rcases Ry.mp w with w|w
        .rcases X7 b w with w|w
         .exact Rw _ (zde b w)
         .exact Ru _ (Rw _ w)
        .exact Ru _ (Ru _ w)
      have pq:p≠q:=λw=>pn (w▸Rw _ qA);obtain⟨A3,d1,d2⟩:=fin H3 (.tup (ds.set n.toNat (.lst (rows++[d])))) C' (λb o n _ h=>by rw[u1 b λz=>n (by rw[z];exact b3' q (Rz ..))];exact h) c2 (λb hb=>(X7 b hb).imp id .inl) (.tup (WG.of (bH (by rw[u1 p pq];exact hp2) λw=>pn (sub p w))) (Wf.mono (bE H3 sub) c1 λ_ _ _ w=>w))
      refine h _ _ A3 ⟨λb o n w=>?_,λb hb=>?_,λb hb=>?_⟩ d1
      .rw[u1 b λz=>n (z▸qA)];exact g2 b o w
      .by_cases w:b=q
       .rw[w,u2];simp
       .obtain⟨us,k⟩:=R.mu b (Rw _ hb);rw[u1 b w,g2 b _ k];simp
      .have none_of:∀{H':Hp},VJ H H'->H' b=Qn->H b=Qn:=λ{H'} s k=>by
        cases w:H b with
        |none=>rfl
        |some o=>rw[s b o w]at k;cases k
       rcases d2 b hb with w|w|w
       .exact .inl w
       .exact .inr (none_of gs (fC b w))
       .exact .inr (none_of g2 w)
end
section
variable {X:Cx}{F:Ql ZE}{a:ZG}{fa:DE}{x:Str}
def gF(hN:X.N.Nodup)(i:Nat)(hi:X.N[i]?=Qs x:=by rfl)(hx:Loc X.env.scope x:=by exact jA rfl)(hf:autoParam (X.fn x=Qt\/X.env.scope.names.lookup x=Qs .local) qzB._auto_1):PG X (.Name x pos) (gf i):=ma hN hi hx hf
def cz(hN:X.N.Nodup)(i:Nat)(he:PE X a (dE X.K F fa))(hi:X.N[i]?=Qs x:=by rfl)(hx:Loc X.env.scope x:=by exact jA rfl)(hs:swapsWith a (Qs (.Name x pos')) pos.line X.env=pure Qf:=by rfl)(hf:autoParam (X.fn x=Qt\/X.env.scope.names.lookup x=Qs .local) qzB._auto_1):PS X (.Assign [.Name x pos'] a pos) (dS X.K F (aW i fa)):=Lg hN hi hx he hs hf
def j4(hN:X.N.Nodup)(i:Nat)(he:PE X a (wE ρ X.K F p fw))(hi:X.N[i]?=Qs x:=by rfl)(hx:Loc X.env.scope x:=by exact jA rfl)(hs:swapsWith a (Qs (.Name x pos')) pos.line X.env=pure Qf:=by rfl)(hf:autoParam (X.fn x=Qt\/X.env.scope.names.lookup x=Qs .local) qzB._auto_1):PS X (.Assign [.Name x pos'] a pos) (wS ρ X.K F p (fM i fw)):=Ld hN hi hx he hs hf
def gX(cap:Ql Nat)(N':Ql Str)(hc:X.calm=Qt)(hi:PI X (.Name x pos') iter (dI X.K F fs))(he:∀C s₃ H₃ fp pins F',PE (bC X N' scope C s₃ H₃ fp pins) elt (dE X.K F' fe)) (hd:N'.Nodup:=by decide+kernel) (h0:N'[0]?=Qs x:=by rfl) (hl:∀C s₃ H₃ fp pins,Loc (bC X N' scope C s₃ H₃ fp pins).env.scope x:=by intros;exact jA rfl) (hf:∀C s₃ H₃ fp pins,(bC X N' scope C s₃ H₃ fp pins).fn x=Qt\/(bC X N' scope C s₃ H₃ fp pins).env.scope.names.lookup x=Qs .local:=by intros;first|exact .inl rfl|exact .inr rfl) (Y9:scope.kind=.function:=by rfl) (Zb:lG scope.names X.env.kindOf=Qt:=by rfl) (hN:N'.length=1+cap.length:=by rfl) (XQ:jN N' X.N 1 scope.names 0 cap=Qt:=by rfl) (hs:∀x,foldedSetIterable iter X.env x=pure x:=by intro _;rfl):PE X (.ListComp elt [⟨.Name x pos',iter,[],0⟩] scope pos) (dE X.K F (aM 1 cap fs (cG 0) aZ fe)):=gW 1 _ _ hc hi (λC s₃ H₃ fp pins=>ma hd h0 (hl C _ _ _ _) (hf C _ _ _ _)) (λ_=>cQ 0) (λ_ _ _ _ _ _=>iY) he Y9 Zb hN XQ hs
end
def ck{N P:Ql Str}{sc:XW}(h1:sc.kind=.function:=by rfl)(h2:sc.isCoroutine=Qf:=by rfl)(h3:sc.isGenerator=Qf:=by rfl)(h5:N.take P.length=P:=by rfl)(h:(decide N.Nodup&&(decide (∀x∈P,sc.names.lookup x=Qs .local\/sc.names.lookup x=Qs .cell)&&decide (∀y∈sc.names,y.2≠.free)))=Qt:=by decide+kernel):WJ N P sc:=Kd h1 h2 h3 h5 h
def Py{st:ZH}(k:Nat)(Fn:L2.Wy K x qual st f fd)(S:WJ N ps (aN st))(g:DS) (ZM:∀(Wu:R8) (A:Ua) (outer:Ql Env) (s:R7) (H:Hp) (E:XK) (F:Ql ZE),Xa k (A.deeper (envOfC qual (aN st) s.heap.objs.size f Wu))->WH (iT dk P w K mg base N qual (aN st) f Wu A outer s H E).ZI (eE st) (dS K F g)) (hm:ps.length=m:=by rfl):XC P w K mg base dk (k+1) f fd ps (ZW K (cB m N g)):=PB Fn S (λ_ _ e=>hm▸NT e) g (λ_ _ e=>NS e) ZM
section
variable {x:Str}{st:ZH}{f:ZE}{hp:ZF}{mg:Str->Qo R8}
def Hv.df1(h:Hv K x st f)(X:K.In hp)(G:hp.Ns mainGlobals mg)(p0:Str)(hb:∀(kV doc pm:R8) (an:Qo ZE) (Wu ct:R8),∀a0:R8,bindArgs (SV x x (gK st) (eE st) (aN st) .none kV doc pm an Wu ct) ⟨[a0],[]⟩=pure [(p0,a0)]:=by intros;rfl):∃fd,Df K mg x st [p0] f fd:=let ⟨fd,u⟩:=h.fn
 ⟨fd,u,h.mg X G,Bg u hb⟩
def Hv.YD(h:Hv K x st f)(X:K.In hp)(G:hp.Ns mainGlobals mg)(p0 p1:Str)(hb:∀(kV doc pm:R8) (an:Qo ZE) (Wu ct:R8),∀a0 a1:R8,bindArgs (SV x x (gK st) (eE st) (aN st) .none kV doc pm an Wu ct) ⟨[a0,a1],[]⟩=pure [(p0,a0),(p1,a1)]:=by intros;rfl):∃fd,Df K mg x st [p0,p1] f fd:=let ⟨fd,u⟩:=h.fn
 ⟨fd,u,h.mg X G,sh u hb⟩
def Hv.df3(h:Hv K x st f)(X:K.In hp)(G:hp.Ns mainGlobals mg)(p0 p1 p2:Str)(hb:∀(kV doc pm:R8) (an:Qo ZE) (Wu ct:R8),∀a0 a1 a2:R8,bindArgs (SV x x (gK st) (eE st) (aN st) .none kV doc pm an Wu ct) ⟨[a0,a1,a2],[]⟩=pure [(p0,a0),(p1,a1),(p2,a2)]:=by intros;rfl):∃fd,Df K mg x st [p0,p1,p2] f fd:=let ⟨fd,u⟩:=h.fn
 ⟨fd,u,h.mg X G,vP u hb⟩
end
def Lf (n:Nat)(cap:Ql Nat)(N':Ql Str)(ZO:X.N.Nodup)(ZL:X.N[i]?=Qs y)(hy:Loc X.env.scope y)(hc:X.calm=Qt)(hi:PI X tg iter (dI X.K F fs)) (hg:∀C s₃ H₃ fp pins,PG (bC X N' scope C s₃ H₃ fp pins) tg g) (hk:∀F',cV X.K F' g kt) (ht:∀C s₃ H₃ fp pins F',XZ (bC X N' scope C s₃ H₃ fp pins) ifs (dT X.K F' ft)) (hkx:∀C s₃ H₃ fp pins F',PE (bC X N' scope C s₃ H₃ fp pins) kx (dE X.K F' fk)) (hvx:∀C s₃ H₃ fp pins F',PE (bC X N' scope C s₃ H₃ fp pins) vx (dE X.K F' fv)) (X8:swapsWith (.DictComp kx vx [⟨tg,iter,ifs,0⟩] scope pos) (Qs (.Name y py)) Zl.line X.env=pure Qt:=by rfl) (hf:X.fn y=Qt\/X.env.scope.names.lookup y=Qs .local:=by first|exact .inl rfl|exact .inr rfl) (Y9:scope.kind=.function:=by rfl) (Zb:lG scope.names X.env.kindOf=Qt:=by rfl) (hN:N'.length=n+cap.length:=by rfl) (XQ:jN N' X.N n scope.names 0 cap=Qt:=by rfl) (hs:∀x,foldedSetIterable iter X.env x=pure x:=by intro _;rfl):PS X (.Assign [.Name y py] (.DictComp kx vx [⟨tg,iter,ifs,0⟩] scope pos) Zl) (dS X.K F (aW i (vJ n cap fs kt ft fk fv))):=by
 refine PS.imp (Lu (tt:=λσ H Q=>∃F',dT _ _ _ σ H Q) (tk:=λσ H Q=>∃F',dE _ _ _ σ H Q) (tv:=λσ H Q=>∃F',dE _ _ _ σ H Q) (rW Y9 Zb) hc hi hN (λk j e=>by simpa using oX XQ k j e) hg (λC s₃ H₃ fp pins Y6 s σ H Q I ⟨F',q⟩=>ht C _ _ _ _ F' _ s σ H Q I q) (λC s₃ H₃ fp pins Y6 s σ H Q I ⟨F',q⟩=>hkx C _ _ _ _ F' _ s σ H Q I q) (λC s₃ H₃ fp pins Y6 s σ H Q I ⟨F',q⟩=>hvx C _ _ _ _ F' _ s σ H Q I q) ZO ZL hy X8 hf hs) ?_;rintro E σ H ⟨A,t,o,R,e,h⟩;refine aA e λr1 e1 e=>?_;rcases e2:dR t i _ with _|t'
 .rw[e2]at e;cases e
 rw[e2]at e;cases e;refine Jp hk ⟨A,t,r1,R,e1,λv H' gs q=>?_⟩;obtain⟨A',g',R'⟩:=R.put gs q e2;exact h _ _ _ g' R'
section
variable {X:Cx}{p q:Pos}{x y:Str}{k:Nat}
def gV(i:Nat)(hN:X.N.Nodup:=by exact of_decide_eq_true rfl)(hi:X.N[i]?=Qs x:=by rfl)(hx:Loc X.env.scope x:=by exact jA rfl)(hf:autoParam (X.fn x=Qt\/X.env.scope.names.lookup x=Qs .local) qzB._auto_1):PG X (.Name x pos) (gf i):=ma hN hi hx hf
def eh(hN:X.N.Nodup)(i j:Nat)(hc:X.calm=Qt:=by rfl)(hi:X.N[i]?=Qs x:=by rfl)(hj:X.N[j]?=Qs y:=by rfl)(hx:Loc X.env.scope x:=by exact jA rfl)(hy:Loc X.env.scope y:=by exact jA rfl) (hf:autoParam (X.fn x=Qt\/X.env.scope.names.lookup x=Qs .local) qzB._auto_1) (hg:autoParam (X.fn y=Qt\/X.env.scope.names.lookup y=Qs .local) qzB._auto_1) (hn:(assignEach [.Name x p,.Name y q] X.env).length=2:=by rfl) (WY:(assignEach [.Name x p,.Name y q] X.env).findIdx? (·.1)=Qn:=by rfl):PG X (.Tuple [.Name x p,.Name y q] k pos) (rf X.K 2 (ja (gf i) (ja (gf j) mN))):=yJ hc (k8 (ma hN hi hx hf) (k8 (ma hN hj hy hg) t9)) hn WY
def yM(hN:X.N.Nodup)(i j:Nat)(hc:X.calm=Qt:=by rfl)(hi:X.N[i]?=Qs x:=by rfl)(hj:X.N[j]?=Qs y:=by rfl)(hx:Loc X.env.scope x:=by exact jA rfl)(hy:Loc X.env.scope y:=by exact jA rfl) (hf:autoParam (X.fn x=Qt\/X.env.scope.names.lookup x=Qs .local) qzB._auto_1) (hg:autoParam (X.fn y=Qt\/X.env.scope.names.lookup y=Qs .local) qzB._auto_1) (hn:(assignEach [.Name x p,.Name y q] X.env).length=2:=by rfl) (WY:(assignEach [.Name x p,.Name y q] X.env).findIdx? (·.1)=Qn:=by rfl):PG X (.Tuple [.Name x p,.Name y q] k pos) (rh X.K 2 (ja (gf i) (ja (gf j) mN))):=LY hc (k8 (ma hN hi hx hf) (k8 (ma hN hj hy hg) t9)) hn WY
end
def d5{F:Ql ZE}(i j:Nat):cV K F (rf K 2 (ja (gf i) (ja (gf j) mN))) (bq 2 (cI (cG i) (cI (cG j) gc))):=wM (kK (cQ i) (kK (cQ j) sS))
def wN{F:Ql ZE}(i j:Nat):cV K F (rh K 2 (ja (gf i) (ja (gf j) mN))) (kj 2 (cI (cG i) (cI (cG j) gc))):=Jm (kK (cQ i) (kK (cQ j) sS))
section
variable (P:Te)(w:UX)(base:Yp)(mg:Str->Qo R8){x qual:Str}{st:ZH}{f:ZE}{fd:Ud}{N ps:Ql Str}
def cM(k:Nat)(S:WJ N ps (aN st))(g:DS)(Fn:L2.Wy K x qual st f fd) (b:∀{Wu:R8}{A:Ua}{outer:Ql Env}{s:R7}{H:Hp}{E:XK}{F:Ql ZE},Xa k (A.deeper (envOfC qual (aN st) s.heap.objs.size f Wu))->WH (iT dk P w K mg base N qual (aN st) f Wu A outer s H E).ZI (eE st) (dS K F g)):XC P w K mg base dk (k+1) f fd ps (ZW K (cB ps.length N g)):=Py k Fn S g (λ_ _ _ _ _ _ _ hr=>b hr) rfl
def pU(k:Nat)(S:WJ N ps (aN st))(g:ZE->WS au)(Fn:L2.Wy K x qual st f fd) (b:∀{Wu:R8}{A:Ua}{outer:Ql Env}{s:R7}{H:Hp}{E:XK}{F:Ql ZE}{p:ZE},Xa k (A.deeper (envOfC qual (aN st) s.heap.objs.size f Wu))->WH (iT dk P w K mg base N qual (aN st) f Wu A outer s H E).ZI (eE st) (wS au K F p (g p))):XC P w K mg base dk (k+1) f fd ps (spX au K (iG ps.length N g)):=Px LK Fn S rfl g λ_ _ _ _ _ _ _ _ hr=>b hr
def uh(k:Nat)(S:WJ N ps (aN st))(g:DS)(Fn:L2.Wy K x qual st f fd) (b:∀{Wu:R8}{A:Ua}{outer:Ql Env}{s:R7}{H:Hp}{E:XK}{F:Ql ZE},Xa k (A.deeper (envOfC qual (aN st) s.heap.objs.size f Wu))->WH (iT dk P w K mg base N qual (aN st) f Wu A outer s H E).ZI (eE st) (dP K F [0] g)):XC P w K mg base dk (k+1) f fd ps (spO K (mn ps.length N g)):=Pz Fn S rfl g λ_ _ _ _ _ _ _ hr=>b hr
end
end DL
end QZ
variable{nt:Nat}{st:Int}{K:Ql Int}
namespace KX
open PySem.Spec L2 DL
abbrev d8:=mz (kI gR λi j=>.int (i+j)) lB
abbrev qS:=kI gR λi j=>.int (i-j)
abbrev qM:=mz (kI ZS λi j=>.int (i*j)) zD
abbrev qV:=kI Z7 λi j=>.int (i.fdiv j)
abbrev qR:=kI mY λi j=>.int (i.fmod j)
abbrev qL:=kI gR λi j=>.bl (decide (i<j))
abbrev qE:=kI gR λi j=>.bl (decide (i<=j))
abbrev qG:=kI gR λi j=>.bl (decide (j<i))
abbrev qH:=kI gR λi j=>.bl (decide (j<=i))
abbrev qN:=mC λi j=>if j<i then j else i
abbrev qX:=mC λi j=>if j>i then j else i
abbrev qU:=oI λbs=>bs.all id
abbrev qY:=oI λbs=>bs.any id
abbrev qP:=kI sf λi j=>.int (i^j.toNat)
abbrev ah:=af 0
abbrev av:=af 1
abbrev aK:=af 2
abbrev bw:=af 3
abbrev bh:=af 4
abbrev cK:=af 5
abbrev c9:=af 6
abbrev gk:=af 7
abbrev aU:=dC (.int 0)
abbrev aX:=dC (.int 1)
abbrev gE:=dC (.int 2)
abbrev sN:=dC (.int 3)
abbrev sM:=dC (.int 6)
abbrev l6:=dC (.bl Qf)
abbrev jm:=dC .Wj
abbrev jS:=dC (.bl Qt)
abbrev bo:=cG 0
abbrev wB:=cG 1
abbrev jl:=cG 4
abbrev nF:=cG 3
abbrev fK:=bW l6
abbrev kJ:=ae av aq
abbrev gm:=ae aK aq
abbrev nE:=cG 2
abbrev kH:=cG 6
abbrev gQ:=ae bw aq
abbrev gP:=cu au ah
abbrev l5:=cG 5
abbrev iu:=ae cK aq
abbrev jj:=ae ah aq
abbrev ph:=ae gk aq
abbrev wz:=cG 7
abbrev kG:=ae aX aq
abbrev lZ:=ae bh aq
abbrev lY:=ae c9 aq
abbrev lX:=cu au av
abbrev IA:=cI wB gc
abbrev ji:=ae ah kJ
abbrev Iz:=cI nF gc
abbrev Iy:=cI wz gc
abbrev nD:=ae cK ph
abbrev Iw:=cI l5 gc
abbrev Iv:=cI jl gc
abbrev dF:=cI bo IA
abbrev jR:=cI nE Iz
abbrev lW:=cI kH Iy
abbrev ny:=cI jl Iw
abbrev pf:=cI nF Iv
noncomputable def cj(i:Nat):ZH:=PySem.Challenge.pw_nearenough_k66_whole_told_joinings.main.body.getD i (.Pass ⟨0,0,0,0⟩)
abbrev xQ:ZH:=cj 1
abbrev xN:ZH:=cj 2
abbrev xm:ZH:=cj 3
abbrev xo:ZH:=cj 9
abbrev tG:ZH:=cj 10
abbrev xZ:ZH:=kc (cj 11) 0
abbrev xW:ZH:=kc (cj 11) 1
abbrev xU:ZH:=kc (cj 11) 2
abbrev xY:ZH:=kc (cj 11) 3
abbrev xR:ZH:=kc (cj 11) 4
abbrev xV:ZH:=kc (cj 11) 5
abbrev xS:ZH:=kc (cj 11) 6
abbrev xX:ZH:=kc (cj 11) 7
abbrev xT:ZH:=kc (cj 11) 8
abbrev xk:ZH:=cj 13
abbrev xO:ZH:=cj 15
abbrev xM:ZH:=cj 16
abbrev xj:ZH:=cj 17
abbrev xn:ZH:=cj 18
abbrev xK:ZH:=cj 19
abbrev xl:ZH:=cj 20
abbrev tD:ZH:=cj 21
abbrev xB:ZH:=cj 23
abbrev xy:ZH:=cj 24
abbrev xt:ZH:=cj 25
abbrev xv:ZH:=cj 26
abbrev xu:ZH:=cj 27
abbrev xA:ZH:=cj 28
abbrev xG:ZH:=cj 29
abbrev xp:ZH:=cj 30
abbrev xD:ZH:=cj 31
abbrev xF:ZH:=cj 32
abbrev xE:ZH:=cj 33
abbrev xC:ZH:=cj 34
abbrev xw:ZH:=cj 35
abbrev xx:ZH:=cj 36
abbrev xH:ZH:=cj 37
abbrev xI:ZH:=cj 38
abbrev tF:ZH:=cj 39
abbrev tE:ZH:=cj 40
abbrev xJ:ZH:=cj 41
structure W8(mg:Str->Option R8):Prop where
 zf0:mg "abs"=Qn
 zd3:mg "all"=Qn
 zfZ:mg "any"=Qn
 ziK:mg "bool"=Qn
 zce:mg "enumerate"=Qn
 ziJ:mg "int"=Qn
 za9:mg "isinstance"=Qn
 YK:mg "len"=Qn
 YU:mg "list"=Qn
 zfY:mg "max"=Qn
 zd2:mg "min"=Qn
 Y7:mg "range"=Qn
 zbA:mg "sorted"=Qn
 zd1:mg "sum"=Qn
 zfX:mg "tuple"=Qn
 zfW:mg "zip"=Qn
noncomputable section
variable {P:Te}{w:UX}{K:Rv}{mg:Str->Qo R8}{base:Yp}{ad:ZE}{fd:Ud}
def zfx:WJ ["one","other"] ["one","other"] (aN xQ):=ck
def rY:DS:=(jI 0 1 (ae av (ae (d2 qR ah av) aq)))
def GC:DS:=(aB (lE (rB 1) (aD (d2 bV av aU)) rY) (bW (ag qK jj)))
def o9:Ql D->Qo Ev:=cB 2 ["one","other"] GC
def Nf(Fn:L2.Wy K "common_factor" "common_factor" xQ ad fd)(bu:W8 mg):=cM P w base mg 0 zfx GC Fn λhr=>aQ (tU (rB 1) PassesOwn.never (bN (fq hr.units) (aa 1) az) (aL (yv (i:=0) (j:=1) rfl zfx.nd rfl rfl (by decide) rfl rfl (ai (aa 1) (ai (bL j7 (aa 0) (aa 1)) aw)) rfl))) (aL (bS (cE HD rfl bu.zf0 HI (ai (aa 0) aw))))
def zdO:WJ ["top","bottom","factor"] ["top","bottom"] (aN xN):=ck
def GA:DS:=(aB (aW 2 (ag (aH o9) ji)) (aB (bO (aD (d2 qL av aU)) (aW 2 (d1 oE aK)) cw) (bW (ag cX (ae (d2 qV ah aK) (ae (d2 qV av aK) aq))))))
def lU:Ql D->Qo Ev:=cB 2 ["top","bottom","factor"] GA
def Nc(Fn:L2.Wy K "fraction" "fraction" xN ad fd)(bu:W8 mg)(zeW:Xk P w K mg base "common_factor" 1 o9):=cM P w base mg 1 zdO GA Fn λhr=>aQ (cz zdO.nd 2 (cC zeW hr.mono (ai (aa 0) (ai (aa 1) aw)))) (aQ (cS (bN j8 (aa 1) az) (aL (cz zdO.nd 2 (yO (aa 2)))) cT) (aL (bS (iF (ai (bL j9 (aa 0) (aa 2)) (ai (bL j9 (aa 1) (aa 2)) aw))))))
def zcX:WJ ["parts","bottom","part"] ["parts"] (aN xm):=ck
def Gb:DS:=(aB (aW 1 aX) (aB (fH nE ah (aW 1 (d2 qM (d2 qV av (ag (aH o9) (ae av (ae (d2 ao aK aX) aq)))) (d2 ao aK aX)))) (bW (ag cX (ae (aM 1 [1] (bA ah) bo aZ (d2 qM (d2 ao ah aU) (d2 qV av (d2 ao ah aX)))) kJ)))))
def sE:Ql D->Qo Ev:=cB 1 ["parts","bottom","part"] Gb
def MJ(Fn:L2.Wy K "over_one_bottom" "over_one_bottom" xm ad fd)(bu:W8 mg)(zeW:Xk P w K mg base "common_factor" 1 o9):=cM P w base mg 1 zcX Gb Fn λhr=>aQ (cz zcX.nd 1 az) (aQ (j6 PassesOwn.never rfl (aa 0) (gF zcX.nd 2) (cQ 2) (aL (cz zcX.nd 1 (bL (Ya.or eO) (bL j9 (aa 1) (cC zeW hr.mono (ai (aa 1) (ai (aS (aa 2) az) aw)))) (aS (aa 2) az))))) (aL (bS (iF (ai (gX [1] ["part","bottom"] rfl (dJ (aa 0)) (λ_ _ _ _ _ _=>(bL (Ya.or eO) (aS (aa 0) az) (bL j9 (aa 1) (aS (aa 0) az))))) (ai (aa 1) aw))))))
def zbs:WJ ["web","numbers","many","ties","least","at","low","high"] ["web","numbers"] (aN xo):=ck
def Bj:DS:=(aB (dY (kj 2 lW) (ag iI (ae (aM 1 [4] (g4 (d2 ao bw cK)) bo aZ (d2 ao av ah)) aq))) (aW 4 (aM 1 [6,7] (bA bh) bo aZ (vC (aD (d2 ez ah aK)) av ah))))
def z8:DS:=(aB (dY (bq 2 jR) ah) (aB (aW 4 (jd gm)) (aB (fH l5 av Bj) (g8 4))))
def sG:Ql D->Qo Ev:=cB 2 ["web","numbers","many","ties","least","at","low","high"] z8
def MN(Fn:L2.Wy K "least_led_to" "least_led_to" xo ad fd)(bu:W8 mg):=cM P w base mg 0 zbs z8 Fn λhr=>aQ (l9 (aa 0) (eh zbs.nd 2 3) (d5 2 3)) (aQ (cz zbs.nd 4 (uc rfl rfl bu.YU rfl bu.Y7 (ai (aa 2) aw))) (aQ (j6 PassesOwn.never rfl (aa 1) (gF zbs.nd 5) (cQ 5) (aQ (l9 (cE rZ rfl bu.zbA boot_sorted (ai (gX [4] ["end","least"] rfl (pR (aS (aa 3) (aa 5))) (λ_ _ _ _ _ _=>(aS (aa 1) (aa 0)))) aw)) (yM zbs.nd 6 7) (wN 6 7)) (aL (cz zbs.nd 4 (gX [6,7] ["own","low","high"] rfl (dJ (aa 4)) (λ_ _ _ _ _ _=>(L6 (bN (jx hr.units) (aa 0) (aa 2)) (aa 1) (aa 0)))))))) (aL (kX 4))))
def za5:WJ ["web","weights","areas","widths","ties","left","points","width","inside","at","one","other"] ["web","weights","areas","widths"] (aN tG):=ck
def Bk:DS:=(bO (aD (d2 bV (d2 (lq Qf) (af 10) (af 8)) (d2 (lq Qf) (af 11) (af 8)))) (rS (λi j=>i-j) 5 (af 9) gk) cw)
def HY:DS:=(aB (aW 8 (vJ 1 [] (bA c9) bo aZ ah jS)) (oW (bq 2 (cI (cG 9) (cI (bq 2 (cI (cG 10) (cI (cG 11) gc))) gc))) bh Bk))
def GD:DS:=(aB (aW 4 (d2 ao ah aX)) (aB (aW 5 (ag fZ kJ)) (aB (AA (bq 2 lW) aK bw HY) (bW (ag qU (ae (aM 1 [] (bA cK) bo aZ (d2 qH ah aU)) aq))))))
def wm:Ql D->Qo Ev:=cB 4 ["web","weights","areas","widths","ties","left","points","width","inside","at","one","other"] GD
def Ng(Fn:L2.Wy K "are_within_weights" "are_within_weights" tG ad fd)(bu:W8 mg):=cM P w base mg 0 za5 GD Fn λhr=>aQ (cz za5.nd 4 (aS (aa 0) az)) (aQ (cz za5.nd 5 (mf mX rfl bu.YU jO (ai (aa 1) aw))) (aQ (Le PassesOwn.never rfl rfl bu.zfW (aa 2) (aa 3) (eh za5.nd 6 7) (d5 6 7) (aQ (Lf (i:=8) 1 [] ["point"] za5.nd rfl (Or.inl rfl) rfl (dJ (aa 6)) (λ_ _ _ _ _=>(gV 0)) (λ_=>(cQ 0)) (λ_ _ _ _ _ _=>iY) (λ_ _ _ _ _ _=>(aa 0)) (λ_ _ _ _ _ _=>eN)) (aL (yy PassesOwn.never rfl rfl bu.zce (aa 4) (yJ rfl (k8 (gF za5.nd 9) (k8 (eh za5.nd 10 11) t9))) (wM (kK (cQ 9) (kK (d5 10 11) sS))) (aL (cS (bN (fq hr.units) (fj (D8 hr.units) (aa 10) (aa 8)) (fj (D8 hr.units) (aa 11) (aa 8))) (aL (Lm 5 OY (aa 9) (aa 7))) cT)))))) (aL (bS (cE (r6 (A7 rfl)) rfl bu.zd3 (by decide+kernel) (ai (gX [] ["still"] rfl (dJ (aa 5)) (λ_ _ _ _ _ _=>(fj Nz (aa 0) az))) aw))))))
def zfD:WJ ["self","web","weights","many","ties"] ["self","web","weights"] (aN xZ):=ck
def ve(C:ZE):DS:=(aB (dY (bq 2 pf) av) (aB (gh 0 C "ties" (ag fZ lZ)) (aB (gh 0 C "weights" (ag fZ gm)) (aB (gh 0 C "parts" aX) (aB (gh 0 C "taken" (ag cY aq)) (aB (gh 0 C "points" (jL 1 [] (km bw) bo aZ (ag cY jj))) (aB (gh 0 C "widths" (d2 qM (ag cY (ae aU aq)) bw)) (aB (gh 0 C "paid" (d2 qM (ag cY (ae aU aq)) bw)) (aB (gh 0 C "around" (d2 qM (ag cY (ae aU aq)) bw)) (gh 0 C "piece_of" (jd gQ)))))))))))
def sJ(C:ZE):Ql D->Qo D:=mn 3 ["self","web","weights","many","ties"] (ve C)
def Nq{C:ZE}(cl:Xb K C)(YV:Wx K C "around")(YJ:Wx K C "paid")(Zm:Wx K C "parts")(YT:Wx K C "piece_of")(YI:Wx K C "points")(zah:Wx K C "taken")(Yt:Wx K C "ties")(zbz:Wx K C "weights")(Yu:Wx K C "widths")(Fn:L2.Wy K "__init__" "Pieces.__init__" xZ ad fd)(bu:W8 mg):=uh P w base mg 0 zfD (ve C) Fn λhr=>(fB (DG (aa 1) (eh zfD.nd 3 4) (d5 3 4) (OD (uH (uG (by decide)) (uH (uG (by decide)) Fv)))) (fB (iE 0 cl Yt (mf mX rfl bu.YU jO (ai (aa 4) aw))) (fB (iE 0 cl zbz (mf mX rfl bu.YU jO (ai (aa 2) aw))) (fB (iE 0 cl Zm az) (fB (iE 0 cl zah (fF aw)) (fB (iE 0 cl YI (yP 1 [] ["point"] rfl (yH rfl bu.Y7 (aa 3)) (λ_ _ _ _ _=>(gV 0)) (λ_=>(cQ 0)) (λ_ _ _ _ _ _=>iY) (λ_ _ _ _ _ _=>(fF (ai (aa 0) aw))))) (fB (iE 0 cl Yu (bL (Ya.or eO) (fF (ai az aw)) (aa 3))) (fB (iE 0 cl YJ (bL (Ya.or eO) (fF (ai az aw)) (aa 3))) (fB (iE 0 cl YV (bL (Ya.or eO) (fF (ai az aw)) (aa 3))) (n8 (iE 0 cl YT (uc rfl rfl bu.YU rfl bu.Y7 (ai (aa 3) aw)))))))))))))
def zfB:WJ ["self","at","growing","one","other"] ["self","at","growing"] (aN xW):=ck
def Af(C:ZE):DS:=(aB (dY (kj 2 pf) (aM 1 [0] (g4 (d2 ao (d1 (aP C "ties") ah) av)) bo aZ (d2 ao (d1 (aP C "piece_of") av) ah))) (aB (bO (aD (d2 ez bw bh)) (bW aU) cw) (bW (ag cb (ae (aM 1 [2] (g4 (ag cX (ae bw lZ))) bo (aD (d2 (qI Qf) ah av)) ah) aq)))))
def m7(C:ZE):Ql D->Qo Ev:=cB 3 ["self","at","growing","one","other"] (Af C)
def Nm{C:ZE}(cl:Xb K C)(YT:Wx K C "piece_of")(Yt:Wx K C "ties")(Fn:L2.Wy K "growing_beside" "Pieces.growing_beside" xW ad fd)(bu:W8 mg):=cM P w base mg 0 zfB (Af C) Fn λhr=>aQ (l9 (gX [0] ["end","self"] rfl (pR (aS (du cl Yt (aa 0)) (aa 1))) (λ_ _ _ _ _ _=>(aS (du cl YT (aa 1)) (aa 0)))) (yM zfB.nd 3 4) (wN 3 4)) (aQ (cS (bN (jx hr.units) (aa 3) (aa 4)) (aL (bS az)) cT) (aL (bS (cE gN rfl bu.YK PySem.boot_len (ai (gW 1 [2] ["piece","growing"] rfl (pR (iF (ai (aa 3) (ai (aa 4) aw)))) (λ_ _ _ _ _=>(gV 0)) (λ_=>(cQ 0)) (λ_ _ _ _ _ _=>(iC (bN (Ny hr.units) (aa 0) (aa 1)))) (λ_ _ _ _ _ _=>(aa 0))) aw)))))
def zfA:WJ ["self","at","one","other"] ["self","at"] (aN xU):=ck
def Ae(C:ZE):DS:=(aB (dY (bq 2 jR) (d2 ao (d1 (aP C "ties") ah) av)) (bW (d2 qS (d2 qS (d2 qM (d2 ao (d1 (aP C "weights") ah) av) (d1 (aP C "parts") ah)) (d2 ao (d1 (aP C "around") ah) aK)) (d2 ao (d1 (aP C "around") ah) bw))))
def lV(C:ZE):Ql D->Qo Ev:=cB 2 ["self","at","one","other"] (Ae C)
def Nk{C:ZE}(cl:Xb K C)(YV:Wx K C "around")(Zm:Wx K C "parts")(Yt:Wx K C "ties")(zbz:Wx K C "weights")(Fn:L2.Wy K "left_between" "Pieces.left_between" xU ad fd)(bu:W8 mg):=cM P w base mg 0 zfA (Ae C) Fn λhr=>aQ (l9 (aS (du cl Yt (aa 0)) (aa 1)) (eh zfA.nd 2 3) (d5 2 3)) (aL (bS (bL ui (bL ui (bL (Ya.or eO) (aS (du cl zbz (aa 0)) (aa 1)) (du cl Zm (aa 0))) (aS (du cl YV (aa 0)) (aa 2))) (aS (du cl YV (aa 0)) (aa 3)))))
def zfC:WJ ["self","growing","at"] ["self","growing"] (aN xY):=ck
def GG(C:ZE):DS:=(aB (oT nE (ag cb (ae (d1 (aP C "ties") ah) aq)) (bO (ir (aD (d2 qG (cZ C "growing_beside" (m7 C) ah (ae aK kJ)) aU)) (aD (d2 qE (cZ C "left_between" (lV C) ah gm) aU))) (g8 2) cw)) (bW jm))
def BQ(C:ZE):Ql D->Qo Ev:=cB 2 ["self","growing","at"] (GG C)
def Np{C:ZE}(cl:Xb K C)(Yt:Wx K C "ties")(Fn:L2.Wy K "first_full" "Pieces.first_full" xY ad fd)(bu:W8 mg)(zeY:zaz P w K mg base C "growing_beside" 1 (m7 C))(zeX:zaz P w K mg base C "left_between" 1 (lV C)):=cM P w base mg 1 zfC (GG C) Fn λhr=>aQ (Dx PassesOwn.never rfl rfl bu.Y7 (cE gN rfl bu.YK PySem.boot_len (ai (du cl Yt (aa 0)) aw)) (gF zfC.nd 2) (cQ 2) (aL (cS (L2.PW.pt (l8 (bN mm (oh cl zeY hr.mono (aa 0) (ai (aa 2) (ai (aa 1) aw))) az) (nY (bN yV (oh cl zeX hr.mono (aa 0) (ai (aa 2) aw)) az)))) (aL (kX 2)) cT))) (aL (bS og))
def zc3:WJ ["self","at","one","other","joined","point"] ["self","at"] (aN xR):=ck
def vc(C:ZE):DS:=(aB (dY (kj 2 jR) (aM 1 [0] (g4 (d2 ao (d1 (aP C "ties") ah) av)) bo aZ (d2 ao (d1 (aP C "piece_of") av) ah))) (aB (aW 4 (ag iI (ae (d2 d8 (d2 ao (d1 (aP C "points") ah) aK) (d2 ao (d1 (aP C "points") ah) bw)) aq))) (aB (vF 4 5 (oV 0 C "piece_of" cK (ag cb (ae (d1 (aP C "points") ah) aq)))) (aB (vH 0 4 C "points") (aB (mW 0 C "widths" aU) (aB (mW 0 C "paid" (d2 d8 (d2 ao (d1 (aP C "paid") ah) aK) (d2 ao (d1 (aP C "paid") ah) bw))) (mW 0 C "taken" av)))))))
def BM(C:ZE):Ql D->Qo D:=mn 2 ["self","at","one","other","joined","point"] (vc C)
def Nh{C:ZE}(cl:Xb K C)(YJ:Wx K C "paid")(YT:Wx K C "piece_of")(YI:Wx K C "points")(zah:Wx K C "taken")(Yt:Wx K C "ties")(Yu:Wx K C "widths")(Fn:L2.Wy K "take" "Pieces.take" xR ad fd)(bu:W8 mg):=uh P w base mg 0 zc3 (vc C) Fn λhr=>(fB (DG (gX [0] ["end","self"] rfl (pR (aS (du cl Yt (aa 0)) (aa 1))) (λ_ _ _ _ _ _=>(aS (du cl YT (aa 1)) (aa 0)))) (yM zc3.nd 2 3) (wN 2 3) (OE (uH (uG (by decide)) (uH (uG (by decide)) Fv)))) (fB (LA (i:=4) (by decide) zc3.nd rfl (jA rfl) (cE rZ rfl bu.zbA boot_sorted (ai (bL (YH.or gI) (aS (du cl YI (aa 0)) (aa 2)) (aS (du cl YI (aa 0)) (aa 3))) aw))) (fB (Lz (J:=[0,4]) (LF (by decide) (by decide) PassesOwn.never rfl (gF zc3.nd 5) (n8 (LD 0 cl YT (aa 5) (cE gN rfl bu.YK PySem.boot_len (ai (du cl YI (aa 0)) aw)))))) (fB (LH 0 4 cl YI) (fB (yC 0 cl Yu az) (fB (yC 0 cl YJ (bL (YH.or gI) (aS (du cl YJ (aa 0)) (aa 2)) (aS (du cl YJ (aa 0)) (aa 3)))) (n8 (yC 0 cl zah (aa 1)))))))))
def Kn:WJ ["self"] ["self"] (aN xV):=ck
def vd(C:ZE):DS:=(aB (vI 0 C "parts" gE) (aB (gh 0 C "widths" (aM 1 [] (bA (d1 (aP C "widths") ah)) bo aZ (d2 qM gE ah))) (aB (gh 0 C "paid" (aM 1 [] (bA (d1 (aP C "paid") ah)) bo aZ (d2 qM gE ah))) (gh 0 C "around" (aM 1 [] (bA (d1 (aP C "around") ah)) bo aZ (d2 qM gE ah))))))
def BO(C:ZE):Ql D->Qo D:=mn 1 ["self"] (vd C)
def Nl{C:ZE}(cl:Xb K C)(YV:Wx K C "around")(YJ:Wx K C "paid")(Zm:Wx K C "parts")(Yu:Wx K C "widths")(Fn:L2.Wy K "halve_parts" "Pieces.halve_parts" xV ad fd)(bu:W8 mg):=uh P w base mg 0 Kn (vd C) Fn λhr=>(fB (LI 0 cl Zm az) (fB (iE 0 cl Yu (gX [] ["width"] rfl (dJ (du cl Yu (aa 0))) (λ_ _ _ _ _ _=>(bL (Ya.or eO) az (aa 0))))) (fB (iE 0 cl YJ (gX [] ["width"] rfl (dJ (du cl YJ (aa 0))) (λ_ _ _ _ _ _=>(bL (Ya.or eO) az (aa 0))))) (n8 (iE 0 cl YV (gX [] ["width"] rfl (dJ (du cl YV (aa 0))) (λ_ _ _ _ _ _=>(bL (Ya.or eO) az (aa 0)))))))))
def zfy:WJ ["self","growing","beside"] ["self","growing"] (aN xS):=ck
def Ac(C:ZE):DS:=(aB (aW 2 (aM 1 [1,0] (km (ag cb (ae (d1 (aP C "ties") ah) aq))) bo aZ (cZ C "growing_beside" (m7 C) aK ji))) (bW (aM 2 [0] (mO aK) (bq 2 dF) (aD (d2 qG av aU)) (d2 qV (cZ C "left_between" (lV C) aK jj) av))))
def BN(C:ZE):Ql D->Qo Ev:=cB 2 ["self","growing","beside"] (Ac C)
def Ni{C:ZE}(cl:Xb K C)(Yt:Wx K C "ties")(Fn:L2.Wy K "steps_to_full" "Pieces.steps_to_full" xS ad fd)(bu:W8 mg)(zeY:zaz P w K mg base C "growing_beside" 1 (m7 C))(zeX:zaz P w K mg base C "left_between" 1 (lV C)):=cM P w base mg 1 zfy (Ac C) Fn λhr=>aQ (pP (i:=2) 1 [1,0] ["at","growing","self"] zfy.nd rfl (Or.inl rfl) rfl (yH rfl bu.Y7 (cE gN rfl bu.YK PySem.boot_len (ai (du cl Yt (aa 0)) aw))) (λ_ _ _ _ _=>(gV 0)) (λ_=>(cQ 0)) (λ_ _ _ _ _ _=>iY) (λ_ _ _ _ _ _=>(oh cl zeY hr.mono (aa 2) (ai (aa 0) (ai (aa 1) aw))))) (aL (bS (gW 2 [0] ["at","many","self"] rfl (DP rfl bu.zce (aa 2)) (λ_ _ _ _ _=>(eh (of_decide_eq_true rfl) 0 1)) (λ_=>(d5 0 1)) (λ_ _ _ _ _ _=>(iC (bN mm (aa 1) az))) (λ_ _ _ _ _ _=>(bL j9 (oh cl zeX hr.mono (aa 2) (ai (aa 0) aw)) (aa 1))))))
def zdP:WJ ["self","growing","step","piece","point"] ["self","growing","step"] (aN xX):=ck
def GF(C:ZE):DS:=(vG nF av (aB (kB (λi j=>i+j) 0 C "widths" bw aK) (aB (kB (λi j=>i+j) 0 C "paid" bw aK) (mV 0 3 4 2 C "points" "around"))))
def BP(C:ZE):Ql D->Qo D:=mn 3 ["self","growing","step","piece","point"] (GF C)
def Nn{C:ZE}(cl:Xb K C)(YV:Wx K C "around")(YJ:Wx K C "paid")(YI:Wx K C "points")(Yu:Wx K C "widths")(Fn:L2.Wy K "grow" "Pieces.grow" xX ad fd)(bu:W8 mg):=uh P w base mg 0 zdP (GF C) Fn λhr=>(n8 (LG (by decide) (Ee Ef (Ee Ef ND)) PassesOwn.never rfl (aa 1) (gF zdP.nd 3) (fB (DF 0 cl Yu zM (aa 3) (aa 2)) (fB (DF 0 cl YJ zM (aa 3) (aa 2)) (n8 (LC 0 3 4 2 cl YI YV (by decide) PassesOwn.never rfl (gF zdP.nd 4)))))))
def zfz:WJ ["self","wide"] ["self"] (aN xT):=ck
def Ad(C:ZE):DS:=(aB (aW 1 (aM 2 [] (mO (d1 (aP C "widths") ah)) (bq 2 dF) (aD (d2 qG av aU)) ah)) (bW (ag uL (ae (jL 1 [0] (bA av) bo aZ (jJ (eR (eQ (ag fZ (ae (d2 ao (d1 (aP C "points") av) ah) aq))) (eR (eQ (ag (aH lU) (ae (d2 ao (d1 (aP C "widths") av) ah) (ae (d1 (aP C "parts") av) aq)))) kb)))) aq))))
def jh(C:ZE):Ql D->Qo Ev:=cB 1 ["self","wide"] (Ad C)
def Nj{C:ZE}(cl:Xb K C)(Zm:Wx K C "parts")(YI:Wx K C "points")(Yu:Wx K C "widths")(Fn:L2.Wy K "moats" "Pieces.moats" xT ad fd)(bu:W8 mg)(zlH:Xk P w K mg base "fraction" 2 lU):=cM P w base mg 2 zfz (Ad C) Fn λhr=>aQ (pP (i:=1) 2 [] ["piece","width"] zfz.nd rfl (Or.inl rfl) rfl (DP rfl bu.zce (du cl Yu (aa 0))) (λ_ _ _ _ _=>(eh (of_decide_eq_true rfl) 0 1)) (λ_=>(d5 0 1)) (λ_ _ _ _ _ _=>(iC (bN mm (aa 1) az))) (λ_ _ _ _ _ _=>(aa 0))) (aL (bS (cE (Qz hr.units rfl) rfl bu.zbA boot_sorted (ai (yP 1 [0] ["piece","self"] rfl (dJ (aa 1)) (λ_ _ _ _ _=>(gV 0)) (λ_=>(cQ 0)) (λ_ _ _ _ _ _=>iY) (λ_ _ _ _ _ _=>(ub (jv (kZ (mf mX rfl bu.YU jO (ai (aS (du cl YI (aa 1)) (aa 0)) aw))) (jv (kZ (cC zlH hr.mono (ai (aS (du cl Yu (aa 1)) (aa 0)) (ai (du cl Zm (aa 1)) aw)))) pQ))))) aw))))
def Ka:WJ ["numbers","many"] ["numbers","many"] (aN xk):=ck
def zZ:DS:=(bW (ag qU (ae (aM 2 [] (vg (d2 d8 (ag cY (ae (d1 oE aX) aq)) ah) (d2 d8 ah (ag cY kJ))) (bq 2 dF) aZ (d2 qL ah av)) aq)))
def lO:Ql D->Qo Ev:=cB 2 ["numbers","many"] zZ
def MH(Fn:L2.Wy K "rise_below" "rise_below" xk ad fd)(bu:W8 mg):=cM P w base mg 0 Ka zZ Fn λhr=>aL (bS (cE (r6 (A7 rfl)) rfl bu.zd3 (by decide+kernel) (ai (gW 2 [] ["low","high"] rfl (LU rfl bu.zfW (bL (YH.or gI) (fF (ai (yO az) aw)) (aa 0)) (bL (YH.or gI) (aa 0) (fF (ai (aa 1) aw)))) (λ_ _ _ _ _=>(eh (of_decide_eq_true rfl) 0 1)) (λ_=>(d5 0 1)) (λ_ _ _ _ _ _=>iY) (λ_ _ _ _ _ _=>(fj j8 (aa 0) (aa 1)))) aw)))
def zc2:WJ ["web","wishes","numbers","least","wish","one","other"] ["web","wishes","numbers"] (aN xO):=ck
def GB:DS:=(aB (aW 3 (ag (aH sG) (ae ah gm))) (aB (oW (bq 2 (cI jl (cI (bq 2 (cI l5 (cI kH gc))) gc))) av (bO (aD (d2 bV (d2 ao bw cK) (d2 ao bw c9))) (g8 4) cw)) (bW jm)))
def jg:Ql D->Qo Ev:=cB 3 ["web","wishes","numbers","least","wish","one","other"] GB
def Nd(Fn:L2.Wy K "first_parted" "first_parted" xO ad fd)(bu:W8 mg)(zlt:Xk P w K mg base "least_led_to" 1 sG):=cM P w base mg 1 zc2 GB Fn λhr=>aQ (cz zc2.nd 3 (cC zlt hr.mono (ai (aa 0) (ai (aa 2) aw)))) (aQ (yy PassesOwn.never rfl rfl bu.zce (aa 1) (yJ rfl (k8 (gF zc2.nd 4) (k8 (eh zc2.nd 5 6) t9))) (wM (kK (cQ 4) (kK (d5 5 6) sS))) (aL (cS (bN (fq hr.units) (aS (aa 3) (aa 5)) (aS (aa 3) (aa 6))) (aL (kX 4)) cT))) (aL (bS og)))
def Kl:WJ ["web","wishes","ties"] ["web","wishes","ties"] (aN xM):=ck
def Gz:DS:=(bW (kE (ag (aH lO) (ae aK (ae (ag cb (ae (d2 ao ah aX) aq)) aq))) (d2 mB (ag (aH jg) (ae ah (ae av gm))) jm)))
def wk:Ql D->Qo Ev:=cB 3 ["web","wishes","ties"] Gz
def Nb(Fn:L2.Wy K "is_joining" "is_joining" xM ad fd)(bu:W8 mg)(zeR:Xk P w K mg base "rise_below" 1 lO)(zcJ:Xk P w K mg base "first_parted" 2 jg):=cM P w base mg 2 Kl Gz Fn λhr=>aL (bS (yQ (cC zeR hr.mono (ai (aa 2) (ai (cE gN rfl bu.YK PySem.boot_len (ai (aS (aa 0) az) aw)) aw))) (yN (fj yW (cC zcJ hr.mono (ai (aa 0) (ai (aa 1) (ai (aa 2) aw)))) og))))
def zcW:WJ ["pieces","wishes","found","one","other","here","there"] ["pieces","wishes"] (aN xj):=ck
def FZ(C:ZE):DS:=(aB (aW 2 vB) (aB (fH (bq 2 pf) av (aB (jI 5 6 (ae (d2 ao (d1 (aP C "piece_of") ah) bw) (ae (d2 ao (d1 (aP C "piece_of") ah) bh) aq))) (bO (aD (d2 bV cK c9)) (vK (iJ 2 cK) (iJ 2 c9) jS) cw))) (g8 2)))
def lN(C:ZE):Ql D->Qo Ev:=cB 2 ["pieces","wishes","found","one","other","here","there"] (FZ C)
def MG{C:ZE}(cl:Xb K C)(YT:Wx K C "piece_of")(Fn:L2.Wy K "wanting" "wanting" xj ad fd)(bu:W8 mg):=cM P w base mg 0 zcW (FZ C) Fn λhr=>aQ (cz zcW.nd 2 L3) (aQ (j6 PassesOwn.never rfl (aa 1) (eh zcW.nd 3 4) (d5 3 4) (aQ (yv (i:=5) (j:=6) rfl zcW.nd rfl rfl (by decide) rfl rfl (ai (aS (du cl YT (aa 0)) (aa 3)) (ai (aS (du cl YT (aa 0)) (aa 4)) aw)) rfl) (aL (cS (bN (fq hr.units) (aa 5) (aa 6)) (aL (Ln eN (DU 2 hr.units (aa 5)) (DU 2 hr.units (aa 6)) Cm Cm)) cT)))) (aL (kX 2)))
def zb6:WJ ["web","wishes","taken","kept","at","fewer"] ["web","wishes","taken"] (aN xn):=ck
def Gd:DS:=(aB (aW 3 (ag fZ gm)) (aB (fH jl (d1 mw aK) (aB (aW 5 (aM 1 [4] (bA bw) bo (aD (d2 bV ah av)) ah)) (bO (aD (d2 mB (ag (aH jg) (ae ah (ae av iu))) jm)) (rQ 5 (aW 3 cK)) cw))) (bW (ag iI gQ))))
def jQ:Ql D->Qo Ev:=cB 3 ["web","wishes","taken","kept","at","fewer"] Gd
def ML(Fn:L2.Wy K "needed" "needed" xn ad fd)(bu:W8 mg)(zcJ:Xk P w K mg base "first_parted" 2 jg):=cM P w base mg 2 zb6 Gd Fn λhr=>aQ (cz zb6.nd 3 (mf mX rfl bu.YU jO (ai (aa 2) aw))) (aQ (j6 PassesOwn.never rfl (LZ (aa 2)) (gF zb6.nd 4) (cQ 4) (aQ (pP (i:=5) 1 [4] ["own","at"] zb6.nd rfl (Or.inl rfl) rfl (dJ (aa 3)) (λ_ _ _ _ _=>(gV 0)) (λ_=>(cQ 0)) (λ_ _ _ _ _ _=>(iC (bN (fq hr.units) (aa 0) (aa 1)))) (λ_ _ _ _ _ _=>(aa 0))) (aL (cS (bN yW (cC zcJ hr.mono (ai (aa 0) (ai (aa 1) (ai (aa 5) aw)))) og) (aL (Dy 5 (cz zb6.nd 3 (aa 5)))) cT)))) (aL (bS (cE rZ rfl bu.zbA boot_sorted (ai (aa 3) aw)))))
def zbv:WJ ["web","weights","wishes","lost","pieces","growing","full"] ["web","weights","wishes"] (aN xK):=ck
def vU(C:ZE):DS:=(aB (rP 5 (aW 6 (cZ C "first_full" (BQ C) bh iu))) (bO (aD (d2 mB c9 jm)) (aB (jK 4 C "halve_parts" (BO C) aq) (jK 4 C "grow" (BP C) (ae cK (ae (ag (oH fD) (ae (cZ C "steps_to_full" (BN C) bh iu) aq)) aq)))) (aB (jK 4 C "take" (BM C) lY) (aW 5 (ag (aH (lN C)) (ae bh gm))))))
noncomputable def Ab(C:ZE):DS:=(aB (aW 3 (ag (aH jg) (ae ah (ae aK (ae (jd (ae (ag cb (ae (d2 ao ah aX) aq)) aq)) aq))))) (aB (bO (aD (d2 uM bw jm)) AD cw) (aB (aW 4 (ag (qD C (sJ C)) ji)) (aB (aW 5 (ag (aH (lN C)) (ae bh gm))) (aB (lE (λ_=>200) (mU cK) (vU C)) (vA (qm (gZ (fP (ag (aH jQ) (ae ah (ae aK (ae (d1 (aP C "taken") bh) aq))))) (gZ (fP (cZ C "moats" (jh C) bh aq)) lh)))))))))
def o8(C:ZE):Ql D->Qo Ev:=cB 3 ["web","weights","wishes","lost","pieces","growing","full"] (Ab C)
def Na{C:ZE}(cl:Xb K C)(zah:Wx K C "taken")(Fn:L2.Wy K "join_by_moats" "join_by_moats" xK ad fd)(bu:W8 mg)(zcJ:Xk P w K mg base "first_parted" 2 jg)(zlP:zhs P w K mg base "Pieces" C 1 (sJ C))(zhb:Xk P w K mg base "wanting" 1 (lN C))(zlO:zaz P w K mg base C "first_full" 2 (BQ C))(zlM:zcO P w K mg base C "halve_parts" 1 (BO C))(zlN:zcO P w K mg base C "grow" 1 (BP C))(zlK:zaz P w K mg base C "steps_to_full" 2 (BN C))(zlJ:zcO P w K mg base C "take" 1 (BM C))(zlL:zaz P w K mg base C "moats" 3 (jh C))(zlr:Xk P w K mg base "needed" 3 jQ):=cM P w base mg 3 zbv (Ab C) Fn λhr=>aQ (cz zbv.nd 3 (cC zcJ hr.mono (ai (aa 0) (ai (aa 2) (ai (uc rfl rfl bu.YU rfl bu.Y7 (ai (cE gN rfl bu.YK PySem.boot_len (ai (aS (aa 0) az) aw)) aw)) aw))))) (aQ (cS (bN Nx (aa 3) og) (aL Li) cT) (aQ (cz zbv.nd 4 (L4 zlP hr.mono (ai (aa 0) (ai (aa 1) aw)))) (aQ (cz zbv.nd 5 (cC zhb hr.mono (ai (aa 4) (ai (aa 2) aw)))) (aQ (tU (λ_=>200) PassesOwn.never (K8 (aa 5)) (aQ (Lk 5 (cz zbv.nd 6 (oh cl zlO hr.mono (aa 4) (ai (aa 5) aw)))) (aL (cS (bN yW (aa 6) og) (aQ (yu yY (LB 4 cl zlM hr.mono)) (aL (yu yY (DD 4 cl zlN hr.mono (ai (aa 5) (ai (cE (QA rfl) rfl bu.zd2 (by decide+kernel) (ai (oh cl zlK hr.mono (aa 4) (ai (aa 5) aw)) aw)) aw)))))) (aQ (yu yY (DD 4 cl zlJ hr.mono (ai (aa 6) aw))) (aL (cz zbv.nd 5 (cC zhb hr.mono (ai (aa 4) (ai (aa 2) aw)))))))))) (aL (Lh (LP (DH (λ_=>(DJ (cC zlr hr.mono (ai (aa 0) (ai (aa 2) (ai (du cl zah (aa 4)) aw)))))) (λ_=>(DH (λ_=>(DJ (L5 cl zlL hr.mono (aa 4)))) (λ_=>LO)))))))))))
def Kc:WJ ["points","wishes"] ["points","wishes"] (aN xl):=ck
def Ga:DS:=(bW (ag qY (ae (aM 2 [0] (bA av) (bq 2 dF) aZ (d2 bV (d2 WZ ah aK) (d2 WZ av aK))) aq)))
def o6:Ql D->Qo Ev:=cB 2 ["points","wishes"] Ga
def MI(Fn:L2.Wy K "parts_a_wish" "parts_a_wish" xl ad fd)(bu:W8 mg):=cM P w base mg 0 Kc Ga Fn λhr=>aL (bS (cE (r6 (HG rfl)) rfl bu.zfZ (by decide+kernel) (ai (gW 2 [0] ["one","other","points"] rfl (dJ (aa 1)) (λ_ _ _ _ _=>(eh (of_decide_eq_true rfl) 0 1)) (λ_=>(d5 0 1)) (λ_ _ _ _ _ _=>iY) (λ_ _ _ _ _ _=>(fj (fq hr.units) (fj k9 (aa 0) (aa 2)) (fj k9 (aa 1) (aa 2))))) aw)))
def zcY:WJ ["web","weights","wishes","ties","moats","areas","widths","bottom","whole"] ["web","weights","wishes","ties","moats"] (aN tD):=ck
def z7:DS:=(aB (bO (eZ (dh (ag (aH wk) (ae ah (ae aK gQ))))) fK cw) (aB (aW 5 (aM 2 [] (bA bh) (bq 2 dF) aZ ah)) (aB (bO (eZ (dh (ag qU (ae (aM 1 [2,0] (bA cK) bo aZ (kE (ag (aH lO) (ae ah (ae (d2 ao aK aU) aq))) (ag (aH o6) ji))) aq)))) fK cw) (aB (dY (bq 2 lW) (ag (aH sE) (ae (aM 2 [] (bA bh) (bq 2 dF) aZ av) aq))) (aB (aW 8 (aM 1 [7] (bA av) bo aZ (d2 qM ah av))) (aB (bO (fS (dh (ag qY (ae (aM 1 [] (bA c9) bo aZ (d2 qL ah aU)) aq))) (eZ (dh (ag (aH wm) (ae ah (ae (af 8) (ae cK lY))))))) fK cw) (bW (d2 qE (ag i8 (ae (aM 1 [8] (bA bw) bo aZ (d2 ao av ah)) aq)) (d2 qM gE (ag i8 lY))))))))))
def v3:Ql D->Qo Ev:=cB 5 ["web","weights","wishes","ties","moats","areas","widths","bottom","whole"] z7
def MM(Fn:L2.Wy K "lets_joining" "lets_joining" tD ad fd)(bu:W8 mg)(zlG:Xk P w K mg base "is_joining" 3 wk)(zeR:Xk P w K mg base "rise_below" 1 lO)(zlp:Xk P w K mg base "parts_a_wish" 1 o6)(zlq:Xk P w K mg base "over_one_bottom" 2 sE)(zlI:Xk P w K mg base "are_within_weights" 1 wm):=cM P w base mg 3 zcY z7 Fn λhr=>aQ (cS (gu (fh (cC zlG hr.mono (ai (aa 0) (ai (aa 2) (ai (aa 3) aw)))))) (aL (bS eN)) cT) (aQ (pP (i:=5) 2 [] ["points","width"] zcY.nd rfl (Or.inl rfl) rfl (dJ (aa 4)) (λ_ _ _ _ _=>(eh (of_decide_eq_true rfl) 0 1)) (λ_=>(d5 0 1)) (λ_ _ _ _ _ _=>iY) (λ_ _ _ _ _ _=>(aa 0))) (aQ (cS (gu (fh (cE (r6 (A7 rfl)) rfl bu.zd3 (by decide+kernel) (ai (gX [2,0] ["points","wishes","web"] rfl (dJ (aa 5)) (λ_ _ _ _ _ _=>(yQ (cC zeR hr.mono (ai (aa 0) (ai (aS (aa 2) az) aw))) (yN (cC zlp hr.mono (ai (aa 0) (ai (aa 1) aw))))))) aw)))) (aL (bS eN)) cT) (aQ (l9 (cC zlq hr.mono (ai (gW 2 [] ["points","width"] rfl (dJ (aa 4)) (λ_ _ _ _ _=>(eh (of_decide_eq_true rfl) 0 1)) (λ_=>(d5 0 1)) (λ_ _ _ _ _ _=>iY) (λ_ _ _ _ _ _=>(aa 1))) aw)) (eh zcY.nd 6 7) (d5 6 7)) (aQ (cz zcY.nd 8 (gX [7] ["weight","bottom"] rfl (dJ (aa 1)) (λ_ _ _ _ _ _=>(bL (Ya.or eO) (aa 0) (aa 1))))) (aQ (cS (L2.PW.pt (iB (fh (cE (r6 (HG rfl)) rfl bu.zfZ (by decide+kernel) (ai (gX [] ["width"] rfl (dJ (aa 6)) (λ_ _ _ _ _ _=>(fj j8 (aa 0) az))) aw))) (jt (gu (fh (cC zlI hr.mono (by refine ai ?_ ?_ ?_;exact(aa 0);exact(by refine ai ?_ ?_ ?_;exact(aa 8);exact(by refine ai ?_ ?_ ?_;exact(aa 5);exact(by refine ai ?_ ?_ ?_;exact(aa 6);exact aw;exact(fW rfl));exact(fW rfl));exact(fW rfl));exact(fW rfl)))))))) (aL (bS eN)) cT) (aL (bS (fj yV (cE (A6 rfl) rfl bu.zd1 (by decide+kernel) (ai (gX [8] ["at","whole"] rfl (dJ (aa 3)) (λ_ _ _ _ _ _=>(aS (aa 1) (aa 0)))) aw)) (bL (Ya.or eO) az (cE (A6 rfl) rfl bu.zd1 (by decide+kernel) (ai (aa 6) aw)))))))))))
def zb7:WJ ["_law_script","_law_k","_law_cell","_law_number"] ["_law_script","_law_k"] (aN xB):=ck
def Gn:DS:=(aB (aW 2 aU) (aB (bO (aD (d2 qL av (ag cb jj))) (aW 2 (d2 ao ah av)) cw) (aB (aW 3 (d2 qR (d2 qP (d2 d8 (d2 d8 (d2 qR aK (dC (.int 2147483629))) (d2 qM (d2 qM (dC (.int 104729)) av) av)) (dC (.int 11))) sN) (dC (.int 2147483647)))) (aB (bO (aD (d2 qL aK (d2 qP (dC (.int 10)) (dC (.int 18))))) (aW 2 aU) cw) (bW (ag cY (ae aK gQ)))))))
def we:Ql D->Qo Ev:=cB 2 ["_law_script","_law_k","_law_cell","_law_number"] Gn
def MY(Fn:L2.Wy K "_law_pool" "_law_pool" xB ad fd)(bu:W8 mg):=cM P w base mg 0 zb7 Gn Fn λhr=>aQ (cz zb7.nd 2 az) (aQ (cS (bN j8 (aa 1) (cE gN rfl bu.YK PySem.boot_len (ai (aa 0) aw))) (aL (cz zb7.nd 2 (aS (aa 0) (aa 1)))) cT) (aQ (cz zb7.nd 3 (bL j7 (bL yT (bL (YH.or gI) (bL (YH.or gI) (bL j7 (aa 2) az) (bL (Ya.or eO) (bL (Ya.or eO) az (aa 1)) (aa 1))) az) az) az)) (aQ (cS (bN j8 (aa 2) (bL yT az az)) (aL (cz zb7.nd 2 az)) cT) (aL (bS (fF (ai (aa 2) (ai (aa 3) aw))))))))
def zfw:WJ ["_law_pool_here","_law_many","_law_found"] ["_law_pool_here","_law_many"] (aN xy):=ck
def Gk(p:ZE):WS au:=(cR (kS (nN (dz qG (iN p 0 0) (cu au aU))) (cR (fM 2 (dz qR (iN p 0 0) lX)) (cR (kR p 0 0 (dz qV (iN p 0 0) lX)) (d7 au (g8 2)))) tH) (cR (kR p 0 1 (dz qR (dz d8 (dz qM (iN p 0 1) (cu au (dC (.int 48271)))) (cu au (dC (.int 11)))) (cu au (dC (.int 2147483647))))) (kQ (dz qR (dz qV (dz qR (dz qM (iN p 0 1) (iN p 0 1)) (cu au (dC (.int 2147483629)))) (cu au (dC (.int 64)))) lX))))
def fV:Int×Int->Ql D->Qo (Ev×(Int×Int)):=iG (ρ:=au) 2 ["_law_pool_here","_law_many","_law_found"] Gk
def MV(Fn:L2.Wy K "_law_take" "_law_take" xy ad fd)(bu:W8 mg):=pU P w base mg 0 zfw Gk Fn λhr=>dt (yq (Dq (λ_=>mm) (oe 0) (bX λ_=>az)) (dt (j4 zfw.nd 2 (il (λ_=>j7) (oe 0) (bX λ_=>(aa 1)))) (dt (Du 0 (il (λ_=>j9) (oe 0) (bX λ_=>(aa 1)))) (iD (gw λF=>(kX 2))))) yo) (dt (Du 0 (il (λ_=>j7) (il (λ_=>(YH.or gI)) (il (λ_=>(Ya.or eO)) (oe 0) (bX λ_=>az)) (bX λ_=>az)) (bX λ_=>az))) (iD (tS (il (λ_=>j7) (il (λ_=>j9) (il (λ_=>j7) (il (λ_=>(Ya.or eO)) (oe 0) (oe 0)) (bX λ_=>az)) (bX λ_=>az)) (bX λ_=>(aa 1))))))
def Ke:WJ ["_law_pool_here","_law_many"] ["_law_pool_here","_law_many"] (aN xt):=ck
def Gf(p:ZE):WS au:=(kQ (dz qR (dz d8 (dz qM (eX p fV (cq gP (cq (cu au (dC (.int 1000003))) Yb))) (cu au (dC (.int 1000003)))) (eX p fV (cq gP (cq (cu au (dC (.int 1000003))) Yb)))) lX))
def BI:Int×Int->Ql D->Qo (Ev×(Int×Int)):=iG (ρ:=au) 2 ["_law_pool_here","_law_many"] Gf
def MQ(Fn:L2.Wy K "_law_wide" "_law_wide" xt ad fd)(bu:W8 mg)(Y0:zaa au P w K mg base "_law_take" 1 fV):=pU P w base mg 1 Ke Gf Fn λhr=>iD (tS (il (λ_=>j7) (il (λ_=>(YH.or gI)) (il (λ_=>(Ya.or eO)) (gG Y0 hr.mono (cU (bX λ_=>aa 0) (cU (bX λ_=>az) gH))) (bX λ_=>az)) (gG Y0 hr.mono (cU (bX λ_=>aa 0) (cU (bX λ_=>az) gH)))) (bX λ_=>(aa 1))))
def za4:WJ ["_law_pool_here","_law_most","_law_many","_law_dense","_law_line","_law_ties","_law_one","_law_other"] ["_law_pool_here","_law_most"] (aN xv):=ck
def tR:DT:=(ir (aD (d2 qG bh aU)) (aD (d2 ez gk (d2 d8 c9 aX))))
noncomputable def KR(p:ZE):WE au:=(dz ez (eX p fV (cq gP (cq (cu au bw) Yb))) (cu au aU))
noncomputable def ym(p:ZE):WT au:=(tOr (nN (KR p)) (kL au tR))
noncomputable def Ia(p:ZE):WS au:=(kS (ym p) (d7 au (iS 5 (ag cX (ae c9 ph)))) tH)
noncomputable def Bi(p:ZE):WS au:=(nR wz (mJ au (jb (d2 d8 c9 aX) aK)) (Ia p))
noncomputable def Gh(p:ZE):WS au:=(cR (fM 2 (dz d8 (cu au aX) (eX p fV (cq gP (cq lX Yb))))) (cR (fM 3 (dz ao (cu au (ag cY (ae gE (ae sN (ae sM aq))))) (eX p fV (cq gP (cq (cu au sN) Yb))))) (cR (fM 4 (eX p fV (cq gP (cq (cu au sN) Yb)))) (cR (d7 au (aW 5 (ag cY aq))) (cR (nR kH (mJ au (km aK)) (Bi p)) (d7 au (rQ 5 (bW (ag cX (ae aK iu))))))))))
def wa:Int×Int->Ql D->Qo (Ev×(Int×Int)):=iG (ρ:=au) 2 ["_law_pool_here","_law_most","_law_many","_law_dense","_law_line","_law_ties","_law_one","_law_other"] Gh
def MS(Fn:L2.Wy K "_law_web" "_law_web" xv ad fd)(bu:W8 mg)(Y0:zaa au P w K mg base "_law_take" 1 fV):=pU P w base mg 1 za4 Gh Fn λhr=>dt (j4 za4.nd 2 (il (λ_=>(YH.or gI)) (bX λ_=>az) (gG Y0 hr.mono (cU (bX λ_=>aa 0) (cU (bX λ_=>(aa 1)) gH))))) (dt (j4 za4.nd 3 (DW (bX λ_=>(fF (ai az (ai az (ai az aw))))) (gG Y0 hr.mono (cU (bX λ_=>aa 0) (cU (bX λ_=>az) gH))))) (dt (j4 za4.nd 4 (gG Y0 hr.mono (cU (bX λ_=>aa 0) (cU (bX λ_=>az) gH)))) (dt (gw λF=>(cz za4.nd 5 (fF aw))) (dt (yr PassesOwn.never rfl (yF λ_=>(yH rfl bu.Y7 (aa 2))) (gF za4.nd 6) (λ_=>(cQ 6)) (iD (yr PassesOwn.never rfl (yF λ_=>(yG rfl bu.Y7 (bL (YH.or gI) (aa 6) az) (aa 2))) (gF za4.nd 7) (λ_=>(cQ 7)) (iD (yq (PW.ptw (KW (Dq (λ_=>(jx hr.units)) (gG Y0 hr.mono (cU (bX λ_=>aa 0) (cU (bX λ_=>(aa 3)) gH))) (bX λ_=>az)) (KY (Dp λ_=>(L2.PW.pt (l8 (bN mm (aa 4) az) (nY (bN (jx hr.units) (aa 7) (bL (YH.or gI) (aa 6) az))))))))) (iD (gw λF=>(tV 5 (iF (ai (aa 6) (ai (aa 7) aw)))))) yo))))) (iD (gw λF=>(Dy 5 (bS (iF (ai (aa 2) (ai (aa 5) aw)))))))))))
def zfv:WJ ["_law_pool_here","_law_way"] ["_law_pool_here"] (aN xu):=ck
def Gg(p:ZE):WS au:=(cR (fM 1 (eX p fV (cq gP (cq (cu au (dC (.int 8))) Yb)))) (cR (d7 au (bO (aD (d2 ez av aU)) (bW aU) cw)) (cR (kS (kL au (aD (d2 qL av sM))) (kQ (eX p fV (cq gP (cq (cu au (dC (.int 10))) Yb)))) tH) (kQ (eX p BI (cq gP (cq (cu au (d2 d8 (d2 qP (dC (.int 10)) (dC (.int 12))) aX)) Yb)))))))
def sH:Int×Int->Ql D->Qo (Ev×(Int×Int)):=iG (ρ:=au) 1 ["_law_pool_here","_law_way"] Gg
def MR(Fn:L2.Wy K "_law_weight" "_law_weight" xu ad fd)(bu:W8 mg)(Y0:zaa au P w K mg base "_law_take" 1 fV)(zlv:zaa au P w K mg base "_law_wide" 2 BI):=pU P w base mg 2 zfv Gg Fn λhr=>dt (j4 zfv.nd 1 (gG Y0 hr.mono (cU (bX λ_=>aa 0) (cU (bX λ_=>az) gH)))) (dt (gw λF=>(cS (bN (jx hr.units) (aa 1) az) (aL (bS az)) cT)) (dt (yq (Dp λ_=>(bN j8 (aa 1) az)) (iD (tS (gG Y0 hr.mono (cU (bX λ_=>aa 0) (cU (bX λ_=>az) gH))))) yo) (iD (tS (gG zlv hr.mono (cU (bX λ_=>aa 0) (cU (bX λ_=>(bL (YH.or gI) (bL yT az az) az)) gH)))))))
def zbu:WJ ["_law_web_here","_law_ties","_law_start","_law_found","_law_at","_law_number","_law_one","_law_other"] ["_law_web_here","_law_ties","_law_start"] (aN xA):=ck
def Bh:DS:=(aB (dY (bq 2 lW) (d2 ao (d2 ao ah aX) cK)) (aB (bO (ir (aD (d2 ez c9 (d2 ao bw bh))) (aD (d2 jE gk bw))) (iS 3 gk) cw) (bO (ir (aD (d2 ez gk (d2 ao bw bh))) (aD (d2 jE c9 bw))) (iS 3 c9) cw)))
def vR:DS:=(aB (fH l5 av Bh) (aW 4 (d2 d8 bh aX)))
def Gm:DS:=(aB (aW 3 (ag cY gm)) (aB (aW 4 aU) (aB (lE (λ_=>100) (aD (d2 qL bh (ag cb gQ))) vR) (g8 3))))
def lS:Ql D->Qo Ev:=cB 3 ["_law_web_here","_law_ties","_law_start","_law_found","_law_at","_law_number","_law_one","_law_other"] Gm
def MX(Fn:L2.Wy K "_law_reached" "_law_reached" xA ad fd)(bu:W8 mg):=cM P w base mg 0 zbu Gm Fn λhr=>aQ (cz zbu.nd 3 (fF (ai (aa 2) aw))) (aQ (cz zbu.nd 4 az) (aQ (tU (λ_=>100) PassesOwn.never (bN j8 (aa 4) (cE gN rfl bu.YK PySem.boot_len (ai (aa 3) aw))) (aQ (j6 PassesOwn.never rfl (aa 1) (gF zbu.nd 5) (cQ 5) (aQ (l9 (aS (aS (aa 0) az) (aa 5)) (eh zbu.nd 6 7) (d5 6 7)) (aQ (cS (L2.PW.pt (l8 (bN (jx hr.units) (aa 6) (aS (aa 3) (aa 4))) (nY (bN yU (aa 7) (aa 3))))) (aL (tV 3 (aa 7))) cT) (aL (cS (L2.PW.pt (l8 (bN (jx hr.units) (aa 7) (aS (aa 3) (aa 4))) (nY (bN yU (aa 6) (aa 3))))) (aL (tV 3 (aa 6))) cT))))) (aL (cz zbu.nd 4 (bL (YH.or gI) (aa 4) az))))) (aL (kX 3))))
def Kj:WJ ["_law_web_here","_law_wishes_here","_law_ties"] ["_law_web_here","_law_wishes_here","_law_ties"] (aN xG):=ck
def Gv:DS:=(bW (d2 ez (aM 1 [0,2] (bA av) bo (aD (d2 jE (d2 ao ah aX) (ag (aH lS) (ae av (ae aK (ae (d2 ao ah aU) aq)))))) ah) (ag cY aq)))
def sI:Ql D->Qo Ev:=cB 3 ["_law_web_here","_law_wishes_here","_law_ties"] Gv
def M5(Fn:L2.Wy K "_law_joined" "_law_joined" xG ad fd)(bu:W8 mg)(zeU:Xk P w K mg base "_law_reached" 1 lS):=cM P w base mg 1 Kj Gv Fn λhr=>aL (bS (fj (jx hr.units) (gW 1 [0,2] ["_law_wish","_law_web_here","_law_ties"] rfl (dJ (aa 1)) (λ_ _ _ _ _=>(gV 0)) (λ_=>(cQ 0)) (λ_ _ _ _ _ _=>(iC (bN yU (aS (aa 0) az) (cC zeU hr.mono (ai (aa 1) (ai (aa 2) (ai (aS (aa 0) az) aw))))))) (λ_ _ _ _ _ _=>(aa 0))) (fF aw)))
def zbt:WJ ["_law_pool_here","_law_web_here","_law_most","_law_found","_law_k","_law_one","_law_there","_law_other"] ["_law_pool_here","_law_web_here","_law_most"] (aN xp):=ck
noncomputable def HZ(p:ZE):WS au:=(cR (fM 5 (eX p fV (cq gP (cq (cu au (d2 ao av aU)) Yb)))) (cR (d7 au (aW 6 (ag iI (ae (ag (aH lS) (ae av (ae (jd (ae (ag cb (ae (d2 ao av aX) aq)) aq)) iu))) aq)))) (cR (fM 7 (dz ao (cu au c9) (eX p fV (cq gP (cq (cu au (ag cb lY)) Yb))))) (d7 au (iS 3 (ag cX (ae (ag qN nD) (ae (ag qX nD) aq))))))))
noncomputable def Ge(p:ZE):WS au:=(cR (d7 au (aW 3 (ag cY aq))) (cR (nR jl (uV (eX p fV (cq gP (cq (cu au (d2 d8 aK aX)) Yb)))) (HZ p)) (d7 au (g8 3))))
def v8:Int×Int->Ql D->Qo (Ev×(Int×Int)):=iG (ρ:=au) 3 ["_law_pool_here","_law_web_here","_law_most","_law_found","_law_k","_law_one","_law_there","_law_other"] Ge
def MP(Fn:L2.Wy K "_law_wishes" "_law_wishes" xp ad fd)(bu:W8 mg)(Y0:zaa au P w K mg base "_law_take" 1 fV)(zeU:Xk P w K mg base "_law_reached" 1 lS):=pU P w base mg 1 zbt Ge Fn λhr=>dt (gw λF=>(cz zbt.nd 3 (fF aw))) (dt (yr PassesOwn.never rfl (LR rfl bu.Y7 (gG Y0 hr.mono (cU (bX λ_=>aa 0) (cU (bX λ_=>(bL (YH.or gI) (aa 2) az)) gH)))) (gF zbt.nd 4) (λ_=>(cQ 4)) (dt (j4 zbt.nd 5 (gG Y0 hr.mono (cU (bX λ_=>aa 0) (cU (bX λ_=>(aS (aa 1) az)) gH)))) (dt (gw λF=>(cz zbt.nd 6 (cE rZ rfl bu.zbA boot_sorted (ai (cC zeU hr.mono (ai (aa 1) (ai (uc rfl rfl bu.YU rfl bu.Y7 (ai (cE gN rfl bu.YK PySem.boot_len (ai (aS (aa 1) az) aw)) aw)) (ai (aa 5) aw)))) aw)))) (dt (j4 zbt.nd 7 (DW (bX λ_=>(aa 6)) (gG Y0 hr.mono (cU (bX λ_=>aa 0) (cU (bX λ_=>(cE gN rfl bu.YK PySem.boot_len (ai (aa 6) aw))) gH))))) (iD (gw λF=>(tV 3 (iF (ai (cE (HB rfl) rfl bu.zd2 (by decide+kernel) (ai (aa 5) (ai (aa 7) aw))) (ai (cE (HC rfl) rfl bu.zfY (by decide+kernel) (ai (aa 5) (ai (aa 7) aw))) aw)))))))))) (iD (gw λF=>(kX 3))))
def Kh:WJ ["_law_points","_law_wishes_here"] ["_law_points","_law_wishes_here"] (aN xD):=ck
def Gq:DS:=(bW (d2 bV (aM 2 [0] (bA av) (bq 2 dF) (aD (d2 bV (d2 WZ ah aK) (d2 WZ av aK))) ah) (ag cY aq)))
def BJ:Ql D->Qo Ev:=cB 2 ["_law_points","_law_wishes_here"] Gq
def M0(Fn:L2.Wy K "_law_parts" "_law_parts" xD ad fd)(bu:W8 mg):=cM P w base mg 0 Kh Gq Fn λhr=>aL (bS (fj (fq hr.units) (gW 2 [0] ["_law_one","_law_other","_law_points"] rfl (dJ (aa 1)) (λ_ _ _ _ _=>(eh (of_decide_eq_true rfl) 0 1)) (λ_=>(d5 0 1)) (λ_ _ _ _ _ _=>(iC (bN (fq hr.units) (fj k9 (aa 0) (aa 2)) (fj k9 (aa 1) (aa 2))))) (λ_ _ _ _ _ _=>(aa 0))) (fF aw)))
def Ki:WJ ["_law_tie","_law_points"] ["_law_tie","_law_points"] (aN xF):=ck
def Gu:DS:=(bW (d2 bV (d2 WZ (d2 ao ah aU) av) (d2 WZ (d2 ao ah aX) av)))
def BK:Ql D->Qo Ev:=cB 2 ["_law_tie","_law_points"] Gu
def M4(Fn:L2.Wy K "_law_leaves" "_law_leaves" xF ad fd)(bu:W8 mg):=cM P w base mg 0 Ki Gu Fn λhr=>aL (bS (fj (fq hr.units) (fj k9 (aS (aa 0) az) (aa 1)) (fj k9 (aS (aa 0) az) (aa 1))))
def zc1:WJ ["_law_top","_law_bottom","_law_one","_law_other"] ["_law_top","_law_bottom"] (aN xE):=ck
def uz:DS:=(jI 2 3 (ae bw (ae (d2 qR aK bw) aq)))
def zg:DT:=(aD (d2 qG bw aU))
def Gs:DS:=(aB (aW 2 (ag qK jj)) (aB (aW 3 av) (aB (lE (rB 3) zg uz) (bW (ag cX (ae (d2 qV ah aK) (ae (d2 qV av aK) aq)))))))
def m6:Ql D->Qo Ev:=cB 2 ["_law_top","_law_bottom","_law_one","_law_other"] Gs
def M3(Fn:L2.Wy K "_law_low" "_law_low" xE ad fd)(bu:W8 mg):=cM P w base mg 0 zc1 Gs Fn λhr=>aQ (cz zc1.nd 2 (cE HD rfl bu.zf0 HI (ai (aa 0) aw))) (aQ (cz zc1.nd 3 (aa 1)) (aQ (tU (rB 3) PassesOwn.never (bN mm (aa 3) az) (aL (yv (i:=2) (j:=3) rfl zc1.nd rfl rfl (by decide) rfl rfl (ai (aa 3) (ai (bL j7 (aa 2) (aa 3)) aw)) rfl))) (aL (bS (iF (ai (bL j9 (aa 0) (aa 2)) (ai (bL j9 (aa 1) (aa 2)) aw)))))))
def Kg:WJ ["_law_one","_law_other"] ["_law_one","_law_other"] (aN xC):=ck
def Gp:DS:=(bW (ag (aH m6) (ae (d2 d8 (d2 qM (d2 ao ah aU) (d2 ao av aX)) (d2 qM (d2 ao av aU) (d2 ao ah aX))) (ae (d2 qM (d2 ao ah aX) (d2 ao av aX)) aq))))
def o7:Ql D->Qo Ev:=cB 2 ["_law_one","_law_other"] Gp
def MZ(Fn:L2.Wy K "_law_plus" "_law_plus" xC ad fd)(bu:W8 mg)(zeV:Xk P w K mg base "_law_low" 1 m6):=cM P w base mg 1 Kg Gp Fn λhr=>aL (bS (cC zeV hr.mono (ai (bL (YH.or gI) (bL (Ya.or eO) (aS (aa 0) az) (aS (aa 1) az)) (bL (Ya.or eO) (aS (aa 1) az) (aS (aa 0) az))) (ai (bL (Ya.or eO) (aS (aa 0) az) (aS (aa 1) az)) aw))))
def Kf:WJ ["_law_one","_law_other"] ["_law_one","_law_other"] (aN xw):=ck
def Gi:DS:=(bW (d2 qL (d2 qM (d2 ao ah aU) (d2 ao av aX)) (d2 qM (d2 ao av aU) (d2 ao ah aX))))
def lQ:Ql D->Qo Ev:=cB 2 ["_law_one","_law_other"] Gi
def MT(Fn:L2.Wy K "_law_under" "_law_under" xw ad fd)(bu:W8 mg):=cM P w base mg 0 Kf Gi Fn λhr=>aL (bS (fj j8 (bL (Ya.or eO) (aS (aa 0) az) (aS (aa 1) az)) (bL (Ya.or eO) (aS (aa 1) az) (aS (aa 0) az))))
def zcZ:WJ ["_law_moats","_law_found","_law_points","_law_width"] ["_law_moats"] (aN xx):=ck
def Gj:DS:=(aB (aW 1 (ag cX (ae aU kG))) (aB (fH (bq 2 jR) ah (aW 1 (ag (aH o7) (ae av gQ)))) (g8 1)))
def lR:Ql D->Qo Ev:=cB 1 ["_law_moats","_law_found","_law_points","_law_width"] Gj
def MU(Fn:L2.Wy K "_law_together" "_law_together" xx ad fd)(bu:W8 mg)(zlA:Xk P w K mg base "_law_plus" 2 o7):=cM P w base mg 2 zcZ Gj Fn λhr=>aQ (cz zcZ.nd 1 (iF (ai az (ai az aw)))) (aQ (j6 PassesOwn.never rfl (aa 0) (eh zcZ.nd 2 3) (d5 2 3) (aL (cz zcZ.nd 1 (cC zlA hr.mono (ai (aa 1) (ai (aa 3) aw)))))) (aL (kX 1)))
def Kk:WJ ["_law_one"] ["_law_one"] (aN xH):=ck
def Gw:DS:=(aB (bO (fS (eZ (dh (iR "tuple" ah))) (aD (d2 bV (ag cb jj) gE))) fK cw) (aB (bO (fS (aD (d2 bV (aM 1 [] (g4 ah) bo (fS (eZ (dh (iR "int" ah))) (dh (iR "bool" ah))) ah) (ag cY aq))) (aD (d2 qL (d2 ao ah aX) aX))) fK cw) (bW (kE (d2 ez ah (ag (aH m6) (ae (d2 ao ah aU) (ae (d2 ao ah aX) aq)))) (d2 qG (d2 ao ah aU) aU)))))
def BL:Ql D->Qo Ev:=cB 1 ["_law_one"] Gw
def M6(Fn:L2.Wy K "_law_is_fraction" "_law_is_fraction" xH ad fd)(bu:W8 mg)(zeV:Xk P w K mg base "_law_low" 1 m6):=cM P w base mg 1 Kk Gw Fn λhr=>aQ (cS (L2.PW.pt (iB (gu (fh (me FH (aa 0) rfl bu.za9 rfl bu.zfX HH))) (jt (bN (fq hr.units) (cE gN rfl bu.YK PySem.boot_len (ai (aa 0) aw)) az)))) (aL (bS eN)) cT) (aQ (cS (L2.PW.pt (iB (bN (fq hr.units) (gW 1 [] ["_law_part"] rfl (pR (aa 0)) (λ_ _ _ _ _=>(gV 0)) (λ_=>(cQ 0)) (λ_ _ _ _ _ _=>(iC (L2.PW.pt (iB (gu (fh (me OS (aa 0) rfl bu.za9 rfl bu.ziJ QP))) (jt (fh (me OT (aa 0) rfl bu.za9 rfl bu.ziK QR))))))) (λ_ _ _ _ _ _=>(aa 0))) (fF aw)) (jt (bN j8 (aS (aa 0) az) az)))) (aL (bS eN)) cT) (aL (bS (yQ (fj (jx hr.units) (aa 0) (cC zeV hr.mono (ai (aS (aa 0) az) (ai (aS (aa 0) az) aw)))) (yN (fj mm (aS (aa 0) az) az))))))
def zb8:WJ ["_law_moats","_law_wishes_here","_law_points","_law_width","_law_other","_law_more","_law_common","_law_rows"] ["_law_moats","_law_wishes_here"] (aN xI):=ck
def Bm:DS:=(aB (aW 6 (aM 1 [4] (bA aK) bo (aD (d2 WZ ah av)) ah)) (bO (ir (aD (d2 bV c9 (ag cY aq))) (ir (aD (d2 bV c9 aK)) (aD (d2 bV c9 bh)))) fK cw))
def vT:DS:=(aB (bO (fS (eZ (dh (iR "list" aK))) (fS (aD (d2 bV aK (ag iI gm))) (eZ (dh (ag (aH BJ) (ae aK kJ)))))) fK cw) (aB (bO (eZ (dh (ag (aH BL) gQ))) fK cw) (fH (bq 2 ny) ah Bm)))
def Gx:DS:=(aB (fH (bq 2 jR) ah vT) (aB (aW 7 (aM 2 [] (bA ah) (bq 2 dF) aZ ah)) (bW (d2 ez (aM 1 [7] (jb aX (ag cb ph)) bo (eZ (aD (d2 qF (d2 ao av (d2 qS ah aX)) (d2 ao av ah)))) ah) (ag cY aq)))))
def wg:Ql D->Qo Ev:=cB 2 ["_law_moats","_law_wishes_here","_law_points","_law_width","_law_other","_law_more","_law_common","_law_rows"] Gx
def M7(Fn:L2.Wy K "_law_are_moats" "_law_are_moats" xI ad fd)(bu:W8 mg)(zlB:Xk P w K mg base "_law_parts" 1 BJ)(zlD:Xk P w K mg base "_law_is_fraction" 2 BL):=cM P w base mg 2 zb8 Gx Fn λhr=>aQ (j6 PassesOwn.never rfl (aa 0) (eh zb8.nd 2 3) (d5 2 3) (aQ (cS (L2.PW.pt (iB (gu (fh (me zJ (aa 2) rfl bu.za9 rfl bu.YU jO))) (iB (bN (fq hr.units) (aa 2) (cE rZ rfl bu.zbA boot_sorted (ai (aa 2) aw))) (jt (gu (fh (cC zlB hr.mono (ai (aa 2) (ai (aa 1) aw))))))))) (aL (bS eN)) cT) (aQ (cS (gu (fh (cC zlD hr.mono (ai (aa 3) aw)))) (aL (bS eN)) cT) (aL (j6 PassesOwn.never rfl (aa 0) (eh zb8.nd 4 5) (d5 4 5) (aQ (pP (i:=6) 1 [4] ["_law_point","_law_other"] zb8.nd rfl (Or.inl rfl) rfl (dJ (aa 2)) (λ_ _ _ _ _=>(gV 0)) (λ_=>(cQ 0)) (λ_ _ _ _ _ _=>(iC (bN k9 (aa 0) (aa 1)))) (λ_ _ _ _ _ _=>(aa 0))) (aL (cS (L2.PW.pt (l8 (bN (fq hr.units) (aa 6) (fF aw)) (l8 (bN (fq hr.units) (aa 6) (aa 2)) (nY (bN (fq hr.units) (aa 6) (aa 4)))))) (aL (bS eN)) cT)))))))) (aQ (cz zb8.nd 7 (gW 2 [] ["_law_points","_law_width"] rfl (dJ (aa 0)) (λ_ _ _ _ _=>(eh (of_decide_eq_true rfl) 0 1)) (λ_=>(d5 0 1)) (λ_ _ _ _ _ _=>iY) (λ_ _ _ _ _ _=>(aa 0)))) (aL (bS (fj (jx hr.units) (gW 1 [7] ["_law_k","_law_rows"] rfl (yG rfl bu.Y7 az (cE gN rfl bu.YK PySem.boot_len (ai (aa 7) aw))) (λ_ _ _ _ _=>(gV 0)) (λ_=>(cQ 0)) (λ_ _ _ _ _ _=>(iC (gu (bN (Nv hr.units) (aS (aa 1) (bL ui (aa 0) az)) (aS (aa 1) (aa 0)))))) (λ_ _ _ _ _ _=>(aa 0))) (fF aw)))))
def zdN:WJ ["_law_web_here","_law_weights","_law_ties","_law_moats","_law_number","_law_tie","_law_borne"] ["_law_web_here","_law_weights","_law_ties","_law_moats"] (aN tF):=ck
def Bl:DS:=(aB (aW 6 (ag (aH lR) (ae (aM 1 [5] (bA bw) bo (dh (ag (aH BK) (ae av (ae (d2 ao ah aU) aq)))) ah) aq))) (bO (fS (dh (ag (aH lQ) (ae (ag cX (ae (d2 ao av bh) kG)) lY))) (ir (aD (d2 WZ bh aK)) (aD (d2 bV c9 (ag cX (ae (d2 ao av bh) kG)))))) fK cw))
def Gy:DS:=(aB (oW (bq 2 ny) (d2 ao ah aX) Bl) (bW jS))
def wj:Ql D->Qo Ev:=cB 4 ["_law_web_here","_law_weights","_law_ties","_law_moats","_law_number","_law_tie","_law_borne"] Gy
def M8(Fn:L2.Wy K "_law_are_full" "_law_are_full" tF ad fd)(bu:W8 mg)(zlC:Xk P w K mg base "_law_leaves" 1 BK)(zeT:Xk P w K mg base "_law_together" 3 lR)(zeS:Xk P w K mg base "_law_under" 1 lQ):=cM P w base mg 3 zdN Gy Fn λhr=>aQ (yy PassesOwn.never rfl rfl bu.zce (aS (aa 0) az) (eh zdN.nd 4 5) (d5 4 5) (aQ (cz zdN.nd 6 (cC zeT hr.mono (ai (gW 1 [5] ["_law_moat","_law_tie"] rfl (dJ (aa 3)) (λ_ _ _ _ _=>(gV 0)) (λ_=>(cQ 0)) (λ_ _ _ _ _ _=>(iC (fh (cC zlC hr.mono (ai (aa 1) (ai (aS (aa 0) az) aw)))))) (λ_ _ _ _ _ _=>(aa 0))) aw))) (aL (cS (L2.PW.pt (iB (fh (cC zeS hr.mono (ai (iF (ai (aS (aa 1) (aa 4)) (ai az aw))) (ai (aa 6) aw)))) (jt (L2.PW.pt (l8 (bN k9 (aa 4) (aa 2)) (nY (bN (fq hr.units) (aa 6) (iF (ai (aS (aa 1) (aa 4)) (ai az aw)))))))))) (aL (bS eN)) cT)))) (aL (bS eN))
def zc0:WJ ["_law_web_here","_law_weights","_law_wishes_here","_law_found","_law_ties","_law_moats","_law_number","_law_whole"] ["_law_web_here","_law_weights","_law_wishes_here","_law_found"] (aN tE):=ck
def vS:DS:=(bO (dh (ag (aH sI) (ae ah (ae aK (ae (aM 1 [6] (bA bh) bo (aD (d2 bV ah av)) ah) aq))))) fK cw)
def z9:DS:=(aB (bO (fS (eZ (dh (iR "tuple" bw))) (fS (aD (d2 bV (ag cb gQ) gE)) (eZ (dh (iR "list" (d2 ao bw aU)))))) fK cw) (aB (dY (bq 2 ny) bw) (aB (bO (fS (aD (d2 bV (aM 1 [4] (jb aX (ag cb lZ)) bo (aD (d2 qE (d2 ao av ah) (d2 ao av (d2 qS ah aX)))) ah) (ag cY aq))) (eZ (dh (ag (aH sI) (ae ah (ae aK lZ)))))) fK cw) (aB (fH kH bh vS) (aB (bO (fS (eZ (dh (iR "list" cK))) (eZ (dh (ag (aH wg) (ae cK gm))))) fK cw) (aB (bO (eZ (dh (ag (aH wj) (ae ah (ae av (ae bh iu)))))) fK cw) (aB (aW 7 (ag (aH lR) iu)) (bW (d1 qz (ag (aH lQ) (ae (ag cX (ae (d2 qM gE (d2 ao gk aU)) (ae (d2 ao gk aX) aq))) (ae (ag cX (ae (ag i8 (ae (aM 1 [1] (bA bh) bo aZ (d2 ao av ah)) aq)) kG)) aq))))))))))))
def wc:Ql D->Qo Ev:=cB 4 ["_law_web_here","_law_weights","_law_wishes_here","_law_found","_law_ties","_law_moats","_law_number","_law_whole"] z9
def MW(Fn:L2.Wy K "_law_right" "_law_right" tE ad fd)(bu:W8 mg)(zhc:Xk P w K mg base "_law_joined" 2 sI)(zlE:Xk P w K mg base "_law_are_moats" 3 wg)(zlF:Xk P w K mg base "_law_are_full" 4 wj)(zeT:Xk P w K mg base "_law_together" 3 lR)(zeS:Xk P w K mg base "_law_under" 1 lQ):=cM P w base mg 4 zc0 z9 Fn λhr=>aQ (cS (L2.PW.pt (iB (gu (fh (me FH (aa 3) rfl bu.za9 rfl bu.zfX HH))) (iB (bN (fq hr.units) (cE gN rfl bu.YK PySem.boot_len (ai (aa 3) aw)) az) (jt (gu (fh (me zJ (aS (aa 3) az) rfl bu.za9 rfl bu.YU jO))))))) (aL (bS eN)) cT) (aQ (l9 (aa 3) (eh zc0.nd 4 5) (d5 4 5)) (aQ (cS (L2.PW.pt (iB (bN (fq hr.units) (gW 1 [4] ["_law_k","_law_ties"] rfl (yG rfl bu.Y7 az (cE gN rfl bu.YK PySem.boot_len (ai (aa 4) aw))) (λ_ _ _ _ _=>(gV 0)) (λ_=>(cQ 0)) (λ_ _ _ _ _ _=>(iC (bN yV (aS (aa 1) (aa 0)) (aS (aa 1) (bL ui (aa 0) az))))) (λ_ _ _ _ _ _=>(aa 0))) (fF aw)) (jt (gu (fh (cC zhc hr.mono (ai (aa 0) (ai (aa 2) (ai (aa 4) aw))))))))) (aL (bS eN)) cT) (aQ (j6 PassesOwn.never rfl (aa 4) (gF zc0.nd 6) (cQ 6) (aL (cS (fh (cC zhc hr.mono (ai (aa 0) (ai (aa 2) (ai (gW 1 [6] ["_law_one","_law_number"] rfl (dJ (aa 4)) (λ_ _ _ _ _=>(gV 0)) (λ_=>(cQ 0)) (λ_ _ _ _ _ _=>(iC (bN (fq hr.units) (aa 0) (aa 1)))) (λ_ _ _ _ _ _=>(aa 0))) aw))))) (aL (bS eN)) cT))) (aQ (cS (L2.PW.pt (iB (gu (fh (me zJ (aa 5) rfl bu.za9 rfl bu.YU jO))) (jt (gu (fh (cC zlE hr.mono (ai (aa 5) (ai (aa 2) aw)))))))) (aL (bS eN)) cT) (aQ (cS (gu (fh (cC zlF hr.mono (by refine ai ?_ ?_ ?_;exact(aa 0);exact(by refine ai ?_ ?_ ?_;exact(aa 1);exact(by refine ai ?_ ?_ ?_;exact(aa 4);exact(by refine ai ?_ ?_ ?_;exact(aa 5);exact aw;exact(fW rfl));exact(fW rfl));exact(fW rfl));exact(fW rfl))))) (aL (bS eN)) cT) (aQ (cz zc0.nd 7 (cC zeT hr.mono (ai (aa 5) aw))) (aL (bS (L0 (cC zeS hr.mono (ai (iF (ai (bL (Ya.or eO) az (aS (aa 7) az)) (ai (aS (aa 7) az) aw))) (ai (iF (ai (cE (A6 rfl) rfl bu.zd1 (by decide+kernel) (ai (gX [1] ["_law_number","_law_weights"] rfl (dJ (aa 4)) (λ_ _ _ _ _ _=>(aS (aa 1) (aa 0)))) aw)) (ai az aw))) aw))))))))))))
def zaE:WJ ["_law_script","_law_k","_law_pool_here","_law_web_here","_law_weights","_law_wishes_here","_law_found","_law_kept"] ["_law_script"] (aN xJ):=ck
def uI:DE:=(jJ (eR (eQ (ag fZ jj)) (eR (zb 1) kb)))
def Fy:DE:=(jJ (eR (eQ (ag fZ (ae (d2 ao c9 aU) aq))) (eR (eQ (jL 2 [] (bA (d2 ao c9 aX)) (bq 2 dF) aZ uI)) kb)))
def Dg:DS:=(bO (eZ (dh (ag (aH wc) (ae bw (ae bh (ae cK lY)))))) fK cw)
def De:DS:=(bO (fS (aD (d2 zF (ag (aH v3) (ae bw (ae bh (ae cK (ae (d2 ao c9 aU) (ae (d2 ao c9 aX) aq)))))) jS)) (aD (d2 bV c9 gk))) fK cw)
def Dc:DS:=(rV 6 aX (jJ (eR (eQ (ag cY (ae aU aq))) (eR (za (eR (eQ aX) (eR (eQ aX) kb))) kb))))
def C9(C:ZE):DS:=(bO (aD (d2 bV (ag (aH (o8 C)) (ae bw (ae bh iu))) gk)) fK cw)
noncomputable def sg(C p:ZE):WS au:=(cR (fM 3 (eX p wa (cq (cu au aK) (cq (cu au (dC (.int 9))) Yb)))) (cR (fM 4 (rO 1 [2] (mJ au (bA (d2 ao bw aX))) bo sT (eX p sH (cq lX Yb)))) (cR (fM 5 (eX p v8 (cq (cu au aK) (cq (cu au bw) (cq (cu au sM) Yb))))) (cR (d7 au (aW 6 (ag (aH (o8 C)) (ae bw (ae bh iu))))) (cR (d7 au Dg) (cR (d7 au (aW 7 Fy)) (cR (d7 au De) (cR (d7 au (rV 6 aU aU)) (cR (d7 au Dc) (d7 au (C9 C)))))))))))
noncomputable def Aa(C:ZE):DS:=(aB (oT wB (ag qX (ae aX (ae (ag qN (ae (ag cb jj) (ae (dC (.int 12)) aq))) aq))) (aB (aW 2 (ag (aH we) ji)) (oU 2 λp=>(sg C p)))) (bW jS))
def Io(C:ZE):Ql D->Qo Ev:=cB 1 ["_law_script","_law_k","_law_pool_here","_law_web_here","_law_weights","_law_wishes_here","_law_found","_law_kept"] (Aa C)
def M9{C:ZE}(cl:Xb K C) (Fn:L2.Wy K "law" "law" xJ ad fd)(bu:W8 mg)(zlz:Xk P w K mg base "_law_pool" 1 we)(zlx:zaa au P w K mg base "_law_web" 2 wa)(zlw:zaa au P w K mg base "_law_weight" 3 sH)(zlu:zaa au P w K mg base "_law_wishes" 2 v8)(zhd:Xk P w K mg base "join_by_moats" 4 (o8 C))(zly:Xk P w K mg base "_law_right" 5 wc)(zls:Xk P w K mg base "lets_joining" 4 v3):=cM P w base mg 5 zaE (Aa C) Fn λhr=>aQ (Dx PassesOwn.never rfl rfl bu.Y7 (cE (HC rfl) rfl bu.zfY (by decide+kernel) (ai az (ai (cE (HB rfl) rfl bu.zd2 (by decide+kernel) (ai (cE gN rfl bu.YK PySem.boot_len (ai (aa 0) aw)) (ai az aw))) aw))) (gF zaE.nd 1) (cQ 1) (aQ (cz zaE.nd 2 (cC zlz hr.mono (ai (aa 0) (ai (aa 1) aw)))) (Lj 2 λp=>(dt (j4 zaE.nd 3 (gG zlx hr.mono (cU (bX λ_=>aa 2) (cU (bX λ_=>az) gH)))) (dt (Lc (i:=4) 1 [2] ["_law_tie","_law_pool_here"] zaE.nd rfl (Or.inl rfl) rfl (yF λ_=>(dJ (aS (aa 3) az))) (λ_ _ _ _ _=>(gV 0)) (λ_=>(cQ 0)) (λ_ _ _ _ _ _=>K5) (λ_ _ _ _ _ _=>(gG zlw hr.mono (cU (bX λ_=>aa 1) gH)))) (dt (j4 zaE.nd 5 (gG zlu hr.mono (cU (bX λ_=>aa 2) (cU (bX λ_=>(aa 3)) (cU (bX λ_=>az) gH))))) (dt (gw λF=>(cz zaE.nd 6 (cC zhd hr.mono (ai (aa 3) (ai (aa 4) (ai (aa 5) aw)))))) (dt (gw λF=>(cS (gu (fh (cC zly hr.mono (by refine ai ?_ ?_ ?_;exact(aa 3);exact(by refine ai ?_ ?_ ?_;exact(aa 4);exact(by refine ai ?_ ?_ ?_;exact(aa 5);exact(by refine ai ?_ ?_ ?_;exact(aa 6);exact aw;exact(fW rfl));exact(fW rfl));exact(fW rfl));exact(fW rfl))))) (aL (bS eN)) cT)) (dt (gw λF=>(cz zaE.nd 7 (ub (jv (kZ (mf mX rfl bu.YU jO (ai (aS (aa 6) az) aw))) (jv (kZ (yP 2 [] ["_law_points","_law_width"] rfl (dJ (aS (aa 6) az)) (λ_ _ _ _ _=>(eh (of_decide_eq_true rfl) 0 1)) (λ_=>(d5 0 1)) (λ_ _ _ _ _ _=>iY) (λ_ _ _ _ _ _=>(ub (jv (kZ (mf mX rfl bu.YU jO (ai (aa 0) aw))) (jv (LN 1) pQ)))))) pQ))))) (dt (gw λF=>(cS (L2.PW.pt (iB (bN Nw (cC zls hr.mono (by refine ai ?_ ?_ ?_;exact(aa 3);exact(by refine ai ?_ ?_ ?_;exact(aa 4);exact(by refine ai ?_ ?_ ?_;exact(aa 5);exact(by refine ai ?_ ?_ ?_;exact(aS (aa 6) az);exact(by refine ai ?_ ?_ ?_;exact(aS (aa 6) az);exact aw;exact(fW rfl));exact(fW rfl));exact(fW rfl));exact(fW rfl));exact(fW rfl))) eN) (jt (bN (fq hr.units) (aa 6) (aa 7))))) (aL (bS eN)) cT)) (dt (gw λF=>(Dz 6 (DO (DK 6) az) az)) (dt (gw λF=>(Dz 6 (DO (DK 6) az) (ub (jv (kZ (fF (ai az aw))) (jv (LM (jv (kZ az) (jv (kZ az) pQ))) pQ))))) (iD (gw λF=>(cS (bN (fq hr.units) (cC zhd hr.mono (ai (aa 3) (ai (aa 4) (ai (aa 5) aw)))) (aa 7)) (aL (bS eN)) cT))))))))))))))) (aL (bS eN))
end
def Bs(t:Th)(hf:f t=Qs (.cl d))(hi:t[i]?=Qs (.own xs))(hl:xs.length<100000):iS i f t=Qs (.nx (t.set i (.own (xs++[d])))):=by unfold iS;rw[hf];simp only[RF,uP,hi,Ev.ok,Ev.d,hl,decide_true,Bool.and_self,if_true]
def Q9(t:Th)(hf:f t=Qs (.cl d))(hi:i<t.length):aW i f t=Qs (.nx (t.set i (.val d))):=by unfold aW;rw[hf];simp only[RF,dR,hi,if_true,SY]
theorem Xp:∀xs:Ql Int,Wv (xs.map D.int)=Qt
 |[]=>rfl
 |x::xs=>by have:=Xp xs;assumption
def dm(h1:fa t=Qs ra)(h2:fb t=Qs rb):ag k (ae fa (ae fb aq)) t=k [ra,rb]:=by simp[ag,ae,aq,h1,h2]
def cg(h1:fa t=Qs ra)(h2:fb t=Qs rb):d2 k fa fb t=k ra rb:=by simp[d2,h1,h2]
theorem Ar(n:Nat):∀xs:Ql Int,bZ (n+1) (.lst (xs.map D.int)) (.lst (xs.map D.int))=Qt
 |[]=>rfl
 |x::xs=>by have:=Ar n xs;simp only[bZ]at this ⊢;simp only[RK,Sx,SK,this,Vh];cases n<;>rfl
def wQ(h1:fa t=Qs ra)(h2:fb t=Qs rb)(h3:fc t=Qs rc)(h4:fd t=Qs rd):ag k (ae fa (ae fb (ae fc (ae fd aq)))) t=k [ra,rb,rc,rd]:=by simp[ag,ae,aq,h1,h2,h3,h4]
def jq(h1:fa t=Qs ra)(h2:fb t=Qs rb)(h3:fc t=Qs rc):ag k (ae fa (ae fb (ae fc aq))) t=k [ra,rb,rc]:=by simp[ag,ae,aq,h1,h2,h3]
def fA(h1:fa t=Qs ra):ag k (ae fa aq) t=k [ra]:=by simp[ag,ae,aq,h1]
def hX(hf:f t=Qs (.cl d))(hi:i<t.length):aW i f t=Qs (.nx (t.set i (.val d))):=Q9 t hf hi
def gO(hf:f t=Qs (.nw xs))(hi:i<t.length):aW i f t=Qs (.nx (t.set i (.own xs))):=by unfold aW;rw[hf];simp only[RF,dR,hi,if_true,SY]
def P8(xs:Ql Int)(h1:r1.d=.lst (xs.map D.int))(h2:r2.d=.lst (xs.map D.int)):ez r1 r2=Qs (.cl (.bl Qt)):=by unfold ez;rw[h1,h2,V4 (Ar 5 _),As]
def NJ(xs:Ql Int)(h1:r1.d=.lst (xs.map D.int))(h2:r2.d=.lst (xs.map D.int)):bV r1 r2=Qs (.cl (.bl Qf)):=by unfold bV;rw[h1,h2,V4 (Ar 5 _),As];rfl
def qO(n b:Nat)(h:b<n):XD n (b:Int)=Qs b:=by unfold XD;simp_all
def get_map(L:Ql Int)(b:Nat)(h:b<L.length):(L.map D.int)[b]?=Qs (.int (L.getD b 0)):=by simp[Sb,h]
def Q5(L:Ql Int)(b:Nat)(h:b<L.length):W7 (L.map D.int) (b:Int)=Qs (.int (L.getD b 0)):=by unfold W7;rw[qO _ _ (by simpa using h)];exact get_map L b h
def OQ(L:Ql Int)(b:Nat)(h:b<L.length)(h1:r1.d=.lst (L.map D.int))(h2:r2.d=.int (b:Int)):ao r1 r2=Qs (.cl (.int (L.getD b 0))):=by unfold ao;rw[h1,h2];show(W7 _ b).map _=_;rw[Q5 L b h];simp[flat]
def zS{b:Bool}(h:c t=Qs b):bO c g1 g2 t=if b then g1 t else g2 t:=by unfold bO;rw[h];rfl
def jF(h:c t=Qs b)(hb:b=Qt):bO c g1 g2 t=g1 t:=by rw[zS h,hb];rfl
def zT(h:c t=Qs b)(hb:b=Qf):bO c g1 g2 t=g2 t:=by rw[zS h,hb];rfl
def zR(p:Int)(K:Ql Int)(h1:r1.d=.int p)(h2:r2.d=.lst (K.map D.int)):WZ r1 r2=Qs (.cl (.bl (decide (p∈K)))):=by
 unfold WZ;rw[h1,h2];clear h2;have e1:(K.map D.int).all (λd=>bz d&&bZ 0 d (.int p))=Qt:=by rw[SW];intro d hd;obtain⟨k,_,rfl⟩:=RU.mp hd;rfl
 have e2:(K.map D.int).any (λd=>cP d (.int p))=decide (p∈K):=by
  induction K with
  |nil=>rfl
  |cons k K ih=>
   have Z5:=‹_›;rw[RK,T6,ih Z5,Qb];by_cases h:k=p
   .subst h;simp
   .have:¬p=k:=λq=>h q.symm;simp[h,this]
 show(if bz _&&(K.map _).all _ then Qs _ else Qn)=_;rw[e1,e2];rfl
def Ba(p:Int)(K:Ql Int)(ha:fa t=Qs r1)(hb:fb t=Qs r2)(h1:r1.d=.int p)(h2:r2.d=.lst (K.map D.int)):aD (d2 WZ fa fb) t=Qs (decide (p∈K)):=by unfold aD;rw[cg ha hb,zR p K h1 h2];rfl
def Rf(t:Th)(hf:f t=Qs (.cl (.int p)))(hi:t[i]?=Qs (.own (xs.map D.int)))(hl:xs.length<100000):iS i f t=Qs (.nx (t.set i (.own ((xs++[p]).map D.int)))):=by rw[Bs t hf hi (by simpa using hl)];simp
def xh(h:g1 t=Qs (.rt r)):aB g1 g2 t=Qs (.rt r):=by simp[aB,h]
def dQ(h:c t=Qs b)(hb:b=Qf):bO c g cw t=Qs (.nx t):=(zT h hb).trans rfl
def Wq(h:g=Qs (.rt r)):g.bind iq=Qs r:=by rw[h];rfl
def mZ(h1:fa t=Qs (.cl (.int a)))(h2:fb t=Qs (.cl (.int b))):(d2 d8 fa fb) t=Qs (.cl (.int (a+b))):=(cg h1 h2).trans rfl
def sY(h1:fa t=Qs (.cl (.int a)))(h2:fb t=Qs (.cl (.int b))):(d2 qS fa fb) t=Qs (.cl (.int (a-b))):=(cg h1 h2).trans rfl
def EA(h1:fa t=Qs (.cl (.int a)))(h2:fb t=Qs (.cl (.int b)))(hb:b≠0):(d2 qR fa fb) t=Qs (.cl (.int (a.fmod b))):=by rw[cg h1 h2];show(if mY a b=Qt then _ else Qn)=_;rw[V4 (by exact Ww hb)]
def mS(h1:fa t=Qs (.cl (.int a)))(h2:fb t=Qs (.cl (.int b)))(hb:b≠0)(hs:sm b=Qt):(d2 qV fa fb) t=Qs (.cl (.int (a.fdiv b))):=by rw[cg h1 h2];show(if Z7 a b=Qt then _ else Qn)=_;rw[V4 (by unfold Z7;lia)]
def gY(h1:fa t=Qs (.cl (.int a)))(h2:fb t=Qs (.cl (.int b)))(ha:sm a=Qt)(hb:sm b=Qt):(d2 qM fa fb) t=Qs (.cl (.int (a*b))):=by
 rw[cg h1 h2];have:ZS a b=Qt:=by simp only[ZS];lia
 simp[mz,kI,Ev.d,this]
def ou(h1:fa t=Qs (.cl (.int a)))(h2:fb t=Qs (.cl (.int b))):aD (d2 qL fa fb) t=Qs (decide (a<b)):=by unfold aD;rw[cg h1 h2];rfl
def qW(h1:fa t=Qs (.cl (.int a)))(h2:fb t=Qs (.cl (.int b))):aD (d2 qG fa fb) t=Qs (decide (b<a)):=by unfold aD;rw[cg h1 h2];rfl
def vt(h1:fa t=Qs (.cl (.int a)))(h2:fb t=Qs (.cl (.int b))):aD (d2 ez fa fb) t=Qs (decide (a=b)):=by unfold aD;rw[cg h1 h2];rfl
def uu(h1:fa t=Qs (.cl (.int a)))(h2:fb t=Qs (.cl (.int b))):aD (d2 bV fa fb) t=Qs (!decide (a=b)):=by unfold aD;rw[cg h1 h2];rfl
def Mq(h1:f t=Qs a)(h2:a=Qf->g t=Qs b):fS f g t=Qs (a||b):=by unfold fS;grind
def ml(h1:f t=Qs a)(h2:g t=Qs b):fS f g t=Qs (a||b):=Mq h1 λ_=>h2
def sk(h1:f t=Qs a)(h2:g t=Qs b):ir f g t=Qs (a&&b):=by unfold ir;rw[h1];cases a<;>simp[h2]
def oB{xs:Ql Int}(h:f t=Qs r)(hr:r.d=.lst (xs.map D.int)):(ag cb (ae f aq)) t=Qs (.cl (.int (xs.length:Int))):=by rw[fA h];unfold cb;simp only[hr,RE]
def zI(L:Ql Int)(b:Nat)(ha:fa t=Qs r1)(hb:fb t=Qs r2)(h:b<L.length)(h1:r1.d=.lst (L.map D.int))(h2:r2.d=.int (b:Int)):(d2 ao fa fb) t=Qs (.cl (.int (L.getD b 0))):=by rw[cg ha hb,OQ L b h h1 h2]
def Q3{L:Ql Int}(hk:fk t=Qs (.cl (.int (b:Int))))(hv:fv t=Qs (.cl (.int v)))(hi:t[i]?=Qs (.own (L.map D.int)))(hb:b<L.length):rS f i fk fv t=Qs (.nx (t.set i (.own ((L.set b (f (L.getD b 0) v)).map D.int)))):=by
 unfold rS;rw[hv,hk];unfold uO;rw[hi];show(XD _ b).bind _=_;rw[qO _ b (by simpa using hb)]
 simp_all
def oY{xs:Ql Int}(h:G (rs.map Ev.d)=Qs (.nw (xs.map D.int))):aH G rs=Qs (.nw (xs.map D.int)):=by
 unfold aH;rw[h];simp only[SY,jU];split
 .rfl
 .simp[Xp]
def di(h:G (rs.map Ev.d)=Qs (.cl d))(hf:flat d=Qt):aH G rs=Qs (.cl d):=by unfold aH;rw[h];simp only[SY,jU];lia
def vL(h1:f t=Qs r)(h2:g t=Qs rs):ae f g t=Qs (r::rs):=by unfold ae;rw[h1,h2];rfl
def ig(h:f t=Qs (.cl (.bl b))):dh f t=Qs b:=by unfold dh;rw[h];rfl
def not_of(h:f t=Qs b):eZ f t=Qs (!b):=by unfold eZ;rw[h];rfl
def fg(h:f t=Qs r):bW f t=Qs (.rt r):=by unfold bW;rw[h];rfl
def rL(h:f t=Qs r)(hd:r.d=.lst ds)(ho:r.ok=Qt):fH k f b t=bY k b ds t:=by
 unfold fH
 simp_all
def Ky(x:Int):∀m:Nat,(RT m [D.int x]).flatten=(RT m x).map D.int
 |0=>rfl
 |m+1=>by simp
def Kw(h1:fa t=Qs (.nw [.int x]))(h2:fb t=Qs (.cl (.int (m:Int))))(hm:m<=900):(d2 qM fa fb) t=Qs (.nw ((RT m x).map D.int)):=by rw[cg h1 h2];show(if([D.int x].length<=100&&decide _)=Qt then Qs _ else Qn)=_;rw[V4 (by simp;lia),U9,Ky]
def xb(n:Nat):Builtin.Range.rangeSize 0 (n:Int) 1=(n:Int):=by
 unfold Builtin.Range.rangeSize
 simp_all
def MK{n:Nat}(hn:n<=1000):nW 0 (n:Int) 1=Qt:=by unfold nW;rw[J5 (by lia) (by lia),xb];rfl
def uA(h:f t=Qs (.cl (.int (n:Int))))(hn:n<=1000):(jd (ae f aq)) t=Qs (.nw ((aE n).map D.int)):=by
 have e:(ae f aq) t=Qs [.cl (.int n)]:=by simp[ae,aq,h]
 have e2:tQ ([Ev.cl (.int n)].map Ev.d)=Qs _:=rfl;unfold jd;rw[e,RF,e2,RF,V4 (by
  rw[MK hn,xb,Ww (by lia)];rfl)]
 unfold tK aE;rw[xb];simp
def Ks(h:f t=Qs r)(hr:r.d=.int (n:Int))(hn:n<=100000):oT k0 f b t=bY k0 b ((aE n).map D.int) t:=by unfold oT;rw[h];simp only[RF,hr];rw[V4 (by exact Ww (by lia))];congr 1;unfold fN aE;simp
def Es(n:Nat):aE (n+1)=aE n++[(n:Int)]:=by unfold aE;rw[List.range_succ];simp
def oy{xs:Ql Int}(h:f t=Qs r)(hr:r.d=.lst (xs.map D.int)):(ag fZ (ae f aq)) t=Qs (.nw (xs.map D.int)):=by rw[fA h];unfold fZ;simp only[hr,Xp,Td,if_true]
def nO(h:f t=Qs r)(hr:r.d=.lst (xs.map D.int))(hl:xs.length<64):(ag iI (ae f aq)) t=Qs (.nw ((e9 xs).map D.int)):=by rw[fA h];unfold iI;simp only[hr,qQ,RF];rw[V4 hl]
def Pm(h1:fa t=Qs (.cl (.int a)))(h2:fb t=Qs (.cl (.int b))):(d2 qG fa fb) t=Qs (.cl (.bl (decide (b<a)))):=(cg h1 h2).trans rfl
theorem AG{k:D->Th->Qo Th}{ext:Th}(hk:∀(s:Sl) (x:Int),k (.int x) (s::ext)=Qs (.val (.int x)::ext)):∀(xs:Ql Int) (s:Sl),(∀x∈xs,fe (.val (.int x)::ext)=Qs (.cl (.int (f x))))->bJ k aZ fe (xs.map D.int) (s::ext)=Qs ((xs.map f).map D.int)
 |[],s,_=>rfl
 |x::xs,s,hf=>by simp only[RK,bJ,hk,RF,aZ,hf x (Rz ..),if_true];rw[AG hk _ _ λy hy=>hf y (Rx _ hy)];rfl
def rX{xs:Ql Int}(hf:f t=Qs r)(hr:r.d=.lst (xs.map D.int))(hn:xs.length<=50000)(hc:gC t cap=Qs (b,c))(he:∀x∈xs,fe (.val (.int x)::c.map Sl.val)=Qs (.cl (.int (g x)))): (aM 1 cap (bA f) bo aZ fe) t=Qs (.nw ((xs.map g).map D.int)):=by
 unfold aM;have e1:bA f t=Qs (r.ok,xs.map D.int):=by
  unfold bA
  simp_all
 rw[e1,hc];simp only[RF];rw[V4 (by simpa using hn)];show(bJ _ _ _ _ (Sl.no::c.map _)).bind _=_;rw[(AG (λ_ _=>rfl) _ _ he)];simp only[RF,Xp,Td,if_true]
def wU{xs:Ql Int}(h:f t=Qs r)(hr:r.d=.lst (xs.map D.int)):(ag i8 (ae f aq)) t=Qs (.cl (.int xs.sum)):=by rw[fA h];unfold i8;simp only[hr,qQ];rfl
end KX
set_option maxHeartbeats 1000000
namespace KX
open PySem.Spec L2 DL
section
variable {ρ:Res}{t t':Th}{w w1 w2:ρ.γ}{r r1 r2:Ev}{rs:Ql Ev}{p:ZE}
def Aw(h:f t=Qs r):cu ρ f t w=Qs (r,w):=by simp[cu,h]
def fR(h1:fa t w=Qs (r1,w1))(h2:fb t w1=Qs (r2,w2))(hk:k r1 r2=Qs r):dz k fa fb t w=Qs (r,w2):=by simp[dz,h1,h2,hk]
def vW:(Yb:WA ρ) t w=Qs ([],w):=rfl
def lJ(h1:f t w=Qs (r,w1))(h2:g t w1=Qs (rs,w2)):cq f g t w=Qs (r::rs,w2):=by simp[cq,h1,h2]
def vw(h:ga t w=Qs (.cl (.adr p)::rs,w1))(hG:G w1 (rs.map Ev.d)=Qs (r,w2)):eX p G ga t w=Qs (jU (rs.all Ev.ok) r,w2):=by simp[eX,h,hG]
def sW(h:f t w=Qs (.cl (.bl b),w1)):nN f t w=Qs (b,w1):=by simp[nN,h,Ev.d]
def Cp(h:f t=Qs b):kL ρ f t w=Qs (b,w):=by simp[kL,h]
def Jx(h:f t w=Qs (Qt,w1)):tOr f g t w=Qs (Qt,w1):=by simp[DL.tOr,h]
def Jy(h:f t w=Qs (Qf,w1)):tOr f g t w=g t w1:=by simp[DL.tOr,h]
def ik(h:g t=Qs (.nx t')):d7 ρ g t w=Qs (.nx t' w):=by simp[d7,h,oL]
def CO(h:g t=Qs (.rt r)):d7 ρ g t w=Qs (.rt r w):=by simp[d7,h,oL]
def cW(h:g1 t w=Qs (.nx t' w1)):cR g1 g2 t w=g2 t' w1:=by simp[cR,h]
def x6(h:g1 t w=Qs (.rt r w1)):cR g1 g2 t w=Qs (.rt r w1):=by simp[cR,h]
def x8(h:c t w=Qs (Qt,w1)):kS c g1 g2 t w=g1 t w1:=by simp[kS,h]
def x9(h:c t w=Qs (Qf,w1)):kS c g1 g2 t w=g2 t w1:=by simp[kS,h]
def tJ(h:f t w=Qs (r,w1)):kQ f t w=Qs (.rt r w1):=by simp[kQ,h]
def kT(h:f t w=Qs (.cl d,w1))(hi:i<t.length):fM i f t w=Qs (.nx (t.set i (.val d)) w1):=by simp[fM,h,dR,hi]
def CP(h:f t w=Qs (.nw xs,w1))(hi:i<t.length):fM i f t w=Qs (.nx (t.set i (.own xs)) w1):=by simp[fM,h,dR,hi]
def ya(h:fs t w=Qs ((Qt,ds),w1)):nR k fs b t w=gz k b ds t w1:=by simp[nR,h]
def zU(h:fs t=Qs q):mJ ρ fs t w=Qs (q,w):=by simp[mJ,h]
def Pc(h:f t w=Qs (.cl (.int (n:Int)),w1))(hn:n<=100000):uV f t w=Qs ((Qt,(aE n).map D.int),w1):=by
 unfold uV;rw[h];show(if eI _ then Qs _ else Qn)=_;rw[V4 (by exact Ww (by lia))];have:fN 0 (n:Int).toNat=(aE n).map D.int:=by unfold fN aE;simp
 rw[this]
def vo(h1:k d t=Qs t1)(h2:b t1 w=Qs (.nx t2 w1)):gz k b (d::ds) t w=gz k b ds t2 w1:=by simp[gz,h1,h2]
def Qq{ys:Ql D×ρ.γ}(h1:k d t=Qs t1)(h2:ft t1 w=Qs (Qt,w1))(h3:fe t1 w1=Qs (r,w2))(h4:gB k ft fe ds t1 w2=Qs (ys.1,w3)):gB k ft fe (d::ds) t w=Qs (r.d::ys.1,w3):=by simp[gB,h1,h2,h3,h4]
def Qg(h1:fs t w=Qs ((b,ds),w1))(h2:gC t cap=Qs (c,cs))(hl:ds.length<=50000)(h3:gB k ft fe ds (RT n Sl.no++cs.map Sl.val) w1=Qs (ys,w2))(hf:Wv ys=Qt):rO n cap fs k ft fe t w=Qs (.nw ys,w2):=by
 unfold rO
 simp_all
def lg(hl:ds.length+1=k)(h:∀p,g p (tj N p ds) w=Qs (.rt r w1)):iG k N g w ds=Qs (r,w1):=NR hl λp=>by unfold nU;rw[h p];rfl
end
structure Yj(w:Int×Int):Prop where
 c0:0<=w.1
 n0:0<=w.2
 n1:w.2<2147483647
def eY{w:Int×Int}(h:f t=Qs r):cu au f t w=Qs (r,w):=Aw h
def iO{G:Int×Int->Ql D->Qo (Ev×(Int×Int))}(hi:t[i]?=Qs (.val (.adr p)))(hm:fm t=Qs (.cl (.int m)))(hG:G w [.int m]=Qs (.cl (.int r),w')):eX (ρ:=au) p G (cq (cu au (af i)) (cq (cu au fm) Yb)) t w=Qs (.cl (.int r),w'):=by exact vw (lJ (Aw (by unfold af;rw[hi])) (lJ (ρ:=au) (Aw hm) vW)) hG
def ua{w:Int×Int}(hi:t[i]?=Qs (.val (.adr p))):iN p i 0 t w=Qs (.cl (.int w.1),w):=by simp[iN,hi];rfl
def DV{w:Int×Int}(hi:t[i]?=Qs (.val (.adr p))):iN p i 1 t w=Qs (.cl (.int w.2),w):=by simp[iN,hi];rfl
def Lx{w w1:Int×Int}{f:WE au}(hi:t[i]?=Qs (.val (.adr p)))(h:f t w=Qs (.cl (.int n),w1)):kR p i 0 f t w=Qs (.nx t (n,w1.2)):=by unfold kR;rw[h,hi];exact V4 rfl
def Lw{w w1:Int×Int}{f:WE au}(hi:t[i]?=Qs (.val (.adr p)))(h:f t w=Qs (.cl (.int n),w1)):kR p i 1 f t w=Qs (.nx t (w1.1,n)):=by unfold kR;rw[h,hi];exact V4 rfl
def qu(h:b≠0):qR (.cl (.int a)) (.cl (.int b))=Qs (.cl (.int (a.fmod b))):=by show(if mY a b then Qs _ else Qn)=_;rw[V4 (by exact Ww h)]
def Fz(h:b≠0)(hs:sm b=Qt):qV (.cl (.int a)) (.cl (.int b))=Qs (.cl (.int (a.fdiv b))):=by show(if Z7 a b then Qs _ else Qn)=_;rw[V4 (by unfold Z7;lia)]
def zv(ha:sm a=Qt)(hs:sm b=Qt):qM (.cl (.int a)) (.cl (.int b))=Qs (.cl (.int (a*b))):=by
 (try unfold d8);(try unfold qM);unfold mz
 have:(kI ZS λi j=>.int (i*j)) (.cl (.int a)) (.cl (.int b))=Qs (.cl (.int (a*b))):=by show(if ZS a b then Qs _ else Qn)=_;rw[V4 (by unfold ZS;lia)]
 rw[this]
def zC:d8 (.cl (.int a)) (.cl (.int b))=Qs (.cl (.int (a+b))):=rfl
def OM:ez (.cl (.int a)) (.cl (.int b))=Qs (.cl (.bl (decide (a=b)))):=rfl
def Fw:qG (.cl (.int a)) (.cl (.int b))=Qs (.cl (.bl (decide (b<a)))):=rfl
def Yh(h0:0<=a)(h1:a<1000000000000000000):sm a=Qt:=kM (by lia) (by lia)
end KX
set_option maxHeartbeats 4000000
namespace KX
open PySem.Spec L2 DL
noncomputable def pD(p:Int×Int):D:=.tup [.int p.1,.int p.2]
theorem Aj:∀ts:Ql (Int×Int),Wv (ts.map pD)=Qt
 |[]=>rfl
 |p::ts=>by simp only[RK,Wv,Aj _];rfl
def Oa{ts:Ql (Int×Int)}(h:f t=Qs r)(hr:r.d=.lst (ts.map pD)):(ag fZ (ae f aq)) t=Qs (.nw (ts.map pD)):=by rw[fA h];unfold fZ;simp only[hr,Aj,Td,if_true]
end KX
set_option maxHeartbeats 1000000
namespace KX
open PySem.Spec L2 DL
def yD(h1:fa t=Qs (.cl (.int a)))(h2:fb t=Qs (.cl (.int b)))(h:sf a b=Qt):(d2 qP fa fb) t=Qs (.cl (.int (a^b.toNat))):=by rw[cg h1 h2];show(if sf a b then Qs _ else Qn)=_;rw[V4 h]
def LJ(ns:Ql Int)(hl:ns.length<=63){k:Nat}(hk:k<=100):∃c n:Int,Yj (c,n)/\we [.lst (ns.map D.int),.int (k:Int)]=Qs (.nw [.int c,.int n]):=by
 let N:Sl:=.val (.lst (ns.map D.int))
 let K:Sl:=.val (.int k)
 have c1:=ou (fa:=af 1) (t:=[N,K,.val (.int 0),.no]) rfl (oB (f:=af 0) rfl rfl);obtain⟨v,E2⟩:∃v:Int,(bO _ (aW 2 _) _) _=Qs (.nx [N,K,.val _,.no]):=by
  by_cases h:(k:Int)<ns.length
  .exact⟨_,(jF c1 (Ww h)).trans (hX (zI (fa:=af 0) (fb:=af 1) _ k rfl rfl (by lia) rfl rfl) (by simp))⟩
  .exact⟨0,dQ c1 (Xt h)⟩
 let t2:=[N,K,.val (.int v),.no]
 have f0:0<=v.fmod 2147483629:=Tv _ (by simp);have f1:v.fmod _<2147483629:=TX _ (by simp);have kk:k*k<=10000:=by have:=VB hk hk;lia
 have m2:=gY (fb:=af 1) (gY (fa:=dC (.int 104729)) (fb:=af 1) (t:=t2) rfl rfl (kM (by decide) (by simp)) (kM (by lia) (by lia))) rfl (kM (by lia) (by lia)) (kM (by lia) (by lia));rw[(Um _ _ _)]at m2;have n1:=EA (yD (mZ (mZ (EA (fa:=af 2) (fb:=dC (.int 2147483629)) rfl rfl (by decide)) m2) (rfl:dC (.int 11) _=Qs _)) (rfl:dC (.int 3) _=Qs _) ((Ww (by lia)))) (rfl:dC (.int 2147483647) _=Qs _) (by decide);have g0:=Tv ((v.fmod 2147483629+104729*(k*k)+11)^(3:Int).toNat) (show 0<2147483647 by simp);have g1:=TX ((v.fmod 2147483629+104729*(k*k)+11)^(3:Int).toNat) (show 0<2147483647 by simp);generalize ((v.fmod _+104729*(k*k)+11)^(3:Int).toNat).fmod _=n at*
 let t3:=[N,K,.val (.int v),.val (.int n)]
 have c4:=ou (fa:=af 2) rfl (yD (fa:=dC (.int 10)) (fb:=dC (.int 18)) (t:=t3) rfl rfl (by rfl));obtain⟨c,c0,E4⟩:∃c:Int,0<=c/\(bO _ (aW 2 aU) _) _=Qs (.nx [N,K,.val _,.val _]):=by
  by_cases h:v<10^(18:Int).toNat
  .exact⟨0,Tq _,(jF c4 (Ww h)).trans rfl⟩
  .have:(0:Int)<=10^(18:Int).toNat:=by simp
   exact⟨v,by lia,dQ c4 (Xt h)⟩
 refine⟨c,n,⟨c0,g0,g1⟩,?_⟩;refine Wq ?_;exact(aG rfl).trans ((aG E2).trans ((aG (hX n1 (by simp[t2]))).trans ((aG E4).trans rfl)))
def iV(hw:Yj w)(m0:0<m)(hs:sm m=Qt):∃(r:Int) (w':Int×Int),0<=r/\r<m/\Yj w'/\fV w [.int m]=Qs (.cl (.int r),w'):=by
 obtain⟨h0,h1,h2⟩:=hw;by_cases hc:0<w.1
 .refine⟨w.1.fmod m,(w.1.fdiv m,w.2),Tv _ m0,TX _ m0,⟨Int.fdiv_nonneg h0 (by lia),h1,h2⟩,lg rfl λp=>?_⟩;let t0:Th:=[.val (.adr p),.val (.int m),.no]
  let t1:Th:=[.val (.adr p),.val (.int m),.val (.int (w.1.fmod m))]
  have e1:=sW (fR (ρ:=au) (ua (i:=0) (w:=w) rfl) (eY (rfl:dC (.int 0) t0=Qs _)) Fw);rw[Ww hc]at e1;refine x6 ((x8 e1).trans ((cW (kT (fR (ρ:=au) (ua (t:=t0) rfl) (eY rfl) (qu (by lia))) (by simp[t0]))).trans ((cW (Lx rfl (fR (ua rfl) (eY rfl) (Fz (by lia) hs)))).trans ?_)));rfl
 .obtain⟨n',hn'⟩:∃n',n'=(w.2*48271+11).fmod 2147483647:=⟨_,rfl⟩;have n0:0<=n':=by lia
  have n1:n'<2147483647:=by lia
  refine⟨(((n'*n').fmod 2147483629).fdiv 64).fmod m,(w.1,n'),Tv _ m0,TX _ m0,⟨h0,n0,n1⟩,lg rfl λp=>?_⟩;let t0:Th:=[.val (.adr p),.val (.int m),.no]
  have e1:=sW (fR (ρ:=au) (ua (i:=0) (w:=w) rfl) (eY (rfl:dC (.int 0) t0=Qs _)) Fw);rw[Xt hc]at e1;have e2:=Lw (i:=0) rfl (fR (fR (fR (ρ:=au) (DV (i:=0) rfl) (eY (rfl:dC (.int 48271) t0=Qs _)) (zv (Yh h1 (by lia)) (Yh (by simp) (by simp)))) (eY (rfl:dC (.int 11) _=Qs _)) zC) (eY (rfl:dC (.int 2147483647) _=Qs _)) (qu (by decide)));rw[<-hn']at e2;have g1:=DV (i:=0) (t:=t0) (w:=(w.1,n')) rfl;exact(cW ((x9 e1).trans rfl)).trans ((cW e2).trans (tJ (fR (fR (fR (fR g1 g1 (zv (Yh n0 (by lia)) (Yh n0 (by lia)))) (eY rfl) (qu (by decide))) (eY rfl) (Fz (by decide) (Yh (by simp) (by simp)))) (eY rfl) (qu (by lia)))))
def IF(hw:Yj w)(m0:0<m):∃(r:Int) (w':Int×Int),0<=r/\r<m/\Yj w'/\BI w [.int m]=Qs (.cl (.int r),w'):=by
 obtain⟨a,w1,a0,a1,o1,e1⟩:=iV hw (m:=1000003) (by simp) (Yh (by simp) (by simp));obtain⟨b,w2,b0,b1,o2,e2⟩:=iV o1 (m:=1000003) (by simp) (Yh (by simp) (by simp));refine⟨(a*1000003+b).fmod m,w2,Tv _ m0,TX _ m0,o2,lg rfl λp=>?_⟩;let t0:Th:=[.val (.adr p),.val (.int m)]
 exact tJ (fR (fR (fR (iO rfl rfl e1) (eY rfl) (zv (Yh a0 (by lia)) (Yh (by simp) (by simp)))) (iO rfl rfl e2) zC) (eY rfl) (qu (by lia)))
def IG(hw:Yj w):∃(r:Int) (w':Int×Int),0<=r/\r<=1000000000000/\Yj w'/\sH w []=Qs (.cl (.int r),w'):=by
 obtain⟨a,w1,a0,a1,o1,e1⟩:=iV hw (m:=8) (by simp) (Yh (by simp) (by simp));have first:∀p,fM 1 (eX p fV (cq gP (cq (cu au (dC (.int 8))) Yb))) [.val (.adr p),.no] w=Qs (.nx [.val (.adr p),.val (.int a)] w1):=λp=>kT (i:=1) (iO (i:=0) (t:=[.val (.adr p),.no]) (p:=p) rfl rfl e1) (by simp)
 have q:∀p:ZE,aD (d2 ez av aU) [.val (.adr p),.val (.int a)]=Qs (decide (a=0)):=λp=>vt (fa:=af 1) (fb:=dC (.int 0)) (a:=a) (b:=0) rfl rfl;by_cases h0:a=0
 .refine⟨0,w1,Tq _,by simp,o1,lg rfl λp=>?_⟩;refine(cW (first p)).trans (x6 (CO ((jF (q p) (Ww h0)).trans rfl)))
 .have skip:∀p:ZE,d7 au (bO (aD (d2 ez av aU)) (bW aU) cw) [.val (.adr p),.val (.int a)] w1=Qs (.nx [.val (.adr p),.val (.int a)] w1):=λp=>ik (dQ (q p) (Xt h0));have q2:∀p:ZE,kL au (aD (d2 qL av sM)) [.val (.adr p),.val (.int a)] w1=Qs (decide (a<6),w1):=λp=>Cp (ou (fa:=af 1) (fb:=dC (.int 6)) (a:=a) (b:=6) rfl rfl);by_cases h6:a<6
  .obtain⟨b,w2,b0,b1,o2,e2⟩:=iV o1 (m:=10) (by simp) (Yh (by simp) (by simp));refine⟨b,w2,b0,by lia,o2,lg rfl λp=>?_⟩;have z:=q2 p;rw[Ww h6]at z;exact(cW (first p)).trans ((cW (skip p)).trans (x6 ((x8 z).trans (tJ (iO rfl rfl e2)))))
  .obtain⟨b,w2,b0,b1,o2,e2⟩:=IF o1 (m:=1000000000001) (by simp);refine⟨b,w2,b0,by lia,o2,lg rfl λp=>?_⟩;have z:=q2 p;rw[Xt h6]at z;exact(cW (first p)).trans ((cW (skip p)).trans ((cW ((x9 z).trans rfl)).trans (tJ (iO rfl (mZ (yD rfl rfl (by rfl)) rfl) e2))))
structure Yi(M:Nat)(ts:List (Int×Int)):Prop where
 pos:0<M
 lt:∀e∈ts,0<=e.1/\e.1<e.2/\e.2<(M:Int)
def Rc(h6:t[6]?=Qs (.val (.int a)))(h7:t[7]?=Qs (.val (.int b)))(h5:t[5]?=Qs (.own (ts.map pD)))(hl:ts.length<100000):iS 5 (ag cX (ae (af 6) (ae (af 7) aq))) t=Qs (.nx (t.set 5 (.own ((ts++[(a,b)]).map pD)))):=by
 have e6:af 6 t=Qs (.cl (.int a)):=by unfold af;rw[h6]
 have e7:af 7 t=Qs (.cl (.int b)):=by unfold af;rw[h7]
 have:=Bs t ((dm (k:=cX) e6 e7).trans rfl) h5 (by rw[RE];assumption);rw[this,Tp];rfl
abbrev tI(p:ZE)(s1:Sl)(M:Nat)(dn ln:Int)(ts:Ql (Int×Int))(a b:Int):Th:=[.val (.adr p),s1,.val (.int (M:Int)),.val (.int dn),.val (.int ln),.own (ts.map pD),.val (.int a),.val (.int b)]
theorem E9{M:Nat}(a0:0<=a)(d0:0<dn)(d1:dn<=100):∀(bs:Ql Int) (ts:Ql (Int×Int)) (w:Int×Int),Yj w->(∀b∈bs,a<b/\b<(M:Int))->ts.length+bs.length<100000->(∀e∈ts,0<=e.1/\e.1<e.2/\e.2<(M:Int))->∃(Y2:Ql (Int×Int)) (w':Int×Int),Yj w'/\Y2.length<=ts.length+bs.length/\(∀e∈Y2,0<=e.1/\e.1<e.2/\e.2<(M:Int))/\∀(p:ZE) (s1 s7:Sl),∃u7,gz wz (Ia p) (bs.map D.int) [.val (.adr p),s1,.val (.int (M:Int)),.val (.int dn),.val (.int ln),.own (ts.map pD),.val (.int a),s7] w=Qs (.nx [.val (.adr p),s1,.val (.int (M:Int)),.val (.int dn),.val (.int ln),.own (Y2.map pD),.val (.int a),u7] w')
 |[],ts,w,ok,_,_,ht=>⟨ts,w,ok,by simp,ht,λp s1 s7=>⟨s7,rfl⟩⟩
 |b::bs,ts,w,ok,hb,hl,ht=>by
  rw[Su]at hl;obtain⟨b1,b2⟩:=hb b (Rz ..);obtain⟨r,w1,r0,r1,o1,e1⟩:=iV ok (m:=dn) d0 (Yh (by lia) (by lia));have rest:=λts h1 h2=>E9 (M:=M) (ln:=ln) a0 d0 d1 bs ts w1 o1 (λb ZN=>hb b (Rx _ ZN)) h1 h2;have dr:∀(p:ZE) (s1 s7:Sl),dz ez (eX p fV (cq gP (cq (cu au bw) Yb))) (cu au aU) (tI p s1 M dn ln ts a b) w=Qs (.cl (.bl (decide (r=0))),w1):=λp s1 s7=>fR (ρ:=au) (iO (i:=0) (p:=p) rfl rfl e1) (eY rfl) OM;have c2:∀(p:ZE) (s1:Sl),tR (tI p s1 M dn ln ts a b)=Qs (decide (0<ln)&&decide (b=a+1)):=λp s1=>by unfold tR ir;rw[qW rfl rfl];cases decide (0<ln)<;>rfl
  have yes:(∀(p:ZE) (s1:Sl),(ym p) (tI p s1 M dn ln ts a b) w=Qs (Qt,w1))\/∀(p:ZE) (s1:Sl),(ym p) (tI p s1 M dn ln ts a b) w=Qs (Qf,w1):=by
   by_cases z:r=0
   .refine .inl λp s1=>?_;have:=sW (ρ:=au) (dr p s1 .no);rw[Ww z]at this;exact Jx this
   .have fst:∀(p:ZE) (s1:Sl),_:=λp s1=>by have:=sW (ρ:=au) (dr p s1 .no);rw[Xt z]at this;exact(Jy (g:=(kL au tR)) this).trans (Cp (ρ:=au) (c2 p s1))
    cases hh:decide (0<ln)&&decide (b=a+1) with
    |true=>exact .inl λp s1=>by have:=fst p s1;rw[hh]at this;assumption
    |false=>exact .inr λp s1=>by have:=fst p s1;rw[hh]at this;assumption
  rcases yes with yes|no
  .have el:(ts++[(a,b)]).length=ts.length+1:=by simp
   obtain⟨Y2,w',o',l',h',run⟩:=rest (ts++[(a,b)]) (by lia) (λe he=>by
    rcases Ry.mp he with z|z
    .exact ht e z
    .simp_all)
   refine⟨Y2,w',o',by rw[Su];lia,h',λp s1 s7=>?_⟩;obtain⟨u7,e⟩:=run p s1 (.val (.int b));refine⟨u7,(vo rfl ((x8 (yes p _)).trans (ik (Rc (t:=(tI p _ M _ _ _ a b)) rfl rfl rfl (by lia))))).trans e⟩
  .obtain⟨Y2,w',o',l',h',run⟩:=rest _ (by lia) ht;refine⟨Y2,w',o',by rw[Su];lia,h',λp s1 s7=>?_⟩;obtain⟨u7,e⟩:=run p s1 (.val (.int b));exact⟨u7,(vo rfl ((x9 (no p _)).trans rfl)).trans e⟩
def above(a:Int)(M:Nat):Ql Int:=(Si ((M:Int)-(a+1)).toNat).map λ(i:Nat)=>a+1+(i:Int)
def Rh:∀b∈above a M,a<b/\b<(M:Int):=λb hb=>by obtain⟨i,hi,rfl⟩:=RU.mp hb;have:=Tg.mp hi;lia
theorem EU{M:Nat}(hM:M<=60)(d0:0<dn)(d1:dn<=100):∀(as:Ql Int) (ts:Ql (Int×Int)) (w:Int×Int),Yj w->(∀a∈as,0<=a/\a<(M:Int))->ts.length+60*as.length<90000->(∀e∈ts,0<=e.1/\e.1<e.2/\e.2<(M:Int))->∃(Y2:Ql (Int×Int)) (w':Int×Int),Yj w'/\Y2.length<=ts.length+(as.map λa=>(above a M).length).sum/\(∀e∈Y2,0<=e.1/\e.1<e.2/\e.2<(M:Int))/\∀(p:ZE) (s1 s6 s7:Sl),∃u6 u7,gz kH (Bi p) (as.map D.int) [.val (.adr p),s1,.val (.int (M:Int)),.val (.int dn),.val (.int ln),.own (ts.map pD),s6,s7] w=Qs (.nx [.val (.adr p),s1,.val (.int (M:Int)),.val (.int dn),.val (.int ln),.own (Y2.map pD),u6,u7] w')
 |[],ts,w,ok,_,_,ht=>⟨ts,w,ok,by simp,ht,λp s1 s6 s7=>⟨s6,s7,rfl⟩⟩
 |a::as,ts,w,ok,ha,hl,ht=>by
  rw[Su]at hl;obtain⟨a0,a1⟩:=ha a (Rz ..);have al:(above a M).length<=60:=by unfold above;rw[RE,T3];lia
  obtain⟨ts1,w1,o1,l1,h1,zdT⟩:=E9 (ln:=ln) a0 d0 d1 _ _ w ok Rh (by lia) ht;obtain⟨Y2,w',o',l',h',run⟩:=EU hM (ln:=ln) d0 d1 _ _ _ o1 (λb hb=>ha b (Rx _ hb)) (by lia) h1;refine⟨Y2,w',o',by rw[RK,Sj];lia,h',λp s1 s6 s7=>?_⟩;obtain⟨v7,e1⟩:=zdT p s1 s7;obtain⟨u6,u7,e⟩:=run p s1 (.val (.int a)) v7;refine⟨u6,u7,?_⟩;exact(vo rfl ((ya (zU (by
   show(if eI M&&eI _ then Qs _ else Qn)=_;rw[V4 (by unfold eI;rw[Ww (by lia),Ww (by lia)];rfl)];unfold above fN;rw[R6];rfl))).trans e1)).trans e
def P4:∀M:Nat,M<=9->((aE M).map λa=>(above a M).length).sum<=36:=by intro M h;rcases(by lia:M=0\/M=1\/M=2\/M=3\/M=4\/M=5\/M=6\/M=7\/M=8\/M=9) with rfl|rfl|rfl|rfl|rfl|rfl|rfl|rfl|rfl|rfl<;>decide
def IH(hw:Yj w)(m0:0<m)(m1:m<=60):∃(M:Nat) (ts:Ql (Int×Int)) (w':Int×Int),Yi M ts/\(M:Int)<=m/\ts.length<=((aE M).map λa=>(above a M).length).sum/\Yj w'/\wa w [.int m]=Qs (.cl (.tup [.int (M:Int),.lst (ts.map pD)]),w'):=by
 obtain⟨a,w1,a0,a1,o1,e1⟩:=iV hw m0 (Yh (by lia) (by lia));obtain⟨b,w2,b0,b1,o2,e2⟩:=iV o1 (m:=3) (by simp) (Yh (by simp) (by simp));obtain⟨c,w3,c0,c1,o3,e3⟩:=iV o2 (m:=3) (by simp) (Yh (by simp) (by simp));obtain⟨M,hM⟩:∃M:Nat,1+a=M:=⟨(1+a).toNat,by lia⟩;obtain⟨dn,d0,d1,ed⟩:∃dn:Int,0<dn/\dn<=100/\ao (.nw [.int 2,.int 3,.int 6]) (.cl (.int b))=Qs (.cl (.int dn)):=by
  rcases(by lia:b=0\/b=1\/b=2) with rfl|rfl|rfl
  .exact⟨2,by simp,by simp,rfl⟩
  .exact⟨3,by simp,by simp,rfl⟩
  .exact⟨6,by simp,by simp,rfl⟩
 obtain⟨ts,w',o',l',h',run⟩:=EU (M:=M) (by lia) (ln:=c) d0 d1 (aE M) [] _ o3 (λx hx=>by
  obtain⟨i,hi,rfl⟩:=RU.mp hx;have:=Tg.mp hi;lia) (by unfold aE;simp;lia) (λe he=>by cases he)
 refine⟨M,ts,w',⟨by lia,h'⟩,by lia,by simp_all,o',lg rfl λp=>?_⟩;obtain⟨u6,u7,e⟩:=run p (.val (.int m)) .no .no;let t0:Th:=[.val (.adr p),.val (.int m),.no,.no,.no,.no,.no,.no]
 have E1:=kT (i:=2) (fR (ρ:=au) (eY (rfl:dC (.int 1) _=Qs _)) (iO (i:=0) rfl (rfl:af 1 t0=Qs _) e1) zC) (by simp[t0]);rw[hM]at E1;let t1:Th:=[.val (.adr p),.val (.int m),.val (.int M),.no,.no,.no,.no,.no]
 let t2:Th:=[.val (.adr p),.val (.int m),.val (.int M),.val (.int dn),.no,.no,.no,.no]
 let t4:Th:=[.val (.adr p),.val (.int m),.val (.int M),.val (.int dn),.val (.int c),.own [],.no,.no]
 have rg:km (af 2) t4=Qs (Qt,(aE M).map D.int):=by show(if eI _ then Qs _ else Qn)=_;rw[V4 (by exact Ww (by lia))];unfold fN aE;simp
 refine(cW E1).trans ((cW (kT (fR (ρ:=au) (eY rfl) (iO (t:=t1) rfl rfl e2) ed) (by simp[t1]))).trans ((cW (kT (ρ:=au) (iO (t:=t2) rfl rfl e3) (by simp[t2]))).trans ((cW (ik rfl)).trans ((cW ((ya (ρ:=au) (k:=cG 6) (b:=Bi p) (zU (ρ:=au) (w:=w3) rg)).trans e)).trans ?_))));rfl
abbrev Eg:=Int×Int
inductive Eqv(es:List Eg):Int->Int->Prop
 |refl (u:Int):Eqv es u u
 |Zd {a b:Int}:(a,b)∈es->Eqv es a b
 |symm {u v:Int}:Eqv es u v->Eqv es v u
 |trans {u v w:Int}:Eqv es u v->Eqv es v w->Eqv es u w
def Eqv.mono(k:∀e∈es,e∈Xf)(h:Eqv es u v):Eqv Xf u v:=by
 induction h with
 |refl u=>exact .refl u
 |Zd h=>exact .Zd (k _ h)
 |symm _ ih=>exact .symm ih
 |trans _ _ i1 i2=>exact .trans i1 i2
def Eqv.pred{p:Int->Prop}(k:∀e∈es,(p e.1↔p e.2))(h:Eqv es u v):p u↔p v:=by
 induction h with
 |refl u=>rfl
 |Zd h=>exact k _ h
 |symm _ ih=>exact ih.symm
 |trans _ _ i1 i2=>exact i1.trans i2
def Eqv.ends(h:Eqv es u v):u=v\/((∃e∈es,u=e.1\/u=e.2)/\∃e∈es,v=e.1\/v=e.2):=by
 induction h with
 |refl u=>simp
 |Zd h=>exact .inr ⟨⟨_,h,.inl rfl⟩,⟨_,h,.inr rfl⟩⟩
 |symm _ ih=>
  rcases ih with h|⟨a,b⟩
  .exact .inl h.symm
  .exact .inr ⟨b,a⟩
 |trans _ _ i1 i2=>
  rcases i1 with h|⟨a,b⟩
  .subst h;assumption
  .rcases i2 with h|⟨c,d⟩
   .subst h;exact .inr ⟨a,b⟩
   .exact .inr ⟨a,d⟩
noncomputable def gT(f:Int->Int)(a b:Int):Int->Int:=λv=>if f v=(if f a<f b then f b else f a) then(if f a<f b then f a else f b) else f v
def uB(f:Int->Int)(es:Ql Eg):Int->Int:=es.foldl (λf e=>gT f e.1 e.2) f
structure LL(es:List Eg)(f:Int->Int):Prop where
 own:∀v,Eqv es v (f v)
 one:∀e∈es,f e.1=f e.2
 low:∀v,0<=v->0<=f v/\f v<=v
def LL.nil:LL [] id:=⟨λv=>.refl v,λe h=>(by cases h),λv h=>⟨h,Tq _⟩⟩
def LL.step(h:LL es f)(a0:0<=e.1)(b0:0<=e.2):LL (es++[e]) (gT f e.1 e.2):=by
 have mo:∀{u v},Eqv es u v->Eqv (es++[e]) u v:=λq=>q.mono λx hx=>Rw _ hx;have ab:Eqv (es++[e]) (f e.1) (f e.2):=((mo (h.own e.1)).symm.trans (.Zd (Ru _ (RG.mpr rfl)))).trans (mo (h.own e.2));refine⟨λv=>?_,λx hx=>?_,λv hv=>?_⟩
 .have o:=mo (h.own v);unfold gT;by_cases c:f e.1<f e.2
  .simp only[V4 c];split
   .rename_i z;rw[z]at o;exact o.trans ab.symm
   assumption
  .simp only[Wh c];split
   .rename_i z;rw[z]at o;exact o.trans ab
   assumption
 .rcases Ry.mp hx with z|z
  .unfold gT;rw[h.one x z]
  .rw[RG.mp z];unfold gT;lia
 .have l1:=h.low _ a0;have l2:=h.low _ b0;have l3:=h.low v hv;unfold gT;lia
theorem LL.run:∀(es es0:Ql Eg){f:Int->Int},LL es0 f->(∀e∈es,0<=e.1/\0<=e.2)->LL (es0++es) (uB f es)
 |[],es0,f,h,_=>by rw[SE];assumption
 |e::es,es0,f,h,k=>by have:=LL.run _ _ (h.step (k e (Rz ..)).1 (k e (Rz ..)).2) λx hx=>k x (Rx _ hx);rw[SI]at this;assumption
def ll(es:Ql Eg):Int->Int:=uB id es
def uC(k:∀e∈es,0<=e.1/\0<=e.2):LL es (ll es):=LL.run _ _ LL.nil k
def LL.iff(h:LL es f)(u v:Int):f u=f v↔Eqv es u v:=by
 constructor
 .intro e;exact(h.own u).trans (e▸(h.own v).symm)
 .intro q
  induction q with
  |refl u=>rfl
  |Zd q=>exact h.one _ q
  |symm _ ih=>exact ih.symm
  |trans _ _ i1 i2=>lia
end KX
set_option maxHeartbeats 4000000
namespace KX
open PySem.Spec L2 DL
def aV(r:Ql Int):D:=.lst (r.map D.int)
def mD(M:Ql (Ql Int)):D:=.lst (M.map aV)
def Ei(p:Int)(K:Ql Int)(ha:fa t=Qs r1)(hb:fb t=Qs r2)(h1:r1.d=.int p)(h2:r2.d=.lst (K.map D.int)):aD (d2 jE fa fb) t=Qs (!decide (p∈K)):=by
 have e:=Ba p K ha hb h1 h2;unfold aD at e ⊢;rw[cg ha hb]at e ⊢;unfold WZ at e;unfold jE;rw[h2]at e ⊢;simp only at e ⊢;split at e
 .rename_i c;rw[V4 c];simp only[RF,Ev.d,Option.some.injEq]at e ⊢;rw[e]
 .cases e
def qo(L:Ql Int):Int:=fD (L.headD 0) L.tail
def P6(h:f t=Qs r)(hr:r.d=.lst (L.map D.int))(hl:0<L.length):(ag (oH fD) (ae f aq)) t=Qs (.cl (.int (qo L))):=by
 rw[fA h];unfold oH;simp only[hr,qQ];cases L with
 |nil=>simp at hl
 |cons x r=>rfl
theorem CL:∀xs:Ql Int,(xs.map D.int).all bz=Qt
 |[]=>rfl
 |x::xs=>by simp only[RK,SK,CL _];rfl
def dy(h:x∈aE n):0<=x/\x<(n:Int):=by obtain⟨i,hi⟩:=List.mem_iff_getElem?.mp h;obtain⟨q,l⟩:=NL hi;lia
def jy{n:Nat}(h0:0<=x)(h1:x<(n:Int)):x∈aE n:=by exact RU.mpr ⟨x.toNat,Tg.mpr (by lia),by lia⟩
theorem pE:∀{l C:Ql Int},l.Nodup->(∀x∈l,x∈C)->l.length<=C.length
 |[],C,_,_=>Ui _
 |x::l,C,nd,h=>by rw[RQ]at nd;have hx:=h x (Rz ..);have:=pE (C:=C.erase x) nd.2 λy hy=>(List.mem_erase_of_ne (λe=>nd.1 (by lia))).mpr (h y (Rx _ hy));rw[List.length_erase_of_mem hx]at this;have:=Ul hx;simp;lia
def Er(n:Nat):(aE n).Nodup:=by refine Ut.mpr ?_;exact(V1).imp λh e=>h (by lia)
end KX
set_option maxHeartbeats 1000000
namespace KX
abbrev Hd:=Ql (Int×Nat)
def Rt(w:Nat->Nat)(hd:Hd)(s:Ql Int):Nat:=(hd.map λp=>if p.1∈s then w p.2 else 0).sum
open PySem.Spec L2 DL
def o4(hf:f t=Qs (.dn d))(hi:i<t.length):aW i f t=Qs (.nx (t.set i (.dp d))):=by unfold aW;rw[hf];simp only[RF,dR,hi,if_true,SY]
def gA(h1:k d t=Qs t1)(h2:b t1=Qs (.nx t2)):bY k b (d::ds) t=bY k b ds t2:=by simp[bY,h1,h2]
def GQ(h1:k d t=Qs t1)(h2:b t1=Qs (.rt r)):bY k b (d::ds) t=Qs (.rt r):=by simp[bY,h1,h2]
theorem AI{α:Type}{e:α->D}{p:α->Bool}{f:α->D}{ext:Th}:∀(xs:Ql α) (s:Sl),(∀x∈xs,ft (.val (e x)::ext)=Qs (p x))->(∀x∈xs,p x=Qt->∃r,fe (.val (e x)::ext)=Qs r/\r.d=f x)->bJ bo ft fe (xs.map e) (s::ext)=Qs ((xs.filter p).map f)
 |[],s,_,_=>rfl
 |x::l,s,h,h'=>by
  show((ft (.val _::ext)).bind λb=>if b then(fe _).bind λr=>(bJ _ _ _ _ (.val _::ext)).map _ else bJ _ _ _ _ (.val _::ext))=_;rw[(AI l _ (λy hy=>h y (Rx _ hy)) (λy hy=>h' y (Rx _ hy)))]
  grind
theorem AL{α:Type}{e:α->D}{f:α->D}{ext:Th}:∀(xs:Ql α) (s:Sl),(∀x∈xs,∃r,fe (.val (e x)::ext)=Qs r/\toDn r=Qs (f x))->fI bo aZ fe (xs.map e) (s::ext)=Qs (xs.map f)
 |[],s,_=>rfl
 |x::l,s,h'=>by
  obtain⟨r,e1,e2⟩:=h' x (Rz ..);show((fe (.val _::ext)).bind λr=>(toDn r).bind λd=>(fI _ _ _ _ (.val _::ext)).map _)=_;rw[(AL l _ (λy hy=>h' y (Rx _ hy)))]
  simp_all
def ku{α:Type}{e:α->D}{p:α->Bool}{g:α->D}{xs:Ql α}(hf:f t=Qs r)(hr:r.d=.lst (xs.map e))(hc:gC t cap=Qs (b,c))(hl:xs.length<=50000) (h1:∀x∈xs,ft (.val (e x)::c.map Sl.val)=Qs (p x)) (h2:∀x∈xs,p x=Qt->∃r,fe (.val (e x)::c.map Sl.val)=Qs r/\r.d=g x) (h3:Wv ((xs.filter p).map g)=Qt\/(r.ok&&b)=Qt):aM 1 cap (bA f) bo ft fe t=Qs (.nw ((xs.filter p).map g)):=by
 unfold aM;have e1:bA f t=Qs (r.ok,xs.map e):=by unfold bA;simp_all
 rw[e1,hc];simp only[RF];rw[V4 (by simpa using hl)];show(bJ _ _ _ _ (Sl.no::c.map _)).bind _=_;rw[(AI _ _ h1 h2)]
 grind
def kN(n:Int):bQ:=Sum.inl n
theorem zW(x:Int):∀ks:Ql Int,iK (ks.map kN) (kN x)=decide (x∈ks)
 |[]=>rfl
 |k::ks=>by
  have i:=zW x ks;unfold iK at i ⊢;rw[RK,T6,i];by_cases h:k=x
  .subst h;simp
  .rw[Xt (λz=>h (by cases z;rfl))]
   grind
def d9(ks:Ql Int)(x:Int):Ql Int:=if x∈ks then ks else ks++[x]
def jo(_:Int):D:=.bl Qt
theorem BR{ks:Ql Int}:∀ls:Ql Int,VX (λk' d'=>if k'=kN x then D.bl Qt else d') (ls.map kN) (ls.map jo)=ls.map jo
 |[]=>rfl
 |l::ls=>by rw[RK,RK,Tu,BR (ks:=ks) _];split<;>rfl
def Dk(ks:Ql Int)(x:Int):fE (ks.map kN) (ks.map jo) (kN x) (.bl Qt)=((d9 ks x).map kN,(d9 ks x).map jo):=by
 unfold fE d9;rw[zW];by_cases h:x∈ks
 .rw[Ww h,V4 rfl,V4 h,BR (ks:=ks) _]
 .rw[Xt h,Wh h];simp[kN,jo]
structure AllK(M:Nat)(ks:List Int):Prop where
 nd:ks.Nodup
 lt:∀x∈ks,0<=x/\x<(M:Int)
def AllK.len(h:AllK M ks):ks.length<=M:=by have:=pE h.nd λx hx=>jy (h.lt x hx).1 (h.lt x hx).2;simpa[aE] using this
def AllK.put(h:AllK M ks)(h0:0<=x)(h1:x<(M:Int)):AllK M (d9 ks x):=by
 unfold d9;split
 .assumption
 .rename_i n;refine⟨RI.mpr ⟨h.nd,by simp,λa ha b hb e=>?_⟩,λy hy=>?_⟩
  .simp_all
  .rcases Ry.mp hy with z|z
   .exact h.lt y z
   .simp_all
def NX:y∈d9 ks x↔y∈ks\/y=x:=by
 unfold d9;split
 .lia
 .simp
theorem EH:∀{s ks:Ql Int},y∈s.foldl d9 ks↔y∈ks\/y∈s
 |[],ks=>by simp
 |x::s,ks=>by rw[UQ,EH,NX,RB,or_assoc]
def uJ(ks:Ql Int):KD:=(ks.map kN,ks.map jo)
def wD(M:Nat)(ts:Ql (Int×Int)):D:=.tup [.int (M:Int),.lst (ts.map pD)]
def ke(L:Ql Int)(b:Int)(ha:fa t=Qs r1)(hb:fb t=Qs r2)(h0:0<=b)(h:b<(L.length:Int))(h1:r1.d=.lst (L.map D.int))(h2:r2.d=.int b):(d2 ao fa fb) t=Qs (.cl (.int (L.getD b.toNat 0))):=zI L _ ha hb (by lia) h1 (by rw[h2,SG h0])
def aC(ts:Ql (Int×Int))(l:Int):Int×Int:=ts.getD l.toNat (0,0)
def eV(ts:Ql (Int×Int))(L:Ql Int):Ql Eg:=L.map (aC ts)
def nK(h0:0<=l)(h1:l<(ts.length:Int)):aC ts l∈ts:=by
 unfold aC
 simp_all
def sR(ha:fa t=Qs r1)(hb:fb t=Qs r2)(h1:r1.d=.lst (ts.map pD))(h2:r2.d=.int l)(h0:0<=l)(hl:l<(ts.length:Int)):(d2 ao fa fb) t=Qs (.cl (pD (aC ts l))):=by
 rw[cg ha hb];unfold ao;rw[h1,h2];show(W7 _ l).map _=_;have:W7 (ts.map pD) l=Qs (pD (aC ts l)):=by
  unfold L2.W7;have e:XD (ts.map pD).length l=Qs l.toNat:=by rw[RE];unfold L2.XD;lia
  rw[e];show(ts.map _)[l.toNat]?=_;unfold aC
  simp_all
 rw[this];show Qs (if r1.ok||flat _ then Ev.cl _ else Ev.tm _)=_;rw[show flat _=Qt from rfl,Td,V4 rfl]
def pk(h:t[i]?=Qs (.val (wD M ts))):(d2 ao (af i) (dC (.int 1))) t=Qs (.cl (.lst (ts.map pD))):=by
 have:af i t=Qs (.cl (wD M ts)):=by unfold af;rw[h]
 rw[cg this rfl];rfl
def BY{M:Nat}(h:t[i]?=Qs (.val (wD M ts))):(d2 ao (af i) (dC (.int 0))) t=Qs (.cl (.int (M:Int))):=by
 have:af i t=Qs (.cl (wD M ts)):=by unfold af;rw[h]
 rw[cg this rfl];rfl
def J4(x y:Int):e9 [x,y]=[if x<y then x else y,if x<y then y else x]:=by
 show kg x [y]=_;unfold kg;by_cases h:x<y
 .rw[V4 (by lia),V4 h,V4 h]
 .by_cases e:x=y
  .subst e;simp
  .rw[Wh (by lia),Wh h,Wh h];rfl
def Jc(s0 s1 s2 s6 s7:Sl)(hM:M<=1000)(hw:Yi M ts)(h0:0<=l)(h1:l<(ts.length:Int)):∃u6 u7,Bj [s0,s1,s2,.val (.lst (ts.map pD)),.own (((aE M).map f).map D.int),.val (.int l),s6,s7]=Qs (.nx [s0,s1,s2,.val (.lst (ts.map pD)),.own (((aE M).map (gT f (aC ts l).1 (aC ts l).2)).map D.int),.val (.int l),u6,u7]):=by
 obtain⟨a0,ab,bM⟩:=hw.lt _ (nK h0 h1);let e:=aC ts l
 let t:=[s0,s1,s2,.val (.lst (ts.map pD)),.own (((aE M).map f).map D.int),.val (.int l),s6,s7]
 have nl:(aE M).length=M:=by unfold aE;simp
 have gv:∀v:Int,0<=v->v<M->((aE M).map f).getD v.toNat 0=f v:=λv v0 v1=>by rw[Sb,Se];unfold aE;rw[Se,Tt (by lia)];show f v.toNat=f v;rw[SG v0]
 have ix:=λv v0 v1=>by have:=ke (fa:=af 1) (fb:=af 0) (t:=[.val _,.val _]) ((aE M).map f) v rfl rfl v0 (by rw[RE,nl];assumption) rfl rfl;rw[gv v v0 v1]at this;assumption
 have c1:(aM 1 [4] (g4 (d2 ao bw cK)) bo aZ (d2 ao av ah)) t=Qs (.nw [.int (f e.1),.int (f e.2)]):=by
  unfold aM g4;rw[(sR rfl rfl rfl rfl h0 h1)];show((if[D.int e.1,D.int e.2].length<=50000 then(bJ _ _ _ _ [.no,.val _]).bind _ else Qn))=_;have cc:bJ bo aZ (d2 ao av ah) [D.int e.1,D.int e.2] [.no,.val (.lst (((aE M).map f).map D.int))]=Qs [.int (f e.1),.int (f e.2)]:=by show((d2 _ _ _) [.val _,.val _]).bind (λr=>(((d2 _ _ _) [.val _,.val _]).bind _).map _)=_;rw[(ix _ a0 (U6 ab bM)),(ix _ (Sd (SU a0 ab)) bM)];rfl
  rw[cc];rfl
 have c2:=nO (xs:=[f e.1,f e.2]) c1 rfl (by simp);rw[J4]at c2;have E1:dY (kj 2 lW) (ag iI (ae (aM 1 [4] (g4 (d2 ao bw cK)) bo aZ (d2 ao av ah)) aq)) t=Qs (.nx [s0,s1,s2,.val (.lst (ts.map pD)),.own (((aE M).map f).map D.int),.val (.int l),.val (.int (if f e.1<f e.2 then f e.1 else f e.2)),.val (.int (if f e.1<f e.2 then f e.2 else f e.1))]):=by unfold dY;rw[c2];rfl
 let t1:Th:=[s0,s1,s2,.val (.lst (ts.map pD)),.own (((aE M).map f).map D.int),.val (.int l),.val (.int (if f e.1<f e.2 then f e.1 else f e.2)),.val (.int (if f e.1<f e.2 then f e.2 else f e.1))]
 have c3:=rX (cap:=[6,7]) (f:=af 4) (t:=t1) (r:=.tm (.lst (((aE M).map f).map D.int))) (xs:=(aE M).map f) (g:=λx=>if x=(if f e.1<f e.2 then f e.2 else f e.1) then(if f e.1<f e.2 then f e.1 else f e.2) else x) (b:=Qt) (c:=[.int (if f e.1<f e.2 then f e.1 else f e.2),.int (if f e.1<f e.2 then f e.2 else f e.1)]) (fe:=(vC (aD (d2 ez ah aK)) av ah)) rfl rfl (by rw[RE];lia) rfl (λx _=>by
  unfold vC;rw[vt rfl rfl];by_cases z:x=(if f e.1<f e.2 then f e.2 else f e.1)
  .rw[Ww z,V4 z];rfl
  .rw[Xt z,Wh z];rfl)
 have em:((aE M).map f).map (λx=>if x=(if f e.1<f e.2 then f e.2 else f e.1) then(if f e.1<f e.2 then f e.1 else f e.2) else x)=(aE M).map (gT f e.1 e.2):=by rw[R6];rfl
 rw[em]at c3;exact⟨_,_,(aG E1).trans (gO (i:=4) c3 (by simp[t1]))⟩
theorem EW(s0 s1 s2:Sl)(hM:M<=1000)(hw:Yi M ts):∀(L:Ql Int) (f:Int->Int) (s5 s6 s7:Sl),(∀l∈L,0<=l/\l<(ts.length:Int))->∃u5 u6 u7,bY l5 Bj (L.map D.int) [s0,s1,s2,.val (.lst (ts.map pD)),.own (((aE M).map f).map D.int),s5,s6,s7]=Qs (.nx [s0,s1,s2,.val (.lst (ts.map pD)),.own (((aE M).map (uB f (eV ts L))).map D.int),u5,u6,u7])
 |[],f,s5,s6,s7,_=>⟨s5,s6,s7,rfl⟩
 |l::L,f,s5,s6,s7,h=>by obtain⟨h0,h1⟩:=h l (Rz ..);obtain⟨v6,v7,e⟩:=Jc s0 s1 s2 s6 s7 hM hw (f:=f) h0 h1;obtain⟨u5,u6,u7,ih⟩:=EW s0 s1 s2 hM hw L (gT f (aC ts l).1 (aC ts l).2) (.val (.int l)) v6 v7 λl' hl'=>h _ (Rx _ hl');exact⟨u5,u6,u7,(gA rfl e).trans ih⟩
def Oj(hM:M<=1000)(hw:Yi M ts)(h:∀l∈L,0<=l/\l<(ts.length:Int)):sG [wD M ts,.lst (L.map D.int)]=Qs (.nw (((aE M).map (ll (eV ts L))).map D.int)):=by
 let W:Sl:=.val (wD M ts)
 let N:Sl:=.val (.lst (L.map D.int))
 have e0:(aE M).map D.int=((aE M).map id).map D.int:=by simp
 obtain⟨u5,u6,u7,e⟩:=EW W N (.val (.int M)) hM hw L id .no .no .no h;show(z8 [W,N,.no,.no,.no,.no,.no,.no]).bind iq=_;refine Wq ?_;exact(aG rfl).trans ((aG (gO (i:=4) (uA (f:=af 2) (t:=[W,N,.val (.int (M:Int)),.val (.lst (ts.map pD)),.no,.no,.no,.no]) (n:=M) rfl hM) (by simp))).trans ((aG (by
  rw[e0];assumption)).trans rfl))
structure PS where
 n:Nat
 pa:Int
 tk:List Int
 pt:Int->List Int
 wd:Int->Int
 pd:Int->Int
 ar:Int->Int
 po:Int->Int
def PS.new(M:Nat):PS:=⟨M,1,[],λp=>[p],λ_=>0,λ_=>0,λ_=>0,id⟩
noncomputable def fU(b:Bool):Int:=if b then 1 else 0
def bG(S:PS)(e:Int->Eg)(g:Int->Bool)(at':Int):Int:=if S.po (e at').1=S.po (e at').2 then 0 else fU (g (S.po (e at').1))+fU (g (S.po (e at').2))
def Xm(S:PS)(e:Int->Eg)(w:Int->Int)(at':Int):Int:=w at'*S.pa-S.ar (e at').1-S.ar (e at').2
def oS(S:PS)(e:Int->Eg)(w:Int->Int)(g:Int->Bool)(at':Int):Bool:=decide (0<bG S e g at')&&decide (Xm S e w at'<=0)
def fQ(S:PS)(e:Int->Eg)(w:Int->Int)(g:Int->Bool)(nt:Nat):Qo Int:=(aE nt).find? (oS S e w g)
def iW(S:PS)(e:Int->Eg)(w:Int->Int)(g:Int->Bool)(nt:Nat):Ql Int:=((aE nt).filter λa=>decide (0<bG S e g a)).map λa=>(Xm S e w a).fdiv (bG S e g a)
def W4(S:PS):PS:={S with pa:=S.pa*2,wd:=λp=>2*S.wd p,pd:=λp=>2*S.pd p,ar:=λv=>2*S.ar v}
noncomputable def Xs(S:PS)(g:Int->Bool)(st:Int):PS:={S with wd:=λp=>S.wd p+(if g p then st else 0),pd:=λp=>S.pd p+(if g p then st else 0),ar:=λv=>S.ar v+(if g (S.po v) then st else 0)}
def dO(S:PS)(e:Int->Eg)(a:Int):Ql Int:=e9 (S.pt (S.po (e a).1)++S.pt (S.po (e a).2))
def WX(S:PS)(e:Int->Eg)(a:Int):PS:={S with
 n:=S.n+1,tk:=S.tk++[a]
 pt:=λp=>if p=(S.n:Int) then dO S e a else S.pt p
 wd:=λp=>if p=(S.n:Int) then 0 else S.wd p
 pd:=λp=>if p=(S.n:Int) then S.pd (S.po (e a).1)+S.pd (S.po (e a).2) else S.pd p
 po:=λv=>if v∈dO S e a then(S.n:Int) else S.po v}
def kF(ks:Ql Int)(x:Int):Ql Int:=if x∈ks then ks else ks++[x]
def iy(S:PS)(ks:Ql Int)(w:Eg):Ql Int:=if S.po w.1=S.po w.2 then ks else kF (kF ks (S.po w.1)) (S.po w.2)
def bF(S:PS)(ws:Ql Eg):Ql Int:=ws.foldl (iy S) []
def bc(G:Ql Int):Int->Bool:=λp=>decide (p∈G)
def cJ(e:Int->Eg)(w:Int->Int)(nt:Nat)(ws:Ql Eg)(S:PS):PS:=match fQ S e w (bc (bF S ws)) nt with
 |none=>Xs (W4 S) (bc (bF S ws)) (qo (iW (W4 S) e w (bc (bF S ws)) nt))
 |some a=>WX S e a
def dG(e:Int->Eg)(w:Int->Int)(nt:Nat)(ws:Ql Eg):Nat->PS->PS
 |0,S=>S
 |k+1,S=>if bF S ws=[] then S else dG e w nt ws k (cJ e w nt ws S)
def EI:y∈kF ks x↔y∈ks\/y=x:=by
 unfold kF;split
 .lia
 .simp
theorem EF:∀{ws:Ql Eg}{ks:Ql Int},p∈ws.foldl (iy S) ks↔p∈ks\/∃w∈ws,S.po w.1≠S.po w.2/\(p=S.po w.1\/p=S.po w.2)
 |[],ks=>by simp
 |w::ws,ks=>by
  rw[UQ,EF];have:p∈iy S ks w↔p∈ks\/(S.po w.1≠S.po w.2/\(p=S.po w.1\/p=S.po w.2)):=by
   unfold iy;split
   .lia
   .rename_i h;rw[EI,EI];simp only[ne_eq,h,not_false_eq_true,true_and,or_assoc]
  rw[this];simp only[RB,exists_eq_or_imp,or_assoc]
def zaX:p∈bF S ws↔∃w∈ws,S.po w.1≠S.po w.2/\(p=S.po w.1\/p=S.po w.2):=by unfold bF;rw[EF];simp
def zfb:bF S ws=[]↔∀w∈ws,S.po w.1=S.po w.2:=by
 constructor
 .intro h w hw;by_cases z:S.po w.1=S.po w.2
  .assumption
  .have:=zaX.mpr ⟨w,hw,z,.inl rfl⟩;rw[h]at this;cases this
 .intro h;refine List.eq_nil_iff_forall_not_mem.mpr λp hp=>?_;obtain⟨w,hw,n,_⟩:=zaX.mp hp;exact n (h w hw)
def Ep(h:ks.Nodup):(kF ks x).Nodup:=by
 unfold kF;split
 .assumption
 .grind
theorem Eo:∀{ws:Ql Eg}{ks:Ql Int},ks.Nodup->(ws.foldl (iy S) ks).Nodup
 |[],ks,h=>h
 |w::ws,ks,h=>by
  rw[UQ];refine Eo ?_;unfold iy;split
  .assumption
  .exact Ep (Ep h)
structure Ok(M:Nat)(e:Int->Eg)(w:Int->Int)(nt:Nat)(S:PS):Prop where
 Xl:0<S.pa
 nM:S.n=M+S.tk.length
 Yd:∀v,0<=v->v<(M:Int)->0<=S.po v/\S.po v<(S.n:Int)
 cur:∀v,0<=v->v<(M:Int)->∀u,u∈S.pt (S.po v)↔(0<=u/\u<(M:Int)/\S.po u=S.po v)
 one:∀p,0<=p->p<(S.n:Int)->∀u∈S.pt p,∀v∈S.pt p,S.po u=S.po v
 inr:∀p,0<=p->p<(S.n:Int)->∀u∈S.pt p,0<=u/\u<(M:Int)
 Y5:∀p,0<=p->p<(S.n:Int)->(S.pt p).Pairwise (·< ·)
 ne:∀p,0<=p->p<(S.n:Int)->S.pt p≠[]
 dis:∀p q,0<=p->p<(S.n:Int)->0<=q->q<(S.n:Int)->S.pt p=S.pt q->p=q
 pos:∀a,0<=a->a<(nt:Int)->S.po (e a).1≠S.po (e a).2->0<=Xm S e w a
 ZV:∀a∈S.tk,0<=a/\a<(nt:Int)
def eM(M:Nat)(e:Int->Eg)(nt:Nat):Prop:=∀a,0<=a->a<(nt:Int)->(0<=(e a).1/\(e a).1<(M:Int))/\0<=(e a).2/\(e a).2<(M:Int)
theorem Ok.new{nt:Nat}(hw:∀a,0<=a->a<(nt:Int)->0<=w a):Ok M e w nt (PS.new M) where
 Xl:=show 0<1 by simp
 nM:=rfl
 Yd:=λv h0 h1=>⟨h0,h1⟩
 cur:=λv h0 h1 u=>by show u∈[v]↔0<=u/\u<M/\u=v;rw[RG];exact⟨λz=>⟨z▸h0,z▸h1,z⟩,λz=>z.2.2⟩
 one:=λp _ _ u hu v hv=>by rw[RG.mp hu,RG.mp hv]
 inr:=λp h0 h1 u hu=>by rw[RG.mp hu];exact⟨h0,h1⟩
 Y5:=λp _ _=>Va ..
 ne:=λp _ _=>by simp[PS.new]
 dis:=λp q _ _ _ _ h=>by simpa[PS.new] using h
 pos:=λa h0 h1 _=>by show 0<=w a*1-0-0;have:=hw a h0 h1;lia
 ZV:=λa h=>nomatch h
def Ok.nd(h:Ok M e w nt S)(h0:0<=p)(h1:p<(S.n:Int)):(S.pt p).Nodup:=(h.Y5 p h0 h1).imp λz e=>by lia
def zba:u∈dO S e a↔u∈S.pt (S.po (e a).1)\/u∈S.pt (S.po (e a).2):=by unfold dO;rw[(jW _).mem_iff,Ry]
theorem Ok.WX(h:Ok M e w nt S)(hE:eM M e nt)(a0:0<=a)(a1:a<(nt:Int))(hn:S.po (e a).1≠S.po (e a).2):Ok M e w nt (WX S e a):=by
 obtain⟨⟨x0,x1⟩,y0,y1⟩:=hE a a0 a1;have px:=h.Yd _ x0 x1;have py:=h.Yd _ y0 y1;have mj:∀u,u∈dO S e a↔(0<=u/\u<(M:Int)/\(S.po u=S.po (e a).1\/S.po u=S.po (e a).2)):=λu=>by
  rw[zba,h.cur _ x0 x1,h.cur _ y0 y1];constructor
  .rintro(⟨a,b,c⟩|⟨a,b,c⟩)
   .exact⟨a,b,.inl c⟩
   .exact⟨a,b,.inr c⟩
  .simp_all
 have YS:∀v,(KX.WX S e a).po v=if v∈dO S e a then(S.n:Int) else S.po v:=λv=>rfl
 have YG:∀p,(KX.WX S e a).pt p=if p=(S.n:Int) then dO S e a else S.pt p:=λv=>rfl
 have same:∀u v,0<=u->u<(M:Int)->0<=v->v<(M:Int)->S.po u=S.po v->(KX.WX S e a).po u=(KX.WX S e a).po v:=λu v u0 u1 v0 v1 q=>by
  simp_all
 have old:∀p,0<=p->p<(S.n:Int)->S.pt p≠dO S e a:=λp p0 p1 q=>by exact hn (h.one p p0 p1 _ (by simp_all) _ (by simp_all))
 refine⟨h.Xl,?_,?_,?_,?_,?_,?_,?_,?_,?_,?_⟩
 .show S.n+1=M+(S.tk++[a]).length;rw[SD,h.nM];rfl
 .intro v v0 v1;rw[YS];show _/\_<((S.n+1):Int);have:=h.Yd v v0 v1;lia
 .intro v v0 v1 u;rw[YS v];have pv:=h.Yd v v0 v1;by_cases z:v∈dO S e a
  .rw[V4 z,YG,V4 rfl,YS u];constructor
   .simp_all
   .rintro⟨u0,u1,c⟩;by_cases k:u∈dO S e a
    .assumption
    .rw[Wh k]at c;have:=h.Yd u u0 u1;lia
  .rw[Wh z,YG,Wh (by lia),h.cur v v0 v1,YS u];constructor
   .simp_all
   lia
 .intro p p0 p1 u hu v hv;rw[YG]at hu hv;have p1:p<((S.n+1:Nat):Int):=p1;by_cases z:p=(S.n:Int)
  .rw[V4 z]at hu hv;rw[YS,YS,V4 hu,V4 hv]
  .rw[Wh z]at hu hv;have p2:p<S.n:=by lia
   obtain⟨u0,u1⟩:=h.inr p p0 p2 u hu;obtain⟨v0,v1⟩:=h.inr p p0 p2 v hv;exact same u v u0 u1 v0 v1 (h.one p p0 p2 u hu v hv)
 .intro p p0 p1 u hu;rw[YG]at hu;have p1:p<((S.n+1:Nat):Int):=p1;by_cases z:p=(S.n:Int)
  .simp_all
  .rw[Wh z]at hu;exact h.inr p p0 (by lia) u hu
 .intro p p0 p1;rw[YG];have p1:p<((S.n+1:Nat):Int):=p1;by_cases z:p=(S.n:Int)
  .rw[V4 z];exact((pJ _).and (by
    refine(jW _).nodup_iff.mpr (RI.mpr ⟨h.nd px.1 px.2,h.nd py.1 py.2,λu hu v hv q=>hn ?_⟩);subst q;rw[<-((h.cur _ x0 x1 u).mp hu).2.2,((h.cur _ y0 y1 u).mp hv).2.2])).imp λ{a b} k=>by lia
  .rw[Wh z];exact h.Y5 p p0 (by lia)
 .intro p p0 p1;rw[YG];have p1:p<((S.n+1:Nat):Int):=p1;by_cases z:p=(S.n:Int)
  .rw[V4 z];exact VH ((mj _).mpr ⟨x0,x1,.inl rfl⟩)
  .rw[Wh z];exact h.ne p p0 (by lia)
 .intro p q p0 p1 q0 q1 k;rw[YG,YG]at k;have p1:p<((S.n+1:Nat):Int):=p1;have q1:q<((S.n+1:Nat):Int):=q1;by_cases z:p=(S.n:Int)
  .by_cases y:q=(S.n:Int)
   .rw[z,y]
   .rw[V4 z,Wh y]at k;exact absurd k.symm (old q q0 (by lia))
  .by_cases y:q=(S.n:Int)
   .rw[Wh z,V4 y]at k;exact absurd k (old p p0 (by lia))
   .rw[Wh z,Wh y]at k;exact h.dis p q p0 (by lia) q0 (by lia) k
 .intro c c0 c1 k;obtain⟨⟨u0,u1⟩,v0,v1⟩:=hE c c0 c1;exact h.pos c c0 c1 λq=>k (same _ _ u0 u1 v0 v1 q)
 .intro c hc;rcases Ry.mp hc with z|z
  .exact h.ZV c z
  .simp_all
def lI(b:Bool):0<=fU b/\fU b<=1:=by cases b<;>decide
def oZ(S:PS)(e:Int->Eg)(g:Int->Bool)(a:Int):0<=bG S e g a/\bG S e g a<=2:=by
 unfold bG;split
 .decide
 .have:=lI (g (S.po (e a).1));have:=lI (g (S.po (e a).2));lia
def vQ(h:0<bG S e g a):S.po (e a).1≠S.po (e a).2:=λz=>by
 unfold bG at h
 simp_all
theorem Ok.W4(h:Ok M e w nt S):Ok M e w nt (W4 S):=by
 refine⟨?_,h.nM,h.Yd,h.cur,h.one,h.inr,h.Y5,h.ne,h.dis,?_,h.ZV⟩
 .show 0<S.pa*2;have:=h.Xl;lia
 .intro a a0 a1 k;have:=h.pos a a0 a1 k;show 0<=w a*(S.pa*2)-2*S.ar _- 2*S.ar _;unfold Xm at this;have q:w a*(S.pa*2)=2*(w a*S.pa):=by lia
  lia
def uD(S:PS)(e:Int->Eg)(w:Int->Int)(a:Int):Xm (W4 S) e w a=2*Xm S e w a:=by unfold Xm;show w a*(S.pa*2)-2*S.ar _- 2*S.ar _=_;lia
def Oc(S:PS)(e:Int->Eg)(w:Int->Int)(g:Int->Bool)(st a:Int):Xm (Xs S g st) e w a=Xm S e w a-(if g (S.po (e a).1) then st else 0)-(if g (S.po (e a).2) then st else 0):=by unfold Xm;show w a*S.pa-(S.ar _+(if g _ then st else 0))-(S.ar _+(if g _ then st else 0))=_;lia
def Fh(S:PS)(e:Int->Eg)(w:Int->Int)(g:Int->Bool)(st a:Int)(hn:S.po (e a).1≠S.po (e a).2):Xm (Xs S g st) e w a=Xm S e w a-bG S e g a*st:=by rw[Oc];unfold bG;rw[Wh hn];cases g _<;>cases g _<;>simp[fU]<;>lia
theorem Ok.Xs(h:Ok M e w nt S){st:Int}(hs:∀a,0<=a->a<(nt:Int)->0<bG S e g a->bG S e g a*st<=Xm S e w a):Ok M e w nt (Xs S g st):=by
 refine⟨h.Xl,h.nM,h.Yd,h.cur,h.one,h.inr,h.Y5,h.ne,h.dis,?_,h.ZV⟩;intro a a0 a1 k;have k:S.po (e a).1≠S.po (e a).2:=k;rw[Fh S e w g st a k];have p:=h.pos a a0 a1 k;have b:=oZ S e g a;by_cases z:0<bG S e g a
 .have:=hs a a0 a1 z;lia
 .have z:bG S e g a=0:=by lia
  rw[z];lia
def GK(h:fQ S e w g nt=Qn):∀a,0<=a->a<(nt:Int)->0<bG S e g a->0<Xm S e w a:=λa a0 a1 b=>by
 have:=List.find?_eq_none.mp h a (jy a0 a1);unfold oS at this
 simp_all
def rD(h:fQ S e w g nt=Qs a):(0<=a/\a<(nt:Int))/\0<bG S e g a/\Xm S e w a<=0:=by have p:=List.find?_some h;unfold oS at p;rw[RJ,XT,XT]at p;exact⟨dy (List.mem_of_find?_eq_some h),p⟩
def N8:∀{L:Ql Int}{x:Int},x∈L->qo L<=x:=λ{L x} h=>by
 cases L with
 |nil=>cases h
 |cons a L=>
  have key:∀L b,fD b L<=b/\∀y∈L,fD b L<=y:=by
   intro L
   induction L with
   |nil=>exact λb=>⟨Tq _,λy hy=>nomatch hy⟩
   |cons c L ih=>
    intro b;have:=ih (if c<b then c else b);refine⟨?_,λy hy=>?_⟩
    .show fD _ L<=b;have:=this.1;split at this<;>lia
    .show fD _ L<=y;rcases RB.mp hy with rfl|z
     .have:=this.1;split at this<;>lia
     .exact this.2 y z
  have:=key L a;rcases RB.mp h with rfl|z
  .exact this.1
  .exact this.2 x z
def N7:∀{L:Ql Int},L≠[]->qo L∈L:=λ{L} h=>by
 cases L with
 |nil=>lia
 |cons a L=>
  have key:∀L b,fD b L=b\/fD b L∈L:=by
   intro L
   induction L with
   |nil=>exact λb=>.inl rfl
   |cons c L ih=>
    intro b;rcases ih _ with z|z
    .show fD _ L=b\/fD _ L∈c::L;rw[z];split
     .simp
     .simp
    .exact .inr (Rx _ z)
  rcases key L a with z|z
  .show fD a L∈a::L;rw[z];simp
  .exact Rx _ z
def Ce{l b:Int}(h:b=1\/b=2):b*(2*l).fdiv b=2*l:=by lia
def zdJ:x∈iW S e w g nt↔∃a,(0<=a/\a<(nt:Int))/\0<bG S e g a/\x=(Xm S e w a).fdiv (bG S e g a):=by
 unfold iW;rw[RU];constructor
 .rintro⟨a,ha,rfl⟩;obtain⟨h1,h2⟩:=RY.mp ha;exact⟨a,dy h1,of_decide_eq_true h2,rfl⟩
 .rintro⟨a,h1,h2,rfl⟩;exact⟨a,RY.mpr ⟨jy h1.1 h1.2,Ww h2⟩,rfl⟩
def gn(S:PS)(e:Int->Eg)(w:Int->Int)(g:Int->Bool)(nt:Nat):Int:=qo (iW (W4 S) e w g nt)
def Z1(S:PS)(e:Int->Eg)(w:Int->Int)(g:Int->Bool)(nt:Nat):PS:=Xs (W4 S) g (gn S e w g nt)
def CC (a0:0<=a)(a1:a<(nt:Int))(b:0<bG S e g a):bG S e g a*gn S e w g nt<=2*Xm S e w a:=by have m:(Xm _ e w a).fdiv _∈iW (W4 S) e w g _:=zdJ.mpr ⟨a,⟨a0,a1⟩,b,rfl⟩;have l:=N8 m;rw[uD]at l;have bb:=oZ S e g a;have t:=Ce (l:=Xm S e w a) (b:=bG S e g a) (by lia);have l:gn S e w g _<=(2*Xm S e w a).fdiv (bG S e g a):=l;have:=Tj l bb.1;lia
def wZ (ZK:∃a,(0<=a/\a<(nt:Int))/\0<bG S e g a):iW (W4 S) e w g nt≠[]/\∃a,(0<=a/\a<(nt:Int))/\0<bG S e g a/\bG S e g a*gn S e w g nt=2*Xm S e w a:=by obtain⟨c,c0,c1⟩:=ZK;have ne:iW (W4 S) e w g _≠[]:=VH (zdJ.mpr ⟨c,c0,c1,rfl⟩);obtain⟨a,a0,a1,a2⟩:=zdJ.mp (N7 ne);refine⟨ne,a,a0,a1,?_⟩;have bb:=oZ S e g a;have a1:0<bG S e g a:=a1;rw[uD]at a2;have a2:gn S e w g _=(2*Xm S e w a).fdiv _:=a2;rw[a2];exact(Ce (by lia))
theorem Ok.Z1(h:Ok M e w nt S):Ok M e w nt (Z1 S e w g nt):=by refine Ok.Xs h.W4 λa a0 a1 b=>?_;rw[uD];exact CC a0 a1 b
def wY (ZK:∃a,(0<=a/\a<(nt:Int))/\0<bG S e g a)(hf:fQ S e w g nt=Qn):0<gn S e w g nt:=by
 obtain⟨_,a,a0,a1,a2⟩:=wZ (w:=w) ZK;have l:=GK hf a a0.1 a0.2 a1;have bb:=oZ S e g a;rcases(show bG S e g a=1\/bG S e g a=2 by lia) with z|z
 .rw[z]at a2;lia
 .rw[z]at a2;lia
def PF (ZK:∃a,(0<=a/\a<(nt:Int))/\0<bG S e g a):fQ (Z1 S e w g nt) e w g nt≠Qn:=by obtain⟨_,a,a0,a1,a2⟩:=wZ (w:=w) ZK;intro hf;have:=GK hf a a0.1 a0.2 a1;have q:Xm (Z1 S e w g _) e w a=Xm _ e w a-bG _ e g a*gn S e w g nt:=Fh _ e w g _ a (vQ a1);rw[q,uD]at this;have a2:bG (KX.W4 S) e g a*gn S e w g _=2*Xm S e w a:=a2;lia
def gi(e:Int->Eg)(nt:Nat):Ql Eg:=(aE nt).map e
def rM(h:Ok M e w nt S)(hE:eM M e nt)(hw:∀w∈ws,Eqv (gi e nt) w.1 w.2)(hn:bF S ws≠[]):∃a,(0<=a/\a<(nt:Int))/\0<bG S e (bc (bF S ws)) a:=by
 obtain⟨w',hw',n⟩:∃w∈ws,S.po _≠S.po _:=by refine Sw λk=>hn (zfb.mpr λw hw=>Sw λz=>k ⟨w,hw,z⟩)
 refine Sw λk=>n ?_;exact(((hw _ hw').pred (p:=λv=>S.po v=S.po _) (λp hp=>by
  obtain⟨a,ha,rfl⟩:=RU.mp hp;have ra:=dy ha;by_cases z:S.po (e a).1=S.po (e a).2
  .rw[z]
  .have b:¬0<bG S e _ a:=λq=>k ⟨a,ra,q⟩;unfold bG at b;rw[Wh z]at b;have b1:=lI (bc (bF S ws) (S.po (e a).1));have b2:=lI (bc (bF S ws) (S.po (e a).2));have G:bc _ _=Qt:=Ww (zaX.mpr ⟨w',hw',n,.inl rfl⟩);constructor
   .intro q;rw[q,G]at b;have:fU Qt=1:=rfl;lia
   .intro q;rw[q,G]at b;have:fU Qt=1:=rfl;lia)).mp rfl).symm
def tY(M:Nat):Ql Eg:=(aE M).flatMap λu=>((aE M).filter λv=>decide (u<v)).map λv=>(u,v)
def zd5:(u,v)∈tY M↔0<=u/\u<v/\v<(M:Int):=by
 unfold tY;rw[List.mem_flatMap];constructor
 .rintro⟨x,hx,h⟩;obtain⟨y,hy,q⟩:=RU.mp h;cases q;obtain⟨y1,y2⟩:=RY.mp hy;have:=dy hx;have:=dy y1;have:=of_decide_eq_true y2;lia
 .rintro⟨a,b,c⟩;exact⟨u,jy a (by lia),RU.mpr ⟨v,RY.mpr ⟨jy (by lia) c,Ww b⟩,rfl⟩⟩
def Ly:∀M:Nat,M<=9->(tY M).length<=36:=by decide+kernel
def mu(M:Nat)(S:PS):Nat:=((tY M).filter λq=>decide (S.po q.1≠S.po q.2)).length
theorem Ap{α:Type}{p q:α->Bool}:∀{V:Ql α},(∀x∈V,q x=Qt->p x=Qt)->(∃x∈V,p x=Qt/\q x=Qf)->(V.filter q).length+1<=(V.filter p).length
 |[],_,h=>by simp_all
 |y::V,h1,h2=>by
  have mono:∀V:Ql α,(∀x∈V,q x=Qt->p x=Qt)->(V.filter q).length<=(V.filter p).length:=by
   intro V
   induction V with
   |nil=>simp
   |cons z V ih=>
    grind
  rw[TF,TF];have hy:=h1 y (Rz ..);have m:=mono V λx hx=>h1 x (Rx _ hx);obtain⟨x,hx,px,qx⟩:=h2;rcases RB.mp hx with rfl|z
  .simp_all
  .have ih:=Ap (λx hx=>h1 x (Rx _ hx)) ⟨x,z,px,qx⟩;cases e1:q y with
   |true=>simp_all
   |false=>cases p y<;>simp<;>lia
def NM(h:Ok M e w nt S)(hE:eM M e nt)(a0:0<=a)(a1:a<(nt:Int))(hn:S.po (e a).1≠S.po (e a).2):mu M (KX.WX S e a)+1<=mu M S:=by
 obtain⟨⟨x0,x1⟩,y0,y1⟩:=hE a a0 a1;have YS:∀v,(KX.WX S e a).po v=if v∈dO S e a then(S.n:Int) else S.po v:=λv=>rfl
 have mj:∀u,u∈dO S e a↔(0<=u/\u<(M:Int)/\(S.po u=S.po (e a).1\/S.po u=S.po (e a).2)):=λu=>by
  rw[zba,h.cur _ x0 x1,h.cur _ y0 y1];constructor
  .rintro(⟨a,b,c⟩|⟨a,b,c⟩)
   .exact⟨a,b,.inl c⟩
   .exact⟨a,b,.inr c⟩
  .simp_all
 have k1:(e a).1∈dO S e a:=(mj _).mpr ⟨x0,x1,.inl rfl⟩;have k2:(e a).2∈dO S e a:=(mj _).mpr ⟨y0,y1,.inr rfl⟩;refine Ap (λq hq k=>?_) ?_
 .rw[XT]at k ⊢;intro z;obtain⟨u0,uv,v1⟩:=zd5.mp hq
  grind
 .have ne:(e a).1≠(e a).2:=λz=>hn (by rw[z]);rcases Int.lt_or_gt_of_ne ne with z|z
  .exact⟨_,zd5.mpr ⟨x0,z,y1⟩,Ww hn,Xt λk=>k (by rw[YS,YS,V4 k1,V4 k2])⟩
  .exact⟨_,zd5.mpr ⟨y0,z,x1⟩,Ww λk=>hn k.symm,Xt λk=>k (by rw[YS,YS,V4 k1,V4 k2])⟩
noncomputable def Yl:Ql Str:=["ties","weights","parts","taken","points","widths","paid","around","piece_of"]
def fl(n:Nat)(f:Int->Int):D:=.lst (((aE n).map f).map D.int)
def fp(n:Nat)(f:Int->Ql Int):D:=.lst ((aE n).map λp=>aV (f p))
def iL(l:Ql Int):D:=.lst (l.map D.int)
def oD(C:ZE)(M:Nat)(ts:Ql (Int×Int))(wl:Ql Int)(S:PS):D:=.obj C Yl [.lst (ts.map pD),iL wl,.int S.pa,iL S.tk,fp S.n S.pt,fl S.n S.wd,fl S.n S.pd,fl M S.ar,fl M S.po]
def bp(wl:Ql Int)(a:Int):Int:=wl.getD a.toNat 0
def fO(n:Nat):(aE n).length=n:=by unfold aE;simp
def P1{n:Nat}{f:Int->Int}(v0:0<=v)(v1:v<(n:Int)):((aE n).map f).getD v.toNat 0=f v:=by rw[Sb,Se];unfold aE;rw[Se,Tt (by lia)];show f v.toNat=f v;rw[SG v0]
def jc(h:f t=Qs r)(hr:r.d=.obj C ns ds)(hx:bI x ns=Qs j)(hd:ds[j]?=Qs d):(d1 (aP C x) f) t=Qs (if r.ok||flat d then .cl d else .tm d):=by
 unfold d1;rw[h];unfold aP
 simp_all
def iM(r:Ev)(d:D):((if r.ok||flat d then Ev.cl d else Ev.tm d):Ev).d=d:=by split<;>rfl
def jP(ha:fa t=Qs r1)(hb:fb t=Qs r2)(h1:r1.d=fl n f)(h2:r2.d=.int v)(v0:0<=v)(v1:v<(n:Int)):(d2 ao fa fb) t=Qs (.cl (.int (f v))):=by have:=ke _ v ha hb v0 (by rw[RE,fO];assumption) h1 h2;rw[P1 v0 v1]at this;assumption
def GP{n:Nat}{f:Int->Ql Int}(v0:0<=v)(v1:v<(n:Int)):W7 ((aE n).map λp=>aV (f p)) v=Qs (aV (f v)):=by
 unfold L2.W7;have e:XD ((aE n).map λp=>aV (f p)).length v=Qs v.toNat:=by rw[RE,fO];have:=qO n v.toNat (by lia);rw[SG v0]at this;assumption
 rw[e];show((aE n).map _)[v.toNat]?=_;unfold aE;rw[Se,Se,Tt (by lia)];show Qs (aV (f v.toNat))=_;rw[SG v0]
def Bo(ha:fa t=Qs r1)(hb:fb t=Qs r2)(h1:r1.d=fp n f)(h2:r2.d=.int v)(v0:0<=v)(v1:v<(n:Int)):∃r,(d2 ao fa fb) t=Qs r/\r.d=aV (f v):=by rw[cg ha hb];unfold ao;rw[h1,h2];show ∃r,(W7 _ v).map _=Qs r/\_;rw[GP v0 v1];exact⟨_,rfl,iM _ _⟩
def Q6(ha:fa t=Qs r1)(hb:fb t=Qs r2)(h1:r1.d=iL l)(h2:r2.d=.int v)(v0:0<=v)(v1:v<(l.length:Int)):(d2 ao fa fb) t=Qs (.cl (.int (bp l v))):=ke l v ha hb v0 v1 h1 h2
section
variable {C:ZE}{M:Nat}{ts:Ql (Int×Int)}{wl:Ql Int}{S:PS}{f:DE}{t:Th}{r:Ev}
def uj(h:f t=Qs r)(hr:r.d=oD C M ts wl S):∃q,(d1 (aP C "ties") f) t=Qs q/\q.d=.lst (ts.map pD):=⟨_,jc h hr (rfl) rfl,iM _ _⟩
def NA(h:f t=Qs r)(hr:r.d=oD C M ts wl S):∃q,(d1 (aP C "weights") f) t=Qs q/\q.d=iL wl:=⟨_,jc h hr (rfl) rfl,iM _ _⟩
def Eb(h:f t=Qs r)(hr:r.d=oD C M ts wl S):(d1 (aP C "parts") f) t=Qs (.cl (.int S.pa)):=by have:=jc (x:= "parts") h hr (rfl) rfl;rw[this];rw[show flat _=Qt from rfl,Td];rfl
def NB(h:f t=Qs r)(hr:r.d=oD C M ts wl S):∃q,(d1 (aP C "taken") f) t=Qs q/\q.d=iL S.tk:=⟨_,jc h hr (rfl) rfl,iM _ _⟩
def D9(h:f t=Qs r)(hr:r.d=oD C M ts wl S):∃q,(d1 (aP C "points") f) t=Qs q/\q.d=fp S.n S.pt:=⟨_,jc h hr (rfl) rfl,iM _ _⟩
def yX(h:f t=Qs r)(hr:r.d=oD C M ts wl S):∃q,(d1 (aP C "widths") f) t=Qs q/\q.d=fl S.n S.wd:=⟨_,jc h hr (rfl) rfl,iM _ _⟩
def NC(h:f t=Qs r)(hr:r.d=oD C M ts wl S):∃q,(d1 (aP C "paid") f) t=Qs q/\q.d=fl S.n S.pd:=⟨_,jc h hr (rfl) rfl,iM _ _⟩
def Ec(h:f t=Qs r)(hr:r.d=oD C M ts wl S):∃q,(d1 (aP C "around") f) t=Qs q/\q.d=fl M S.ar:=⟨_,jc h hr (rfl) rfl,iM _ _⟩
def Ea(h:f t=Qs r)(hr:r.d=oD C M ts wl S):∃q,(d1 (aP C "piece_of") f) t=Qs q/\q.d=fl M S.po:=⟨_,jc h hr (rfl) rfl,iM _ _⟩
def pW(h:f t=Qs r)(hr:r.d=oD C M ts wl S)(hm:bI m Yl=Qn)(hg:ga t=Qs rs)(hG:G (oD C M ts wl S::rs.map Ev.d)=Qs (.cl d))(hf:flat d=Qt):cZ C m G f ga t=Qs (.cl d):=by unfold cZ;rw[h];simp;rw[hr];unfold oD;simp only[hm,and_self,if_true];rw[hg];refine di ?_ hf;rw[RK,hr];assumption
end
def Cd(hw:Yi M ts){i j:Nat}(hi:t[0]?=Qs sl)(hsl:sl=.val (oD C M ts wl S)\/sl=.dp (oD C M ts wl S))(hj:t[1]?=Qs (.val (.int a)))(a0:0<=a)(a1:a<(ts.length:Int)): (aM 1 [0] (g4 (d2 ao (d1 (aP C "ties") (af 0)) (af 1))) (cG 0) aZ (d2 ao (d1 (aP C "piece_of") (af 1)) (af 0))) t=Qs (.nw [.int (S.po (aC ts a).1),.int (S.po (aC ts a).2)]):=by
 obtain⟨b0,bb,bM⟩:=hw.lt _ (nK a0 a1);obtain⟨r0,e0,d0⟩:∃r,af 0 t=Qs r/\r.d=oD C M _ _ S:=by
  unfold af;rw[hi];rcases hsl with z|z<;>subst z
  .exact⟨_,rfl,rfl⟩
  .exact⟨_,rfl,rfl⟩
 obtain⟨q,eq,dq⟩:=uj e0 d0;obtain⟨b,ec⟩:∃b,gC t [0]=Qs (b,[oD C M _ _ S]):=by
  rcases hsl with z|z
  .subst z;exact⟨Qt,by unfold gC;rw[hi];rfl⟩
  .subst z;exact⟨_,by unfold gC;rw[hi];rfl⟩
 have ix:∀(v:Int),0<=v->v<M->(d2 _ _ (af 0)) _=Qs _:=λv v0 v1=>by obtain⟨q,e,dq⟩:=Ea (f:=af 1) (t:=[.val _,.val (oD C M ts wl S)]) rfl rfl;exact jP e rfl dq rfl v0 v1
 unfold aM g4;rw[(sR eq (by unfold af;rw[hj]) dq rfl a0 a1),ec];show((if[D.int (aC ts a).1,D.int (aC ts a).2].length<=50000 then(bJ _ _ _ _ [.no,.val _]).bind _ else Qn))=_;have cc:bJ (cG 0) aZ (d2 ao (d1 (aP C "piece_of") (af 1)) (af 0)) [D.int (aC ts a).1,D.int (aC ts a).2] [.no,.val (oD C M ts wl S)]=Qs [.int (S.po (aC ts a).1),.int (S.po (aC ts a).2)]:=by show((d2 _ _ _) [.val _,.val _]).bind (λr=>(((d2 _ _ _) [.val _,.val _]).bind _).map _)=_;rw[(ix _ b0 (U6 bb bM)),(ix _ (Sd (SU b0 bb)) bM)];rfl
 rw[cc];show(if(_||Wv _)=Qt then _ else Qn)=_;rw[show Wv _=Qt from rfl,Td];rfl
def O5(ha:fa t=Qs (.cl (.int v)))(hb:fb t=Qs (.cl (.WB G))):aD (d2 (qI Qf) fa fb) t=Qs (bc G v):=by unfold aD;rw[cg ha hb];show Qs (G.contains v)=_;unfold bc;simp
def HX(hw:Yi M ts)(a0:0<=a)(a1:a<(ts.length:Int)):m7 C [oD C M ts wl S,.int a,.WB G]=Qs (.cl (.int (bG S (aC ts) (bc G) a))):=by
 let O:Sl:=.val (oD C M ts wl S)
 let t0:Th:=[O,.val (.int a),.val (.WB G),.no,.no]
 let x:=S.po (aC ts a).1
 let y:=S.po (aC ts a).2
 let t1:Th:=[O,.val (.int a),.val (.WB G),.val (.int x),.val (.int y)]
 have E1:(dY (kj 2 pf) (aM 1 [0] (g4 (d2 ao (d1 (aP C "ties") ah) av)) bo aZ (d2 ao (d1 (aP C "piece_of") av) ah))) t0=Qs (.nx t1):=by unfold dY;rw[Cd (i:=0) (j:=0) hw rfl (.inl rfl) rfl a0 a1];rfl
 have c:=vt (fa:=af 3) (fb:=af 4) (t:=t1) (a:=x) (b:=y) rfl rfl;show(Af C t0).bind iq=_;unfold bG;by_cases z:x=y
 .rw[V4 z];exact Wq ((aG E1).trans (xh ((jF c (Ww z)).trans rfl)))
 .rw[Wh z];have e3:(aM 1 [2] (g4 (ag cX (ae bw lZ))) bo (aD (d2 (qI Qf) ah av)) ah) t1=Qs (.nw (([x,y].filter (bc G)).map D.int)):=by show(if[D.int x,D.int y].length<=50000 then(bJ _ _ _ ([x,y].map _) [.no,.val _]).bind _ else Qn)=_;rw[(AI _ _ (λv _=>(λv=>O5 rfl rfl) v) (λv _ _=>⟨_,rfl,rfl⟩))];rfl
  have e4:=oB e3 rfl;have el:(([x,y].filter (bc G)).length)=fU (bc G x)+fU (bc G y):=by rw[TF,TF];cases bc G x<;>cases bc G y<;>rfl
  rw[el]at e4;exact Wq ((aG E1).trans ((aG (dQ c (Xt z))).trans (fg e4)))
structure Sm(M:Nat)(S:PS)(B:Nat):Prop where
 pa:S.pa<(B:Int)
 wd:∀p,0<=p->p<(S.n:Int)->0<=S.wd p/\S.wd p<(B:Int)
 pd:∀p,0<=p->p<(S.n:Int)->0<=S.pd p/\S.pd p<(B:Int)
 ar:∀v,0<=v->v<(M:Int)->0<=S.ar v/\S.ar v<(B:Int)
def gq(hB:B<=DL.Wq)(h0:0<=i)(h1:i<(B:Int)):sm i=Qt:=by exact Ww (by lia)
def Fl(hw:Yi M ts)(hl:wl.length=ts.length)(h0:∀x∈wl,0<=x/\x<10^30)(hB:B<=DL.Wq)(hp:0<S.pa)(hS:Sm M S B)(a0:0<=a)(a1:a<(ts.length:Int)):lV C [oD C M ts wl S,.int a]=Qs (.cl (.int (Xm S (aC ts) (bp wl) a))):=by
 obtain⟨b0,bb,bM⟩:=hw.lt _ (nK a0 a1);let O:Sl:=.val (oD C M ts wl S)
 let x:=(aC ts a).1
 let y:=(aC ts a).2
 let t0:=[O,.val (.int a),.no,.no]
 let t1:=[O,.val (.int a),.val (.int x),.val (.int y)]
 obtain⟨q,eq,dq⟩:=uj (f:=af 0) (t:=t0) rfl rfl;have o1:af 0 t1=Qs _:=rfl;obtain⟨qw,ew,dw⟩:=NA o1 rfl;obtain⟨qa,ea,da⟩:=Ec o1 rfl;have hm:bp wl a∈wl:=by
  unfold bp
  simp_all
 show(Ae C t0).bind _=_;exact Wq ((aG (by
  unfold dY;rw[(sR eq rfl dq rfl a0 a1)];rfl)).trans (fg (sY (sY (gY (Q6 ew rfl dw rfl a0 (by lia)) (Eb o1 rfl) (kM (by have:=h0 _ hm;lia) (by have:=h0 _ hm;lia)) (gq hB (Sd hp) hS.pa)) (jP ea rfl da rfl b0 (U6 bb bM))) (jP ea rfl da rfl (Sd (SU b0 bb)) bM))))
def P2(hw:Yi M ts)(hT:ts.length<=1000)(hl:wl.length=ts.length)(h0:∀x∈wl,0<=x/\x<10^30)(hB:B<=DL.Wq)(hp:0<S.pa)(hS:Sm M S B):BQ C [oD C M ts wl S,.WB G]=Qs (.cl (match fQ S (aC ts) (bp wl) (bc G) ts.length with|some a=>.int a|none=>.Wj)):=by
 let O:Sl:=.val (oD C M ts wl S)
 let t0:=[O,.val (.WB G),.no]
 let bd:=(bO (ir (aD (d2 qG (cZ C "growing_beside" (m7 C) ah (ae aK kJ)) aU)) (aD (d2 qE (cZ C "left_between" (lV C) ah gm) aU))) (g8 2) cw)
 have turn:∀a:Int,0<=a->a<ts.length->bd _=if oS S _ _ _ a then Qs _ else Qs _:=λa a0 a1=>by
  let t:=[O,.val (.WB G),.val (.int a)]
  show bO _ _ _ t=_;rw[zS (sk (qW (pW rfl rfl (by rfl) rfl (HX hw a0 a1) rfl) rfl) (by
   unfold aD;rw[cg (pW rfl rfl (by rfl) rfl (Fl hw hl h0 hB hp hS a0 a1) rfl) rfl];rfl))]
  rfl
 have loop:∀(L:Ql Int) s,(∀a∈L,0<=a/\a<ts.length)->(match L.find? (oS S (aC ts) (bp wl) (bc G)) with
   |some a=>bY nE bd (L.map D.int) [O,.val (.WB G),s]=Qs (.rt (.cl (.int a)))
   |none=>∃s',bY nE bd (L.map D.int) [O,.val (.WB G),s]=Qs (.nx [O,.val (.WB G),s'])):=by
  intro L
  induction L with
  |nil=>exact λs _=>⟨s,rfl⟩
  |cons a L ih=>
   intro s h;have ra:=h a (Rz ..);have tn:=turn a ra.1 ra.2;rw[TL];cases z:oS S _ _ _ a with
   |true=>rw[z]at tn;exact GQ rfl tn
   |false=>
    rw[z]at tn;have st:=gA (k:=cG 2) (ds:=L.map D.int) (t:=[O,.val _,s]) rfl tn
    simp_all
 have lp:=loop _ .no λa ha=>dy ha;obtain⟨q,eq,dq⟩:=uj (f:=af 0) (t:=t0) rfl rfl;have el:(ag cb (ae (d1 (aP C "ties") ah) aq)) t0=Qs (.cl (.int ts.length)):=by rw[fA eq];unfold cb;dsimp only;rw[dq];simp
 have er:=Ks (k0:=cG 2) (b:=bd) el rfl (by lia);unfold fQ;cases z:(aE _).find? _ with
 |some a=>rw[z]at lp;exact Wq (xh (er.trans lp))
 |none=>rw[z]at lp;obtain⟨s',e⟩:=lp;exact Wq ((aG (er.trans e)).trans rfl)
end KX
set_option maxHeartbeats 4000000
namespace KX
open PySem.Spec L2 DL
def CQ(hf:f t=Qs (.cl (.int (n:Int))))(hn:n<=50000):km f t=Qs (Qt,(aE n).map D.int):=by unfold km;rw[hf];simp only[RF,Ev.d];rw[V4 (by exact Ww (by lia))];unfold fN aE;simp
def Qu(hf:f t=Qs (.cl (.int (n:Int))))(hn:n<=50000)(hc:gC t cap=Qs (b,c))(he:∀x∈aE n,fe (.val (.int x)::c.map Sl.val)=Qs (.cl (.int (g x)))): (aM 1 cap (km f) bo aZ fe) t=Qs (.nw (((aE n).map g).map D.int)):=by unfold aM;rw[CQ hf hn,hc];simp only[RF];rw[V4 (by rw[RE,NK];assumption)];show(bJ _ _ _ _ (Sl.no::c.map _)).bind _=_;rw[(AG (λ_ _=>rfl) _ _ he)];simp only[RF,Xp,Td,if_true]
end KX
set_option maxHeartbeats 1000000
namespace KX
open PySem.Spec L2 DL
def uw(n:Nat):aE n=(Uy 0 n).map λ(i:Nat)=>(i:Int):=by unfold aE;rw[List.range_eq_range']
theorem AH{b:Int->Int}{c:Ql D}:∀(k j:Nat) (s s':Sl),(∀i:Nat,i<j+k->ft (.val (.int (i:Int))::.val (.int (b i))::c.map Sl.val)=Qs (p i)/\(p i=Qt->fe (.val (.int (i:Int))::.val (.int (b i))::c.map Sl.val)=Qs (.cl (.int (f i)))))->bJ (bq 2 dF) ft fe (fz j (((Uy j k).map λ(i:Nat)=>(b (i:Int))).map D.int)) (s::s'::c.map Sl.val)=Qs (((((Uy j k).map λ(i:Nat)=>(i:Int)).filter p).map f).map D.int)
 |0,j,s,s',_=>rfl
 |k+1,j,s,s',h=>by
  obtain⟨h1,h2⟩:=h j (by lia);have ih:=AH k (j+1) (.val (.int j)) (.val (.int (b j))) λi hi=>h i (by lia);rw[List.range'_succ,RK,RK,RK];unfold fz bJ;have k1:bq 2 dF (.tup [.int j,.int (b j)]) (s::s'::c.map Sl.val)=Qs (.val _::.val _::c.map _):=rfl;rw[k1];simp only[RF];rw[h1];simp only[RF];rw[TF];cases z:p _ with
  |true=>rw[h2 z,ih];rfl
  |false=>lia
def JV(hw:Yi M ts)(hT:ts.length<=1000)(hl:wl.length=ts.length)(h0:∀x∈wl,0<=x/\x<10^30)(hB:B<=DL.Wq)(hp:0<S.pa)(hS:Sm M S B):BN C [oD C M ts wl S,.WB G]=Qs (.nw ((iW S (aC ts) (bp wl) (bc G) ts.length).map D.int)):=by
 let O:Sl:=.val (oD C M ts wl S)
 let t0:=[O,.val (.WB G),.no]
 obtain⟨q,eq,dq⟩:=uj (f:=af 0) (t:=t0) (r:=.cl (oD C M ts wl S)) (M:=M) (ts:=ts) (wl:=wl) (S:=S) rfl rfl;have el:(ag cb (ae (d1 (aP C "ties") ah) aq)) t0=Qs (.cl (.int (ts.length:Int))):=by rw[fA eq];unfold cb;dsimp only;rw[dq];simp
 let bs:Int->Int:=bG S (aC ts) (bc G)
 have e1:=Qu (cap:=[1,0]) (t:=t0) (b:=Qt) (c:=[.WB G,oD C M ts wl S]) (fe:=cZ C "growing_beside" (m7 C) aK ji) (g:=bs) el (by lia) rfl λx hx=>by have rx:=dy hx;exact pW rfl rfl (rfl) rfl (HX hw rx.1 rx.2) rfl
 have E1:=gO (i:=2) e1 (by simp[t0]);let t1:Th:=[O,.val (.WB G),.own (((aE ts.length).map bs).map D.int)]
 have e2:(aM 2 [0] (mO aK) (bq 2 dF) (aD (d2 qG av aU)) (d2 qV (cZ C "left_between" (lV C) aK jj) av)) t1=Qs (.nw ((iW S (aC ts) (bp wl) (bc G) ts.length).map D.int)):=by
  have cc:=AH (p:=λa=>decide (0<bs a)) (f:=λa=>(Xm S _ _ a).fdiv _) (ft:=(aD (d2 _ av (dC _)))) (fe:=(d2 _ _ av)) (c:=[oD C M _ _ S]) ts.length 0 .no .no λi hi=>by
   let t:=[.val (.int i),.val (.int (bs i)),O]
   refine⟨qW rfl rfl,λz=>?_⟩;have bb:=oZ S (aC ts) (bc G) i;have z:=of_decide_eq_true z;have bb:0<=bs i/\bs i<=2:=bb;exact mS (pW (ga:=ae ah aq) (m:= "left_between") (f:=af 2) rfl rfl (by rfl) rfl (Fl hw hl h0 hB hp hS (by lia) (by lia)) rfl) rfl (by lia) (kM (by lia) (by lia))
  have em:((aE ts.length).map bs).map D.int=((Uy 0 ts.length).map λ(i:Nat)=>(bs i)).map D.int:=by rw[uw,R6,R6,R6];rfl
  have es:mO aK t1=Qs _:=rfl;unfold aM;rw[es,em];show(if(fz 0 _).length<=50000 then(bJ _ _ _ _ [.no,.no,O]).bind _ else Qn)=_;rw[V4 (by rw[mR];simp;lia)];have cc':bJ (bq 2 dF) (aD (d2 qG av aU)) (d2 qV (cZ C "left_between" (lV C) aK jj) av) (fz 0 (((Uy 0 ts.length).map λ(i:Nat)=>(bs i)).map D.int)) [.no,.no,O]=Qs ((iW S (aC ts) (bp wl) (bc G) ts.length).map D.int):=by unfold iW;rw[uw];assumption
  rw[cc'];simp only[RF,Xp,Td,if_true]
 show(Ac C t0).bind iq=_;exact Wq ((aG E1).trans (fg e2))
def Ai(h:t[0]?=Qs (.dp (.obj C ns ds)))(he:fe t=Qs r)(hy:lD r=Qs y)(hj:bI x ns=Qs j)(hn:ns.length<900):gh 0 C x fe t=Qs (.nx (t.set 0 (.dp (.obj C ns (ds.set j y))))):=by unfold gh;rw[he];show oG t 0 C x r=_;unfold oG;rw[h,hy];show(if C=C/\ns.length<900 then Qs _ else Qn)=_;rw[V4 ⟨rfl,hn⟩];unfold DL.zaf;rw[hj]
def kq(h:t[0]?=Qs (.dp (.obj C ns ds)))(he:fe t=Qs r)(hy:lD r=Qs y)(hj:bI x ns=Qn)(hn:ns.length<900):gh 0 C x fe t=Qs (.nx (t.set 0 (.dp (.obj C (ns++[x]) (ds++[y]))))):=by unfold gh;rw[he];show oG t 0 C x r=_;unfold oG;rw[h,hy];show(if C=C/\ns.length<900 then Qs _ else Qn)=_;rw[V4 ⟨rfl,hn⟩];unfold DL.zaf;rw[hj]
def zw(h:t[0]?=Qs (.dp (.obj C ns ds)))(hj:bI x ns=Qs j)(hd:ds[j]?=Qs (.lst es))(f1:Wv es=Qt)(hk:k es=Qs Xf)(f2:Wv Xf=Qt):lu t 0 C x k=Qs (.nx (t.set 0 (.dp (.obj C ns (ds.set j (.lst Xf)))))):=by
 unfold lu
 simp_all
def Pl(hM:M<=1000)(hn:S.n<=1000)(hB:B<=DL.Wq)(hS:Sm M S B):BO C [oD C M ts wl S]=Qs (oD C M ts wl (W4 S)):=by
 have dbl:∀{t:Th}{f:DE}{r:Ev}{n:Nat}{g:Int->Int},f t=Qs r->r.d=fl n g->n<=1000->(∀p,0<=p->p<(n:Int)->0<=g p/\g p<B)->(aM 1 _ _ _ _ _) t=Qs _:=λ{t f r n g} hf hr hn hg=>by
  have:=rX (cap:=[]) (fe:=(d2 _ gE ah)) hf hr (by rw[RE,fO];lia) rfl λx hx=>by obtain⟨p,hp,rfl⟩:=RU.mp hx;have rp:=dy hp;have:=hg p rp.1 rp.2;exact gY rfl rfl (kM (by decide) (by simp)) (gq hB this.1 this.2)
  rw[R6 (f:=g)]at this;assumption
 let t0:Th:=[.dp (oD C M ts wl S)]
 let S1:={S with pa:=S.pa*2}
 let S2:={S1 with wd:=λp=>2*S.wd p}
 let S3:={S2 with pd:=λp=>2*S.pd p}
 have E1:vI 0 C "parts" gE t0=Qs (.nx [.dp (oD C M ts wl S1)]):=by show(if C=C/\Yl.length<900/\(2:Int).natAbs<=1000 then _ else Qn)=_;rw[V4 ⟨rfl,by decide,by decide⟩];rfl
 obtain⟨q2,a2,b2⟩:=yX (f:=af 0) (t:=[.dp _]) (C:=C) (M:=M) (ts:=ts) (wl:=wl) (S:=S1) rfl rfl;obtain⟨q3,a3,b3⟩:=NC (f:=af 0) (t:=[.dp _]) (C:=C) (M:=M) (ts:=ts) (wl:=wl) (S:=S2) rfl rfl;obtain⟨q4,a4,b4⟩:=Ec (f:=af 0) (t:=[.dp _]) (C:=C) (M:=M) (ts:=ts) (wl:=wl) (S:=S3) rfl rfl;show(vd C t0).bind _=_;have:=(aG E1).trans ((aG (Ai (t:=[.dp (oD C M ts wl S1)]) (C:=C) (x:= "widths") (j:=5) (y:=fl S.n λp=>2*S.wd p) rfl (dbl a2 b2 hn hS.wd) (by show(if Wv _ then Qs _ else Qn)=_;rw[Xp];rfl) (by rfl) (by decide))).trans ((aG (Ai (t:=[.dp (oD C M ts wl S2)]) (C:=C) (x:= "paid") (j:=6) (y:=fl S.n λp=>2*S.pd p) rfl (dbl a3 b3 hn hS.pd) (by show(if Wv _ then Qs _ else Qn)=_;rw[Xp];rfl) (by rfl) (by decide))).trans (Ai (t:=[.dp (oD C M ts wl S3)]) (C:=C) (x:= "around") (j:=7) (y:=fl M λp=>2*S.ar p) rfl (dbl a4 b4 hM hS.ar) (by show(if Wv _ then Qs _ else Qn)=_;rw[Xp];rfl) (by rfl) (by decide))));rw[show vd C _=_ from this];rfl
def Am{n:Nat}{p v:Int}(p0:0<=p)(p1:p<(n:Int)):((aE n).map f).set p.toNat v=(aE n).map λq=>if q=p then v else f q:=by
 apply Us;intro i;rw[VR];unfold aE;simp only[Se,RE,T3];by_cases h:i<n
 .rw[Tt h];by_cases z:p.toNat=i
  .rw[V4 z,V4 (by lia)];simp only[SY];rw[V4 (by lia)]
  .rw[Wh z];simp only[SY];rw[Wh (by lia)]
 .simp_all
def An{n:Nat}{f:Int->Int}(p0:0<=p)(p1:p<(n:Int)):XD ((aE n).map f).length p=Qs p.toNat/\((aE n).map f)[p.toNat]?=Qs (f p):=by
 constructor
 .rw[RE,fO];have:=qO n p.toNat (by lia);rw[SG p0]at this;assumption
 .unfold aE;rw[Se,Se,Tt (by lia)];show Qs (f p.toNat)=_;rw[SG p0]
def zN(l:Ql Int):dX (l.map D.int)=Qs l:=by
 induction l with
 |nil=>rfl
 |cons x l ih=>simp only[RK,dX,ih];rfl
def Ih(h:t[0]?=Qs (.dp (.obj C ns ds)))(hj:bI x ns=Qs j)(hd:ds[j]?=Qs (fl n f))(hk:fk t=Qs (.cl (.int p)))(he:fe t=Qs (.cl (.int v)))(p0:0<=p)(p1:p<(n:Int)):kB (λi j=>i+j) 0 C x fk fe t=Qs (.nx (t.set 0 (.dp (.obj C ns (ds.set j (fl n λq=>f q+if q=p then v else 0)))))):=by
 unfold kB;rw[hk,he];refine zw h hj hd (Xp _) ?_ (Xp _);show(XD _ p).bind _=_;obtain⟨a,b⟩:=An (f:=f) p0 p1;rw[RE,a];simp only[RF];rw[Se,b];show Qs _=_;rw[<-V0,Am p0 p1];congr 2;refine SF λq _=>?_;by_cases z:q=p
 .rw[V4 z,V4 z,z]
 .rw[Wh z,Wh z,TJ]
theorem Ig{M:Nat}:∀(zs:Ql Int) (f:Int->Int),zs.Nodup->(∀z∈zs,0<=z/\z<(M:Int))->hU m zs ((aE M).map f)=Qs ((aE M).map λv=>f v+if v∈zs then m else 0)
 |[],f,_,_=>by show Qs _=_;simp
 |z::zs,f,nd,h=>by
  obtain⟨z0,z1⟩:=h z (Rz ..);obtain⟨a,b⟩:=An (f:=f) z0 z1;unfold hU;rw[a];simp only[RF];rw[b];simp;rw[Am z0 z1,Ig _ _ (RQ.mp nd).2 λy hy=>h y (Rx _ hy)];congr 1;refine SF λq _=>?_;by_cases y:q=z
  .simp_all
  .simp_all
def Pq(i1:bI f1 ns=Qs j1)(i2:bI f2 ns=Qs j2)(h1:ds[j1]?=Qs (.lst rows))(h2:ds[j2]?=Qs (.lst es))(ha:W7 rows n=Qs (.lst xs))(hz:dX xs=Qs zs)(hw:dX es=Qs ws)(hj:j1≠j2)(hu:hU m zs ws=Qs us):∃YF,(mV 0 3 4 2 C f1 f2) [.dp (.obj C ns ds),s1,.val (.int m),.val (.int n),s4]=Qs (.nx [.dp (.obj C ns (ds.set j2 (.lst (us.map D.int)))),s1,.val (.int m),.val (.int n),YF]):=by
 unfold mV;simp only[vf,rm,oR,List.getElem?_cons_zero,TQ,i1,i2,RF,h1,h2,ha,hz,hw,hu];rw[V4 hj];cases z:zs.getLast? with
 |none=>exact⟨s4,rfl⟩
 |some u=>exact⟨_,rfl⟩
def Pp(hO:Ok M e w nt S)(nG:G.Nodup)(hG:∀p∈G,∃v,0<=v/\v<(M:Int)/\S.po v=p):BP C [oD C M ts wl S,.WB G,.int st]=Qs (oD C M ts wl (Xs S (bc G) st)):=by
 let T (P:Ql Int) (s3 s4:Sl):Th:=[.dp (oD C M ts wl (Xs S (bc P) st)),.val (.WB G),.val (.int st),s3,s4]
 let bd:DS:=(aB (kB (λi j=>i+j) 0 C "widths" bw aK) (aB (kB (λi j=>i+j) 0 C "paid" bw aK) (mV 0 3 4 2 C "points" "around")))
 have turn:∀(P:Ql Int) (p:Int) (s4:Sl),p∉P->(∃v,0<=v/\v<(M:Int)/\S.po v=p)->∃YF,bd (T P (.val (.int p)) s4)=Qs (.nx (T (P++[p]) (.val (.int p)) YF)):=by
  rintro P p s4 hp ⟨v,v0,v1,rfl⟩;have pr:=hO.Yd v v0 v1;let p:=S.po v
  let Sa:=Xs S (bc P) st
  let S1:={Sa with wd:=λq=>Sa.wd q+if q=p then st else 0}
  let S2:={S1 with pd:=λq=>Sa.pd q+if q=p then st else 0}
  have i1:bI "points" Yl=Qs 4:=rfl;have i2:bI "around" Yl=Qs 7:=rfl;have fin:oD C M ts wl (Xs S (bc (P++[p])) st)=.obj C Yl [.lst (ts.map pD),iL wl,.int S.pa,iL S.tk,fp S.n S.pt,fl S.n S2.wd,fl S.n S2.pd,.lst (((aE M).map λv=>Sa.ar v+if v∈S.pt p then st else 0).map D.int),fl M S.po]:=by
   have k:∀q,(if bc (P++[p]) q then st else 0)=(if bc P q then st else 0)+if q=p then st else 0:=λq=>by
    unfold bc;by_cases z:q=p
    .grind
    .simp_all
   have e1:(Xs S (bc (P++[p])) st).wd=S2.wd:=by
    funext q;show S.wd q+(if bc _ q then st else 0)=S.wd q+(if bc P q then st else 0)+if q=p then st else 0
    rw[k,WO]
   have e2:(Xs S (bc (P++[p])) st).pd=S2.pd:=by
    funext q;show S.pd q+(if bc _ q then st else 0)=S.pd q+(if bc P q then st else 0)+if q=p then st else 0
    rw[k,WO]
   have e3:(aE M).map (Xs S (bc (P++[p])) st).ar=(aE M).map λv=>Sa.ar v+if v∈S.pt p then st else 0:=by
    refine SF λu hu=>?_;have ru:=dy hu;show S.ar u+(if bc _ _ then st else 0)=S.ar u+(if bc P _ then st else 0)+if u∈S.pt p then st else 0
    rw[k];have:(S.po u=p)↔u∈S.pt p:=by rw[hO.cur v v0 v1];exact⟨λz=>⟨ru.1,ru.2,z⟩,λz=>z.2.2⟩
    lia
   unfold oD fl;rw[e1,e2,e3];rfl
  have E3:∃YF,(mV 0 3 4 2 C "points" "around") [.dp (oD C M ts wl S2),.val (.WB G),.val (.int st),.val (.int p),s4]=Qs (.nx (T (P++[p]) (.val (.int p)) YF)):=by obtain⟨YF,q⟩:=Pq (ds:=[.lst _,iL _,.int _,iL _,fp _ _,fl _ _,fl _ _,fl M _,fl M _]) i1 i2 rfl rfl (GP pr.1 pr.2) (zN _) (zN _) (by decide) (Ig _ _ (hO.nd pr.1 pr.2) (hO.inr p pr.1 pr.2));refine⟨YF,q.trans ?_⟩;simp only[T,fin];rfl
  obtain⟨YF,E3⟩:=E3;exact⟨YF,(aG (Ih (t:=T P _ _) (j:=5) rfl (by rfl) rfl rfl rfl pr.1 pr.2)).trans ((aG (Ih (t:=[.dp _,.val _,.val _,.val _,s4]) (j:=6) rfl (by rfl) rfl rfl rfl pr.1 pr.2)).trans E3)⟩
 have loop:∀(L P:Ql Int) (s3 s4:Sl),(P++L).Nodup->(∀p∈L,∃v,0<=v/\v<(M:Int)/\S.po v=p)->∃s3' YF,bY nF bd (L.map D.int) (T P s3 s4)=Qs (.nx (T (P++L) s3' YF)):=by
  intro L
  induction L with
  |nil=>exact λP s3 s4 _ _=>⟨s3,s4,by rw[SE];rfl⟩
  |cons p L ih=>
   intro P s3 s4 nd h;obtain⟨YF,e⟩:=turn P p s4 (λz=>(RI.mp nd).2.2 p z p (Rz ..) rfl) (h p (Rz ..));obtain⟨a,b,e2⟩:=ih (P++[p]) (.val (.int p)) YF (by simpa using nd) λq hq=>h q (Rx _ hq);have ea:P++p::L=(P++[p])++L:=by simp
   exact⟨a,b,by rw[ea];exact(gA rfl e).trans e2⟩
 obtain⟨s3',YF,e⟩:=loop G [] .no .no (by simpa using nG) hG;have e0:oD C M ts wl (Xs S (bc []) st)=oD C M ts wl S:=by
  have:Xs S (bc []) st=S:=by unfold Xs bc;simp
  rw[this]
 show(vG nF av bd [.dp (oD C M ts wl S),.val (.WB G),.val (.int st),.no,.no]).bind uk=_;have es:vG nF av bd [.dp (oD C M ts wl S),.val (.WB G),.val (.int st),.no,.no]=Qs (.nx (T G s3' YF)):=by
  have q:T [] .no .no=[.dp (oD C M ts wl S),.val (.WB G),.val (.int st),.no,.no]:=by simp only[T,e0]
  rw[UT,q]at e;exact e
 rw[es];rfl
end KX
set_option maxHeartbeats 4000000
namespace KX
open PySem.Spec L2 DL
def dV(P:Ql Int)(V:Int->Int):D:=.WR (P.map Sum.inl) (P.map λp=>.int (V p))
def Fo(v:Int->Int)(p q:Int):Prop:=v q<v p\/(v q=v p/\p<=q)
end KX
set_option maxHeartbeats 1000000
namespace KX
open PySem.Spec L2 DL
def GS(a b:Nat)(h:0<b):(a:Int).fmod (b:Int)=((a % b:Nat):Int):=by lia
def vO:DT:=(aD (d2 bV av aU))
theorem Hz:∀(n a b:Nat),b<n->fL vO rY n [.val (.int (a:Int)),.val (.int (b:Int))]=Qs (.nx [.val (.int (S6 a b:Int)),.val (.int 0)])
 |0,a,b,h=>by lia
 |n+1,a,b,h=>by
  have ec:vO [.val (.int (a:Int)),.val (.int (b:Int))]=Qs (!decide ((b:Int)=0)):=by simp[vO,aD,d2,af,dC,bV,bZ,cP,Ev.d,bz,D7]
  unfold fL;rw[ec];by_cases hb:b=0
  .subst hb;simp
  .have ZN:¬((b:Int)=0):=by lia
   rw[Xt ZN];have eb:rY [.val (.int (a:Int)),.val (.int (b:Int))]=Qs (.nx [.val (.int (b:Int)),.val (.int ((a % b:Nat):Int))]):=by
    unfold rY jI;have:(ae (af 1) (ae (d2 qR (af 0) (af 1)) aq)) [.val (.int (a:Int)),.val (.int (b:Int))]=Qs [.cl (.int (b:Int)),.cl (.int ((a:Int).fmod (b:Int)))]:=by simp[ae,aq,d2,af,kI,mY,Ev.d,hb]
    rw[this,GS a b (by lia)];rfl
   simp only[RF,Bool.not_false,if_true,eb];rw[Hz n b (a % b) (by have:=Nat.mod_lt a (show 0<b by lia);lia),Vw b,<-XI,Vw b]
def Ht(a b:Nat):o9 [.int (a:Int),.int (b:Int)]=Qs (.cl (.int (S6 a b:Int))):=by show((aB (lE _ vO rY) _) [.val _,.val _]).bind _=_;have e':(lE (rB 1) _ _) [.val _,.val (.int b)]=Qs _:=(Hz (((b:Int).natAbs)+1) a b (by lia));rw[aG e'];rfl
def vp(a b:Nat):(a:Int).fdiv (b:Int)=((a/b:Nat):Int):=by lia
def kO(h:a<DL.Wq):sm (a:Int)=Qt:=by unfold sm;rw[XT];assumption
def PJ(s m:Nat)(h0:0<m)(h:m<DL.Wq):lU [.int (s:Int),.int (m:Int)]=Qs (.cl (.tup [.int ((s/S6 s m:Nat):Int),.int ((m/S6 s m:Nat):Int)])):=by
 have g0:0<S6 s m:=Tn _ h0;have gs:sm (S6 s m)=Qt:=kO (Sr (UG _ h0) h);let t0:Th:=[.val (.int s),.val (.int m),.no]
 let t1:Th:=[.val (.int s),.val (.int m),.val (.int (S6 s m))]
 have d1:=mS (fa:=af 0) (fb:=af 2) (t:=t1) rfl rfl (by lia) gs;have Z6:=mS (fa:=af 1) (fb:=af 2) (t:=t1) rfl rfl (by lia) gs;rw[vp]at d1 Z6;exact Wq ((aG (hX ((dm rfl (rfl:af 1 t0=Qs _)).trans (di (Ht s m) rfl)) (by simp[t0]))).trans ((aG (dQ (ou rfl rfl) (Xt (by lia)))).trans (fg ((dm d1 Z6).trans rfl))))
def y9(n:Nat):aE (n+1)=aE n++[(n:Int)]:=Es n
def GU(n:Nat)(f:Int->Int)(v:Int):((aE n).map f++[v])=(aE (n+1)).map λp=>if p=(n:Int) then v else f p:=by
 rw[y9,Tp];congr 1
 .refine SF λp hp=>?_;have:=dy hp;rw[Wh (by lia)]
 .simp
def PV(n:Nat)(f:Int->Ql Int)(v:Ql Int):((aE n).map λp=>aV (f p))++[aV v]=(aE (n+1)).map λp=>aV (if p=(n:Int) then v else f p):=by
 rw[y9,Tp];congr 1
 .refine SF λp hp=>?_;have:=dy hp;rw[Wh (by lia)]
 .simp
def Bt(h:t[0]?=Qs (.dp (.obj C ns ds)))(hj:bI x ns=Qs j)(hd:ds[j]?=Qs (iL l))(he:fe t=Qs (.cl (.int v)))(hl:l.length<100000):mW 0 C x fe t=Qs (.nx (t.set 0 (.dp (.obj C ns (ds.set j (iL (l++[v]))))))):=by unfold mW;rw[he];refine zw h hj hd (Xp _) ?_ (Xp _);show(if(flat _&&decide _)=Qt then Qs _ else Qn)=_;rw[RE,Ww hl,Tp];rfl
def Oh(h:f t=Qs r)(hr:r.d=fp n g):(ag cb (ae f aq)) t=Qs (.cl (.int (n:Int))):=by rw[fA h];unfold cb;dsimp only;rw[hr];show Qs _=_;rw[RE,fO]
def Dt(h:Ok M e w nt S)(p0:0<=p)(p1:p<(S.n:Int)):(S.pt p).length<=M:=by
 have:=pE (h.nd p0 p1) λu hu=>by have:=h.inr p p0 p1 u hu;exact jy this.1 this.2
 rwa [fO]at this
def Qa(l:Ql Int):ZR (l.map D.int) (l.map D.int)=Qt:=by have:=As (.lst (l.map D.int));assumption
def K9(hw:Yi M ts)(hM:M<=30)(hn:S.n<=1000)(hO:Ok M (aC ts) w ts.length S)(hk:S.tk.length<=1000)(a0:0<=a)(a1:a<(ts.length:Int)):BM C [oD C M ts wl S,.int a]=Qs (oD C M ts wl (WX S (aC ts) a)):=by
 obtain⟨b0,bb,bM⟩:=hw.lt _ (nK a0 a1);let x:=S.po (aC ts a).1
 let y:=S.po (aC ts a).2
 have px:=hO.Yd _ b0 (U6 bb bM);have py:=hO.Yd _ (Sd (SU b0 bb)) bM;let J:=dO S (aC ts) a
 let A:Sl:=.val (.int a)
 let X:Sl:=.val (.int x)
 let Y:Sl:=.val (.int y)
 let t0:=[.dp (oD C M ts wl S),A,.no,.no,.no,.no]
 let t1:=[.dp (oD C M ts wl S),A,X,Y,.no,.no]
 have E1:(dY (kj 2 jR) (aM 1 [0] (g4 (d2 ao (d1 (aP C "ties") ah) av)) bo aZ (d2 ao (d1 (aP C "piece_of") av) ah))) t0=Qs (.nx t1):=by unfold dY;rw[Cd (i:=0) (j:=0) hw rfl (.inr rfl) rfl a0 a1];rfl
 obtain⟨q,eq,dq⟩:=D9 (f:=af 0) (t:=t1) rfl rfl;obtain⟨r1,k1,d1'⟩:=Bo eq (rfl:af 2 t1=Qs _) dq rfl px.1 px.2;obtain⟨r2,k2,Z6⟩:=Bo eq (rfl:af 3 t1=Qs _) dq rfl py.1 py.2;have lx:(S.pt x).length<=M:=Dt hO px.1 px.2;have ly:(S.pt y).length<=M:=Dt hO py.1 py.2;have ec:(d2 d8 (d2 ao (d1 (aP C "points") ah) aK) (d2 ao (d1 (aP C "points") ah) bw)) t1=Qs (.nw ((S.pt x++S.pt y).map D.int)):=by
  rw[cg k1 k2];have:(kI gR λi j=>D.int (i+j)) r1 r2=Qn:=by(try unfold d8);(try unfold qS);(try unfold qM);(try unfold qV);(try unfold qR);(try unfold qL);(try unfold qE);(try unfold qG);(try unfold qH);(try unfold qP);unfold kI;rw[d1'];rfl
  (try unfold d8);(try unfold qM);unfold mz
  rw[this];unfold lB;rw[d1',Z6];show(if(r1.ok||Wv _)&&(r2.ok||Wv _)&&decide _ then Qs _ else Qn)=_;rw[Xp,Xp,Td,Td,Ww (by rw[RE,RE];lia),V4 (by rfl),Tp]
 let oP (P:Ql Int):D:=.obj C Yl [.lst (ts.map pD),iL wl,.int S.pa,iL S.tk,fp S.n S.pt,fl S.n S.wd,fl S.n S.pd,fl M S.ar,fl M λv=>if v∈P then(S.n:Int) else S.po v]
 let T (P:Ql Int) (s5:Sl):Th:=[.dp (oP P),A,X,Y,.own (J.map D.int),s5]
 have rJ:∀z∈J,0<=z/\z<(M:Int):=λz hz=>by
  rcases zba.mp hz with k | k
  .exact hO.inr x px.1 px.2 z k
  .exact hO.inr y py.1 py.2 z k
 let bd:DS:=(oV 0 C "piece_of" cK (ag cb (ae (d1 (aP C "points") ah) aq)))
 have turn:∀(P:Ql Int) (z:Int),0<=z->z<(M:Int)->bd (T P (.val (.int z)))=Qs (.nx (T (P++[z]) (.val (.int z)))):=λP z z0 z1=>by
  show oV 0 C _ _ _ _=_;unfold oV;rw[(Oh (jc rfl rfl (by rfl) rfl) (iM _ _))];exact zw (t:=T P _) (j:=8) rfl (by rfl) rfl (Xp _) (by
   show(if flat (D.int S.n) then(XD _ z).map _ else Qn)=_;rw[RE,(An z0 z1).1];show Qs ((((aE M).map _).map D.int).set _ (.int _))=_;rw[<-V0,Am z0 z1]
   grind) (Xp _)
 have loop:∀(L P:Ql Int) (s5:Sl),(∀z∈L,0<=z/\z<(M:Int))->∃s5',kn 4 (J.map D.int) 5 bd (L.map D.int) (T P s5)=Qs (T (P++L) s5'):=by
  intro L
  induction L with
  |nil=>exact λP s5 _=>⟨s5,by rw[SE];rfl⟩
  |cons z L ih =>
   intro P s5 h;have rz:=h z (Rz ..);obtain⟨s5',e⟩:=ih _ _ λu hu=>h u (Rx _ hu);refine⟨s5',?_⟩;have ea:P++z::L=(P++[z])++L:=by simp
   rw[ea,RK];unfold kn;rw[show cG 5 _ _=Qs (T P _) from rfl];simp only[RF];rw[turn P z rz.1 rz.2];show(if ZR _ _ then kn 4 _ 5 _ _ _ else Qn)=_;rw[Qa];assumption
 obtain⟨s5,lp⟩:=loop J [] .no rJ;rw[UT]at lp;have o0:oP []=oD C M ts wl S:=by rfl
 have E3:vF 4 5 bd [.dp (oD C M ts wl S),A,X,Y,.own (J.map D.int),.no]=Qs (.nx (T J s5)):=by show(if(J.map _).all _ then(kn 4 _ 5 _ _ _).map _ else Qn)=_;rw[CL];have q:T [] _=[.dp (oD C M _ _ S),A,X,Y,.own _,.no]:=rfl;rw[<-q,lp];rfl
 have i4:bI "points" Yl=Qs 4:=by rfl
 have i5:bI "widths" Yl=Qs 5:=by rfl
 have i6:bI "paid" Yl=Qs 6:=by rfl
 have i3:bI "taken" Yl=Qs 3:=by rfl
 let po2:Int->Int:=λv=>if v∈J then(S.n:Int) else S.po v
 let ZD:Int->Ql Int:=λp=>if p=(S.n:Int) then J else S.pt p
 let wd2:Int->Int:=λp=>if p=(S.n:Int) then 0 else S.wd p
 let pd2:Int->Int:=λp=>if p=(S.n:Int) then S.pd x+S.pd y else S.pd p
 let t4:Th:=[.dp (.obj C Yl [.lst (ts.map pD),iL wl,.int S.pa,iL S.tk,fp (S.n+1) ZD,fl S.n S.wd,fl S.n S.pd,fl M S.ar,fl M po2]),A,X,Y,.no,s5]
 have E4:vH 0 4 C "points" (T J s5)=Qs (.nx t4):=by show(if C=C/\4≠0/\Wv _=Qt then(bI _ _).bind _ else Qn)=_;rw[V4 ⟨rfl,by decide,Xp _⟩];show(if((aE _).map _).length<100000 then Qs _ else Qn)=_;rw[V4 (by rw[RE,fO];lia)];have:=PV S.n S.pt J;show Qs (Out.nx [.dp (.obj C _ [.lst _,iL _,.int _,iL _,.lst (((aE _).map _)++[aV J]),fl _ _,fl _ _,fl M _,fl M _]),A,X,Y,.no,s5])=_;rw[this];rfl
 have E5:=Bt (t:=t4) (C:=C) (x := "widths") (j:=5) (l:=(aE S.n).map S.wd) (v:=0) (fe:=dC (.int 0)) rfl i5 rfl rfl (by rw[RE,fO];lia);rw[GU]at E5;let t5:Th:=[.dp (.obj C Yl [.lst (ts.map pD),iL wl,.int S.pa,iL S.tk,fp (S.n+1) ZD,fl (S.n+1) wd2,fl S.n S.pd,fl M S.ar,fl M po2]),A,X,Y,.no,s5]
 have ep:=jc (f:=af 0) (t:=t5) (C:=C) (ns:=Yl) (x := "paid") (j:=6) (d:=fl S.n S.pd) (r:=.tm (.obj C Yl [.lst (ts.map pD),iL wl,.int S.pa,iL S.tk,fp (S.n+1) ZD,fl (S.n+1) wd2,fl S.n S.pd,fl M S.ar,fl M po2])) rfl rfl i6 rfl;have p1:=jP ep (rfl:af 2 t5=Qs (.cl (.int x))) (iM _ _) rfl px.1 px.2;have p2:=jP ep (rfl:af 3 t5=Qs (.cl (.int y))) (iM _ _) rfl py.1 py.2;have E6:=Bt (t:=t5) (C:=C) (x := "paid") (j:=6) (l:=(aE S.n).map S.pd) (v:=S.pd x+S.pd y) rfl i6 rfl (mZ p1 p2) (by rw[RE,fO];lia);rw[GU]at E6;let t6:Th:=[.dp (.obj C Yl [.lst (ts.map pD),iL wl,.int S.pa,iL S.tk,fp (S.n+1) ZD,fl (S.n+1) wd2,fl (S.n+1) pd2,fl M S.ar,fl M po2]),A,X,Y,.no,s5]
 have E7:=Bt (t:=t6) (C:=C) (x := "taken") (j:=3) (l:=S.tk) (v:=a) (fe:=af 1) rfl i3 rfl rfl (by lia);show(vc C t0).bind uk=_;have:=(aG E1).trans ((aG (gO (i:=4) (nO (xs:=S.pt x++S.pt y) ec rfl (by rw[SD];lia)) (by simp[t1]))).trans ((aG E3).trans ((aG E4).trans ((aG E5).trans ((aG E6).trans E7)))));rw[show vc C t0=_ from this];rfl
def Kx(M:Nat)(v:Int):RT M v=(aE M).map λ_=>v:=by rw[List.map_const',fO]
def O3(hM:M<=900):sJ C [.obj C [] [],wD M ts,iL wl]=Qs (oD C M ts wl (PS.new M)):=by
 let W:Sl:=.val (wD M ts)
 let V:Sl:=.val (iL wl)
 let A:Sl:=.val (.int M)
 let T:Sl:=.val (.lst (ts.map pD))
 let O ns ds:=[.dp (.obj C ns ds),W,V,A,T]
 have E0:(dY (bq 2 (cI (cG 3) (cI (cG 4) gc))) (af 1)) [.dp (.obj C [] []),W,V,.no,.no]=Qs _:=rfl;have e1:∀ns ds,(ag _ (ae (af 4) _)) (O ns ds)=Qs _:=λns ds=>Oa rfl rfl;have e2:∀ns ds,(ag _ (ae (af 2) _)) (O ns ds)=Qs _:=λns ds=>oy rfl rfl;have z0:∀ns ds,(d2 _ (ag cY (ae (dC (.int 0)) aq)) (af 3)) (O ns ds)=Qs (.nw (((aE M).map _).map _)):=λns ds=>by rw[<-Kx];exact Kw rfl rfl hM
 have ep:∀ns ds,(jL 1 [] (km (af 3)) _ _ (ag cY (ae (af 0) aq))) (O ns ds)=Qs _:=λns ds=>by unfold jL;rw[CQ rfl (by lia)];show(if((aE M).map _).length<=50000 then(fI _ _ _ _ [.no]).map _ else Qn)=_;rw[V4 (by rw[RE,fO];lia),AL _ _ λx _=>⟨_,rfl,rfl⟩];rfl
 have eo:∀ns ds,(jd (ae (af 3) _)) (O ns ds)=Qs (.nw (((aE M).map id).map _)):=λns ds=>by rw[XJ];exact uA rfl (by lia)
 have fi:∀l,lD (.nw _)=Qs (iL l):=λl=>by show(if Wv _ then Qs _ else Qn)=_;rw[Xp];rfl
 show(ve C [.dp _,W,V,.no,.no]).bind _=_;have:=(aG E0).trans ((aG (kq (x:= "ties") rfl (e1 _ _) (by
  show(if Wv _ then Qs _ else Qn)=_;rw[Aj];rfl) (by rfl) (by simp))).trans ((aG (kq (x:= "weights") rfl (e2 _ _) (fi _) (by rfl) (by decide))).trans ((aG (kq (x:= "parts") (fe:=dC (.int 1)) rfl rfl rfl (by rfl) (by decide))).trans ((aG (kq (x:= "taken") (fe:=ag cY aq) rfl rfl rfl (by rfl) (by decide))).trans ((aG (kq (x:= "points") rfl (ep _ _) rfl (by rfl) (by decide))).trans ((aG (kq (x:= "widths") rfl (z0 _ _) (fi _) (by rfl) (by decide))).trans ((aG (kq (x:= "paid") rfl (z0 _ _) (fi _) (by rfl) (by decide))).trans ((aG (kq (x:= "around") rfl (z0 _ _) (fi _) (by rfl) (by decide))).trans (kq (x:= "piece_of") rfl (eo _ _) (fi _) (by rfl) (by decide))))))))))
 rw[show ve C [.dp (.obj C [] []),W,V,.no,.no]=_ from this];rfl
def bg(a b:Int):Int×Int:=(((a.toNat/S6 a.toNat b.toNat:Nat):Int),((b.toNat/S6 a.toNat b.toNat:Nat):Int))
def aO(m:Ql Int×(Int×Int)):D:=.tup [aV m.1,pD m.2]
def ic(S:PS):Ql Int:=(aE S.n).filter λp=>decide (0<S.wd p)
def p9(S:PS):Ql (Ql Int×(Int×Int)):=Yg ((ic S).map λp=>(S.pt p,bg (S.wd p) S.pa))
def PU(a0:0<=a)(b0:0<b)(h:b<(DL.Wq:Int)):lU [.int a,.int b]=Qs (.cl (pD (bg a b))):=by have:=PJ a.toNat b.toNat (by lia) (by lia);rw[SG a0,SG (Sd b0)]at this;assumption
theorem Ey:∀(l:Ql Int) (f:Int->Ql Int) (g:Int->Int×Int),kd (l.map λp=>aO (f p,g p))=Qs (l.map λp=>(f p,aO (f p,g p)))
 |[],_,_=>rfl
 |p::l,f,g=>by rw[RK];unfold kd;rw[(Ey l f g)];show(dX _).bind _=_;rw[zN];rfl
theorem B7:∀(l:Ql Int) (f:Int->Ql Int) (g:Int->D),l.Nodup->(∀p∈l,∀q∈l,f p=f q->p=q)->nJ (l.map λp=>(f p,g p))=Qt
 |[],_,_,_,_=>rfl
 |p::l,f,g,nd,h=>by
  rw[RK];unfold nJ;rw[RJ];refine⟨SW.mpr λy hy=>?_,B7 l f g (RQ.mp nd).2 λa ha b hb=>h a (Rx _ ha) b (Rx _ hb)⟩
  grind
def J2(l:Ql Int)(f:Int->Ql Int)(g:Int->Int×Int):(Yg (l.map λp=>(f p,aO (f p,g p)))).map (·.2)=(Yg (l.map λp=>(f p,g p))).map aO:=by
 let L:=l.map λp=>(f p,(f p,g p))
 have h1:=pI (λm=>aO m) L;have h2:=pI (λm=>m.2) L;have e1:(L.map λw=>(w.1,aO w.2))=l.map λp=>(f p,aO (f p,g p)):=by rw[R6];rfl
 have e2:(L.map λw=>(w.1,w.2.2))=l.map λp=>(f p,g p):=by rw[R6];rfl
 rw[e1]at h1;rw[e2]at h2;rw[h1,h2,R6,R6];refine SF λw hw=>?_;have:=(ZX L).mem_iff.mp hw;obtain⟨p,_,rfl⟩:=RU.mp this;rfl
def NQ(hO:Ok M e w nt S)(hn:S.n<64)(hB:B<=DL.Wq)(hS:Sm M S B):jh C [oD C M ts wl S]=Qs (.dn (.lst ((p9 S).map aO))):=by
 let O:Sl:=.val (oD C M ts wl S)
 let t0:=[O,.no]
 obtain⟨q,eq,dq⟩:=yX (f:=af 0) (t:=t0) rfl rfl;let t1:=[O,.own ((ic S).map D.int)]
 have wr:∀p∈ic S,0<=p/\p<S.n:=λp hp=>dy (RY.mp hp).1;have e2:(jL 1 [0] (bA av) bo aZ (jJ (eR (eQ (ag fZ (ae (d2 ao (d1 (aP C "points") av) ah) aq))) (eR (eQ (ag (aH lU) (ae (d2 ao (d1 (aP C "widths") av) ah) (ae (d1 (aP C "parts") av) aq)))) kb)))) t1=Qs (.dn (.lst ((ic S).map λp=>aO (S.pt p,bg (S.wd p) S.pa)))):=by
  show(if((ic S).map _).length<=50000 then(fI _ _ _ _ [.no,O]).map _ else Qn)=_;have wl':(ic S).length<=S.n:=by
   have:=Tx (λp=>decide (0<S.wd p)) (aE S.n)
   rwa [fO]at this
  rw[V4 (by rw[RE];lia),(AL _ _ (λp hp=>by
   obtain⟨p0,p1⟩:=wr p hp;let t:=[.val (.int p),O]
   have o1:af 1 t=Qs _:=rfl;obtain⟨q1,a1,b1⟩:=D9 o1 rfl;obtain⟨r1,a2,b2⟩:=Bo a1 (rfl:af 0 t=Qs _) b1 rfl p0 p1;obtain⟨q3,a3,b3⟩:=yX o1 rfl;refine⟨.dn _,?_,rfl⟩;have n1:(eQ (ag fZ (ae (d2 ao (d1 (aP C "points") av) ah) aq))) t=Qs (aV (S.pt p),[]):=by unfold eQ;rw[(oy a2 b2)];show(if Wv _ then Qs _ else Qn).map _=_;rw[Xp];rfl
   have n2:(eQ (ag (aH lU) (ae (d2 ao (d1 (aP C "widths") av) ah) (ae (d1 (aP C "parts") av) aq)))) t=Qs (pD (bg (S.wd p) S.pa),[]):=by unfold eQ;rw[((dm (jP a3 rfl b3 rfl p0 p1) (Eb o1 rfl)).trans (di (PU (hS.wd p p0 p1).1 hO.Xl (by have:=hS.pa;lia)) rfl))];rfl
   have n3:(eR (eQ (ag fZ (ae (d2 ao (d1 (aP C "points") av) ah) aq))) (eR (eQ (ag (aH lU) (ae (d2 ao (d1 (aP C "widths") av) ah) (ae (d1 (aP C "parts") av) aq)))) kb)) t=Qs ([aV (S.pt p),pD (bg (S.wd p) S.pa)],[]):=by unfold eR;rw[n1];rw[n2];rfl
   show((eR _ _) t).bind _=_;rw[n3];rfl))]
  rfl
 have e3:(ag uL (ae (jL 1 [0] (bA av) bo aZ (jJ (eR (eQ (ag fZ (ae (d2 ao (d1 (aP C "points") av) ah) aq))) (eR (eQ (ag (aH lU) (ae (d2 ao (d1 (aP C "widths") av) ah) (ae (d1 (aP C "parts") av) aq)))) kb)))) aq)) t1=Qs (.dn (.lst ((p9 S).map aO))):=by
  rw[fA e2];show(kd _).bind _=_;rw[Ey];simp only[RF];rw[(B7 (ic S) _ _ ((Er _).sublist List.filter_sublist) λp hp q hq z=>hO.dis p q (wr p hp).1 (wr p hp).2 (wr q hq).1 (wr q hq).2 z)];have wl':(ic S).length<=S.n:=by
   have:=Tx (λp=>decide (0<S.wd p)) (aE S.n)
   rwa [fO]at this
  rw[Ww (by rw[RE];lia)];unfold p9;show Qs _=_;rw[J2]
 show(Ad C t0).bind _=_;exact Wq ((aG (gO (by
  have em:mO (d1 (aP C "widths") ah) t0=Qs (q.ok,fz 0 (((Uy 0 S.n).map λ(i:Nat)=>(S.wd i)).map D.int)):=by unfold mO;rw[eq];simp only[RF];rw[dq];show Qs _=_;rw[uw,R6,R6,R6];rfl
  unfold aM;rw[em];show(if(fz 0 _).length<=50000 then(bJ _ _ _ _ [.no,.no]).bind _ else Qn)=_;rw[V4 (by rw[mR];simp;lia)];have cc':bJ (bq 2 dF) (aD (d2 qG av aU)) ah (fz 0 (((Uy 0 S.n).map λ(i:Nat)=>(S.wd i)).map D.int)) [.no,.no]=Qs ((ic S).map D.int):=by unfold ic;rw[uw];have:=(AH (p:=λa=>decide (0<S.wd a)) (f:=id) (ft:=(aD (d2 _ av (dC _)))) (fe:=af 0) (c:=[]) S.n 0 .no .no λi hi=>⟨qW rfl rfl,λ_=>rfl⟩);rw[XJ]at this;assumption
  rw[cc'];simp only[RF,Xp,Td,if_true]) (by simp[t0]))).trans (fg e3))
def g6(f:Int->Int):Nat->Ql Eg->Qo Nat
 |_,[]=>Qn
 |i,w::ws=>if f w.1=f w.2 then g6 f (i+1) ws else Qs i
theorem zdq:∀{ws:Ql Eg}{i:Nat},g6 f i ws=Qn↔∀w∈ws,f w.1=f w.2
 |[],i=>by simp[g6]
 |w::ws,i=>by
  unfold g6;split
  .rename_i h;rw[zdq];simp[h]
  .rename_i h;simp[h]
def je(M:Nat)(ws:Ql Eg):Prop:=∀w∈ws,(0<=w.1/\w.1<(M:Int))/\0<=w.2/\w.2<(M:Int)
def D3:Qo Nat->D
 |some i=>.int (i:Int)
 |none=>.Wj
def PZ(o:Qo Nat):flat (D3 o)=Qt:=by cases o<;>rfl
def yS(hM:M<=1000)(hw:Yi M ts)(hW:je M ws)(hL:∀l∈L,0<=l/\l<(ts.length:Int)):jg [wD M ts,.lst (ws.map pD),iL L]=Qs (.cl (D3 (g6 (ll (eV ts L)) 0 ws))):=by
 let f:=ll (eV ts L)
 let W:Sl:=.val (wD M ts)
 let V:Sl:=.val (.lst (ws.map pD))
 let N:Sl:=.val (iL L)
 let t0:Th:=[W,V,N,.no,.no,.no,.no]
 have e1:(ag (aH sG) (ae ah gm)) t0=Qs (.nw (((aE M).map f).map D.int)):=by rw[dm rfl rfl];exact oY (Oj hM hw hL)
 have E1:=gO (i:=3) e1 (by simp[t0]);let F:Sl:=.own (((aE M).map f).map D.int)
 let bd:DS:=(bO (aD (d2 bV (d2 ao bw cK) (d2 ao bw c9))) (g8 4) cw)
 let kk:D->Th->Qo Th:=(bq 2 (cI jl (cI (bq 2 (cI l5 (cI kH gc))) gc)))
 have loop:∀(vs:Ql Eg) (i:Nat) (s4 s5 s6:Sl),je M vs->(match g6 f i vs with
   |some j=>bY kk bd (fz i (vs.map pD)) [W,V,N,F,s4,s5,s6]=Qs (.rt (.cl (.int (j:Int))))
   |none=>∃u4 u5 u6,bY kk bd (fz i (vs.map pD)) [W,V,N,F,s4,s5,s6]=Qs (.nx [W,V,N,F,u4,u5,u6])):=by
  intro vs
  induction vs with
  |nil=>exact λi s4 s5 s6 _=>⟨s4,s5,s6,rfl⟩
  |cons w vs ih=>
   intro i s4 s5 s6 h;obtain⟨⟨a0,a1⟩,b0,b1⟩:=h w (Rz ..);let t:=[W,V,N,F,.val (.int i),.val (.int w.1),.val (.int w.2)]
   have q1:=jP (fa:=af 3) (fb:=af 5) (t:=t) rfl rfl rfl rfl a0 a1;have q2:=jP (fa:=af 3) (fb:=af 6) (t:=t) rfl rfl rfl rfl b0 b1;have c:=uu q1 q2;unfold g6;by_cases z:f w.1=f w.2
   .rw[V4 z];have:=ih (i+1) (.val (.int i)) (.val (.int w.1)) (.val (.int w.2)) λx hx=>h x (Rx _ hx);have st:=gA (k:=kk) (ds:=fz (i+1) (vs.map pD)) (d:=.tup [.int i,pD w]) (t:=[W,V,N,F,s4,s5,s6]) rfl (dQ (g:=g8 4) c (by lia));cases y:g6 f _ _ with
    |some j=>rw[y]at this;exact st.trans this
    |none=>rw[y]at this;obtain⟨u4,u5,u6,e⟩:=this;exact⟨u4,u5,u6,st.trans e⟩
   .rw[Wh z];exact GQ rfl ((jF c (by lia)).trans rfl)
 have lp:=loop ws 0 .no .no .no hW;have eg:jg [wD M ts,.lst (ws.map pD),iL L]=(aB (aW 3 (ag (aH sG) (ae ah gm))) (aB (oW kk av bd) (bW jm)) t0).bind iq:=rfl;rw[eg];have ee:oW kk av bd [W,V,N,F,.no,.no,.no]=bY kk bd (fz 0 (ws.map pD)) [W,V,N,F,.no,.no,.no]:=rfl;have ef:ll (eV ts L)=f:=rfl;rw[ef];cases z:g6 f 0 ws with
 |some j=>rw[z]at lp;exact Wq ((aG E1).trans (xh (ee.trans lp)))
 |none=>rw[z]at lp;obtain⟨u4,u5,u6,e⟩:=lp;exact Wq ((aG E1).trans ((aG (ee.trans e)).trans rfl))
def dT(G:Ql Int):D:=.WR (G.map kN) (G.map jo)
theorem Cf:∀G:Ql Int,jV (G.map kN) (G.map jo)=Qs G
 |[]=>rfl
 |k::G=>by show(jV _ _).map _=_;rw[Cf G];rfl
def J9:∀G:Ql Int,(G.map jo).all bz=Qt:=λG=>SW.mpr λd hd=>by obtain⟨_,_,rfl⟩:=RU.mp hd;rfl
def G4(h:t[i]?=Qs (.dp (dT G)))(hk:fk t=Qs (.cl (.int x)))(hl:G.length<100000):rR i fk jS t=Qs (.nx (t.set i (.dp (dT (d9 G x))))):=by
 have e0:rR i fk jS t=qJ t i (.cl (.bl Qt)) (.cl (.int x)):=by unfold rR;rw[hk];rfl
 rw[e0];unfold qJ;rw[h];have ek:oC (Ev.cl (D.int x)).d=Qs (kN x):=rfl;rw[ek];unfold dT;dsimp only;rw[V4 (by
  rw[J9,RE,Ww hl];rfl)]
 have b:(Ev.cl _).d=.bl Qt:=rfl;rw[b,Dk]
def yn(G:Ql Int)(x:Int):(d9 G x).length<=G.length+1:=by unfold d9;split<;>simp
def BZ(hW:je M ws)(hl:ws.length<=1000){r:Ev}:lN C [oD C M ts wl S,.lst (ws.map pD)]=Qs (.dn (dT (bF S ws))):=by
 let O:Sl:=.val (oD C M ts wl S)
 let V:Sl:=.val (.lst (ws.map pD))
 let T G s3 s4 s5 s6:=[O,V,.dp (dT G),s3,s4,s5,s6]
 let kk:=(bq 2 pf)
 let bd:=(aB (jI 5 6 (ae (d2 ao (d1 (aP C "piece_of") ah) bw) (ae (d2 ao (d1 (aP C "piece_of") ah) bh) aq))) (bO (aD (d2 bV cK c9)) (vK (iJ 2 cK) (iJ 2 c9) jS) cw))
 have turn:∀G (w:Eg) s5 s6,G.length<90000->(0<=w.1/\w.1<M)->(0<=w.2/\w.2<M)->∃u5 u6,bd _=Qs (.nx (T (iy S G w) _ _ u5 u6)):=λG w s5 s6 hG ha hb=>by
  let t:=T G (.val (.int w.1)) (.val (.int w.2)) s5 s6
  obtain⟨q,eq,dq⟩:=Ea (f:=af 0) (t:=t) rfl rfl;have k1:=jP eq (rfl:af 3 t=Qs _) dq rfl ha.1 ha.2;have k2:=jP eq (rfl:af 4 t=Qs _) dq rfl hb.1 hb.2;let t2:=T G (.val (.int w.1)) (.val (.int w.2)) (.val (.int (S.po w.1))) (.val (.int (S.po w.2)))
  have E1:(jI 5 6 (ae (d2 ao (d1 (aP C "piece_of") ah) bw) (ae (d2 ao (d1 (aP C "piece_of") ah) bh) aq))) t=Qs (.nx t2):=by unfold jI;rw[vL k1 (vL k2 rfl)];rfl
  have c:=uu (fa:=af 5) (fb:=af 6) (t:=t2) rfl rfl;refine⟨.val (.int (S.po w.1)),.val (.int (S.po w.2)),?_⟩;unfold iy;by_cases z:S.po w.1=S.po w.2
  .rw[V4 z];exact(aG E1).trans (dQ c (by lia))
  .rw[Wh z];let t3:=T (d9 G (S.po w.1)) (.val (.int w.1)) (.val (.int w.2)) (.val (.int (S.po w.1))) (.val (.int (S.po w.2)))
   have ln:=yn G (S.po w.1);exact(aG E1).trans ((jF c (by lia)).trans (by
    show(if bz (D.bl Qt) then(iJ 2 _ (.bl _) _).bind _ else Qn)=_;have h1:iJ 2 cK (.bl Qt) t2=Qs t3:=by unfold iJ;rw[(G4 rfl rfl (by lia))];rfl
    have h2:iJ 2 c9 (.bl Qt) t3=Qs (T (d9 (d9 G (S.po w.1)) (S.po w.2)) (.val (.int w.1)) (.val (.int w.2)) (.val (.int (S.po w.1))) (.val (.int (S.po w.2)))):=by unfold iJ;rw[(G4 rfl rfl (by lia))];rfl
    rw[h1];show Option.map _ (iJ 2 _ (D.bl _) _)=_;rw[h2];rfl))
 have loop:∀(vs:Ql Eg) (G:Ql Int) (s3 s4 s5 s6:Sl),G.length+2*vs.length<80000->je M vs->∃u3 u4 u5 u6,bY kk bd (vs.map pD) (T G s3 s4 s5 s6)=Qs (.nx (T (vs.foldl (iy S) G) u3 u4 u5 u6)):=by
  intro vs
  induction vs with
  |nil=>exact λG s3 s4 s5 s6 _ _=>⟨s3,s4,s5,s6,rfl⟩
  |cons w vs ih=>
   intro G s3 s4 s5 s6 hG h;have YR:=h w (Rz ..);simp at hG;obtain⟨u5,u6,e⟩:=turn G w _ _ (by lia) YR.1 YR.2;have gl:(iy S G w).length<=G.length+2:=by
    unfold iy;split
    .lia
    .have a:(kF G (S.po w.1)).length<=G.length+1:=yn G _;have b:(kF _ (S.po w.2)).length<=(kF G (S.po w.1)).length+1:=yn _ _;lia
   obtain⟨a,b,c,d,e2⟩:=ih (iy S G w) _ _ _ _ (by lia) λx hx=>h x (Rx _ hx);exact⟨a,b,c,d,(gA rfl e).trans e2⟩
 obtain⟨a,b,c,d,e⟩:=loop ws [] .no .no .no .no (by simp;lia) hW;have E0:aW 2 vB [O,V,.no,.no,.no,.no,.no]=Qs (.nx (T [] .no .no .no .no)):=rfl;have E1:fH kk av bd (T [] .no .no .no .no)=Qs (.nx (T (bF S ws) a b c d)):=(rL (r:=.cl (.lst (ws.map pD))) rfl rfl rfl).trans e;show(aB (aW 2 vB) (aB (fH kk av bd) (g8 2)) [O,V,.no,.no,.no,.no,.no]).bind iq=_;exact Wq ((aG E0).trans ((aG E1).trans rfl))
def iZ(e:Int->Eg)(ws:Ql Eg)(L:Ql Int):Bool:=(ws.all λw=>decide (ll (L.map e) w.1=ll (L.map e) w.2))
def gy(e:Int->Eg)(ws:Ql Eg)(K:Ql Int)(a:Int):Ql Int:=if iZ e ws (K.filter λx=>!decide (x=a)) then K.filter λx=>!decide (x=a) else K
def y7(e:Int->Eg)(ws:Ql Eg)(tk:Ql Int):Ql Int:=e9 (tk.reverse.foldl (gy e ws) tk)
theorem Ek:∀{as K:Ql Int}{x:Int},x∈as.foldl (gy e ws) K->x∈K
 |[],K,x,h=>h
 |a::as,K,x,h=>by
  have:=Ek (as:=as) h;unfold gy at this;split at this
  .exact(RY.mp this).1
  assumption
theorem y6:∀{as K:Ql Int},(as.foldl (gy e ws) K).length<=K.length
 |[],K=>RL _
 |a::as,K=>by
  refine SH (y6 (as:=as)) ?_;unfold gy;split
  .exact Tx ..
  simp
def zfQ:iZ e ws L=Qt↔g6 (ll (L.map e)) 0 ws=Qn:=by rw[zdq];unfold iZ;simp
def NH(hM:M<=1000)(hw:Yi M ts)(hW:je M ws)(ht:∀l∈tk,0<=l/\l<(ts.length:Int))(hk:tk.length<64){r:Ev}:jQ [wD M ts,.lst (ws.map pD),iL tk]=Qs (.nw ((y7 (aC ts) ws tk).map D.int)):=by
 let W:Sl:=.val (wD M ts)
 let V:Sl:=.val (.lst (ws.map pD))
 let N:Sl:=.val (iL tk)
 let bd:DS:=(aB (aW 5 (aM 1 [4] (bA bw) bo (aD (d2 bV ah av)) ah)) (bO (aD (d2 mB (ag (aH jg) (ae ah (ae av iu))) jm)) (rQ 5 (aW 3 cK)) cw))
 have turn:∀(K:Ql Int) (a:Int) (k3 s5:Sl),(k3=.own (K.map D.int)\/k3=.val (iL K))->K.length<=1000->(∀l∈K,0<=l/\l<(ts.length:Int))->∃Zo u5,(Zo=.own ((gy (aC ts) ws K a).map D.int)\/Zo=.val (iL (gy (aC ts) ws K a)))/\bd [W,V,N,k3,.val (.int a),s5]=Qs (.nx [W,V,N,Zo,.val (.int a),u5]):=λK a k3 s5 h3 hK hr=>by
  let t:=[W,V,N,k3,.val (.int a),s5]
  let K2:=K.filter λx=>!decide (x=a)
  obtain⟨r3,e3,d3⟩:∃r,af 3 t=Qs r/\r.d=iL K:=by
   rcases h3 with z|z<;>subst z
   .exact⟨_,rfl,rfl⟩
   .exact⟨_,rfl,rfl⟩
  have E1:=gO (i:=5) (ku (fe:=af 0) (cap:=[4]) e3 d3 rfl (by lia) (λx _=>uu (fa:=af 0) (fb:=af 1) rfl rfl) (λx _ _=>⟨_,rfl,rfl⟩) (.inl (Xp _))) (by simp[t]);let t1:=[W,V,N,k3,.val (.int a),.own (K2.map D.int)]
  have cc:aD (d2 mB (ag (aH jg) (ae ah (ae av iu))) jm) t1=Qs (iZ (aC ts) ws K2):=by
   unfold aD;rw[cg (by
   rw[jq rfl rfl rfl];exact di (yS hM hw hW (λl hl=>hr l (RY.mp hl).1)) (PZ _)) rfl]
   cases z:g6 _ 0 _ with
   |none=>rw[zfQ.mpr z];rfl
   |some j=>
    have:iZ (aC ts) ws K2=Qf:=VS.mpr λk=>by have k2:g6 (ll (eV _ _)) 0 _=Qn:=zfQ.mp k;lia
    rw[this];rfl
  unfold gy;cases z:iZ (aC ts) ws K2 with
  |true=>rw[z]at cc;refine⟨_,.val (iL K2),.inr rfl,(aG E1).trans ((jF cc rfl).trans ?_)⟩;rfl
  |false=>rw[z]at cc;exact⟨k3,_,h3,(aG E1).trans (dQ cc rfl)⟩
 have loop:∀(as K:Ql Int) (k3 s4 s5:Sl),(k3=.own (K.map D.int)\/k3=.val (iL K))->K.length<=1000->(∀l∈K,0<=l/\l<(ts.length:Int))->∃Zo u4 u5,(Zo=.own ((as.foldl (gy (aC ts) ws) K).map D.int)\/Zo=.val (iL (as.foldl (gy (aC ts) ws) K)))/\bY jl bd (as.map D.int) [W,V,N,k3,s4,s5]=Qs (.nx [W,V,N,Zo,u4,u5]):=by
  intro as
  induction as with
  |nil=>exact λK k3 s4 s5 h3 _ _=>⟨k3,s4,s5,h3,rfl⟩
  |cons a as ih=>intro K k3 s4 s5 h3 hK hr;obtain⟨Zo,u5,h3',e⟩:=turn K a k3 s5 h3 hK hr;have sub:∀x∈gy (aC ts) ws K a,x∈K:=λx hx=>Ek (as:=[a]) hx;have ln:(gy (aC ts) ws K a).length<=K.length:=y6 (as:=[a]) (K:=K);obtain⟨zi6,u4,u5',zkm,e2⟩:=ih (gy (aC ts) ws K a) Zo (.val (.int a)) u5 h3' (by lia) λl hl=>hr l (sub l hl);exact⟨zi6,u4,u5',zkm,(gA (k:=cG 4) (d:=.int a) (t1:=[W,V,N,k3,.val (.int a),s5]) rfl e).trans e2⟩
 have E0:=gO (i:=3) (oy (f:=af 2) (t:=[W,V,N,.no,.no,.no]) (r:=.cl (iL tk)) (xs:=tk) rfl rfl) (by simp);obtain⟨Zo,u4,u5,h3,e⟩:=loop tk.reverse tk (.own (tk.map D.int)) .no .no (.inl rfl) (by lia) ht;have er:(d1 mw aK) [W,V,N,.own (tk.map D.int),.no,.no]=Qs (.nw (tk.reverse.map D.int)):=by show(if(Ev.cl (iL tk)).ok||Wv (tk.map D.int) then Qs (Ev.nw (tk.map D.int).reverse) else Qn)=_;rw[Xp,Td,V4 (by rfl),List.map_reverse]
 have E1:fH jl (d1 mw aK) bd [W,V,N,.own (tk.map D.int),.no,.no]=Qs (.nx [W,V,N,Zo,u4,u5]):=(rL er rfl rfl).trans e;have ln:=y6 (e:=aC ts) (ws:=ws) (as:=tk.reverse) (K:=tk);have e2:(ag iI gQ) [W,V,N,Zo,u4,u5]=Qs (.nw ((y7 (aC ts) ws tk).map D.int)):=by
  rcases h3 with z|z<;>subst z
  .exact nO (r:=.tm (iL (tk.reverse.foldl (gy (aC ts) ws) tk))) rfl rfl (by lia)
  .exact nO (r:=.cl (iL (tk.reverse.foldl (gy (aC ts) ws) tk))) rfl rfl (by lia)
 show(aB _ (aB (fH jl (d1 mw aK) bd) (bW (ag iI gQ))) [W,V,N,.no,.no,.no]).bind iq=_;exact Wq ((aG E0).trans ((aG E1).trans (fg e2)))
def rE(o:Qo Int):Nat:=match o with
 |none=>1
 |some _=>0
def ms(M:Nat)(e:Int->Eg)(w:Int->Int)(nt:Nat)(ws:Ql Eg)(S:PS):Nat:=2*mu M S+rE (fQ S e w (bc (bF S ws)) nt)
structure Run(M:Nat)(e:Int->Eg)(w:Int->Int)(nt:Nat)(ws:List Eg)(S:PS):Prop where
 ok:Ok M e w nt S
 Xq:S.tk.length+mu M S<=mu M (PS.new M)
def Run.step(h:Run M e w nt ws S)(hE:eM M e nt)(hw:∀w∈ws,Eqv (gi e nt) w.1 w.2)(hn:bF S ws≠[]):Run M e w nt ws (cJ e w nt ws S)/\ms M e w nt ws (cJ e w nt ws S)<ms M e w nt ws S:=by
 cases hf:fQ S e w _ _ with
 |none=>
  have es:cJ e w nt ws S=Z1 S e w (bc (bF S ws)) nt:=by unfold cJ;rw[hf];rfl
  rw[es];refine⟨⟨h.ok.Z1,h.Xq⟩,?_⟩;unfold ms;rw[hf];cases z:fQ _ e w _ _ with
  |none=>exact absurd z (PF (rM h.ok hE hw hn))
  |some a=>show 2*mu M S+0<2*mu M S+1;lia
 |some a=>
  have es:cJ e w nt ws S=WX S e a:=by unfold cJ;rw[hf]
  rw[es];obtain⟨⟨a0,a1⟩,b,_⟩:=rD hf;have ne:=vQ b;have m:=NM h.ok hE a0 a1 ne;refine⟨⟨h.ok.WX hE a0 a1 ne,?_⟩,?_⟩
  .show(S.tk++[a]).length+mu M _<=_;rw[SD,Tf];have:=h.Xq;lia
  .unfold ms;have:rE (fQ (WX S e a) e w (bc (bF (WX S e a) ws)) nt)<=1:=by unfold rE;split<;>lia
   lia
theorem nS(hE:eM M e nt)(hw:∀w∈ws,Eqv (gi e nt) w.1 w.2):∀(n:Nat) (S:PS),Run M e w nt ws S->ms M e w nt ws S<n->bF (dG e w nt ws n S) ws=[]/\Run M e w nt ws (dG e w nt ws n S)
 |0,S,_,h=>by lia
 |n+1,S,r,h=>by
  unfold dG;by_cases z:bF S ws=[]
  .lia
  .rw[Wh z];obtain⟨r2,m2⟩:=r.step hE hw z;exact nS hE hw n _ r2 (by lia)
def pY(hM:M<=9):ms M e w nt ws (PS.new M)<=73/\mu M (PS.new M)<=36:=by
 have h1:mu M (PS.new M)<=36:=SH (Tx _ _) (Ly M hM);have:rE (fQ (PS.new M) e w (bc (bF (PS.new M) ws)) nt)<=1:=by unfold rE;split<;>lia
 unfold ms;lia
theorem Run.new{nt:Nat}(hw:∀a,0<=a->a<(nt:Int)->0<=w a):Run M e w nt ws (PS.new M):=⟨Ok.new hw,by show 0+_<=_;lia⟩
structure Bd(M:Nat)(W k:Nat)(S:PS):Prop where
 pa:0<S.pa/\S.pa<=(2^k:Nat)
 wd:∀p,0<=p->p<(S.n:Int)->0<=S.wd p/\S.wd p<=(8^k*W:Nat)
 pd:∀p,0<=p->p<(S.n:Int)->0<=S.pd p/\S.pd p<=(8^k*W:Nat)
 ar:∀v,0<=v->v<(M:Int)->0<=S.ar v/\S.ar v<=(8^k*W:Nat)
theorem Bd.new:Bd M W 0 (PS.new M) where
 pa:=⟨by show 0<1;decide,by show 1<=1;decide⟩
 wd:=λp _ _=>⟨Tq _,by show 0<=_;lia⟩
 pd:=λp _ _=>⟨Tq _,by show 0<=_;lia⟩
 ar:=λp _ _=>⟨Tq _,by show 0<=_;lia⟩
def tZ(k W:Nat):8^(k+1)*W=8*(8^k*W):=by rw[Nat.pow_succ,U3 _ 8,WQ]
theorem Bd.W4(h:Bd M W k S):(0<(W4 S).pa/\(W4 S).pa<=(2^(k+1):Nat))/\(∀p,0<=p->p<(S.n:Int)->0<=(W4 S).wd p/\(W4 S).wd p<=2*(8^k*W:Nat))/\(∀p,0<=p->p<(S.n:Int)->0<=(W4 S).pd p/\(W4 S).pd p<=2*(8^k*W:Nat))/\(∀v,0<=v->v<(M:Int)->0<=(W4 S).ar v/\(W4 S).ar v<=2*(8^k*W:Nat)):=by
 refine⟨⟨?_,?_⟩,λp p0 p1=>?_,λp p0 p1=>?_,λp p0 p1=>?_⟩
 .show 0<S.pa*2;have:=h.pa;lia
 .show S.pa*2<=((2^(k+1):Nat));have:=h.pa;lia
 .show 0<=2*S.wd p/\2*S.wd p<=_;have:=h.wd p p0 p1;lia
 .show 0<=2*S.pd p/\2*S.pd p<=_;have:=h.pd p p0 p1;lia
 .show 0<=2*S.ar p/\2*S.ar p<=_;have:=h.ar p p0 p1;lia
def JW{M W k:Nat}{e:Int->Eg}{w:Int->Int}{S:PS}(hb:Bd M W k S)(hE:eM M e nt)(hw:∀a,0<=a->a<(nt:Int)->0<=w a/\w a<=(W:Int)){g:Int->Bool}(ZK:∃a,(0<=a/\a<(nt:Int))/\0<bG S e g a)(hf:fQ S e w g nt=Qn):0<gn S e w g nt/\gn S e w g nt<=2*(8^k*W:Nat):=by
 have p:=wY ZK hf;obtain⟨a,ra,b⟩:=ZK;have le:=CC (S:=S) (e:=e) (w:=w) (g:=g) ra.1 ra.2 b;have bb:=oZ S e g a;obtain⟨⟨x0,x1⟩,y0,y1⟩:=hE a ra.1 ra.2;have ax:=hb.ar _ x0 x1;have ay:=hb.ar _ y0 y1;have hwa:=hw a ra.1 ra.2;have m1:w a*S.pa<=(W:Int)*(2^k:Nat):=Xd (Sz hwa.2 (Sd hb.pa.1)) (Tj hb.pa.2 (by lia));have m2:(W:Int)*(2^k:Nat)<=(8^k*W:Nat):=by
  have:2^k<=8^k:=VC (by decide) k;have:=UH W this;rw[Xh];have e:((2^k:Nat):Int)*(W:Int)=((2^k*W:Nat):Int):=by push_cast;rfl
  rw[e];lia
 have l:Xm S e w a<=(8^k*W:Nat):=by unfold Xm;lia
 refine⟨p,?_⟩;have:gn S e w g nt<=bG S e g a*gn S e w g nt:=by have:=Sz (show 1<=bG S e g a by lia) (Sd p);lia
 lia
def Bd.step(hb:Bd M W k S)(hr:Run M e w nt ws S)(hE:eM M e nt)(hw:∀a,0<=a->a<(nt:Int)->0<=w a/\w a<=(W:Int))(hq:∀w∈ws,Eqv (gi e nt) w.1 w.2)(hn:bF S ws≠[]):Bd M W (k+1) (cJ e w nt ws S):=by
 have mono:(8^k*W)<=8^(k+1)*W:=by rw[tZ];lia
 cases hf:fQ S e w _ _ with
 |none=>
  have es:cJ e w nt ws S=Z1 S e w (bc (bF S ws)) nt:=by unfold cJ;rw[hf];rfl
  rw[es];have st:=JW hb hE hw (rM hr.ok hE hq hn) hf;obtain⟨hp,hwd,hpd,har⟩:=hb.W4;have one:∀(x:Int) (b:Bool),0<=x/\x<=2*(8^k*W)->0<=x+(if b then gn S e w (bc (bF S ws)) nt else 0)/\x+(if b then gn S e w (bc (bF S ws)) nt else 0)<=(8^(k+1)*W:Nat):=λx b h=>by rw[tZ];lia
  exact⟨hp,λp p0 p1=>one _ _ (hwd p p0 p1),λp p0 p1=>one _ _ (hpd p p0 p1),λv v0 v1=>one _ _ (har v v0 v1)⟩
 |some a=>
  have es:cJ e w nt ws S=WX S e a:=by unfold cJ;rw[hf]
  rw[es];obtain⟨⟨a0,a1⟩,b,_⟩:=rD hf;obtain⟨⟨x0,x1⟩,y0,y1⟩:=hE a a0 a1;have px:=hr.ok.Yd _ x0 x1;have py:=hr.ok.Yd _ y0 y1;refine⟨⟨hb.pa.1,?_⟩,λp p0 p1=>?_,λp p0 p1=>?_,λv v0 v1=>?_⟩
  .have:2^k<=2^(k+1):=S7 (by decide) (by lia);have:=hb.pa.2;show S.pa<=_;lia
  .have p1:p<((S.n+1):Int):=p1;show 0<=(if p=S.n then 0 else S.wd p)/\(if p=S.n then 0 else S.wd p)<=_;by_cases z:p=S.n
   .lia
   .have:=hb.wd p p0 (by lia);lia
  .have p1:p<((S.n+1):Int):=p1;show 0<=(if p=S.n then S.pd _+S.pd _ else S.pd p)/\(if p=S.n then S.pd _+S.pd _ else S.pd p)<=_;by_cases z:p=S.n
   .have h1:=hb.pd _ px.1 px.2;have h2:=hb.pd _ py.1 py.2;rw[tZ];lia
   .have:=hb.pd p p0 (by lia);lia
  .have:=hb.ar v v0 v1;show 0<=S.ar v/\S.ar v<=_;lia
def QV:8^210*10^30<DL.Wq:=by decide+kernel
def HR(hk:k<=210)(hW:W<=10^30):8^k*W<DL.Wq/\2^k<DL.Wq:=by have h1:8^k<=8^210:=S7 (by decide) hk;have:=QV;exact⟨Sr (VB h1 hW) this,Sr (SH (VC (by simp) k) (SH h1 (Nat.le_mul_of_pos_right _ (by simp)))) this⟩
def Bd.up(h:Bd M W i S)(hij:i<=j):Bd M W j S:=by
 have p1:2^i<=2^j:=S7 (by decide) hij;have p2:8^i*W<=8^j*W:=UH _ (S7 (by decide) hij);obtain⟨a,b,c,d⟩:=h;refine⟨⟨a.1,by lia⟩,λp p0 p1=>?_,λp p0 p1=>?_,λp p0 p1=>?_⟩
 .have:=b p p0 p1;lia
 .have:=c p p0 p1;lia
 .have:=d p p0 p1;lia
def Bd.sm(h:Bd M W k S)(hk:k<=200)(hW:W<=10^30):Sm M S DL.Wq/\Sm M (KX.W4 S) DL.Wq:=by
 have b1:=HR (k:=k) (W:=W) (by lia) hW;have b2:=HR (k:=k+1) (W:=W) (by lia) hW;rw[tZ]at b2;obtain⟨hp,hwd,hpd,har⟩:=h.W4;have q:=h.pa;generalize 8^k*W=N at b1 b2 hwd hpd har;refine⟨⟨by lia,λp p0 p1=>?_,λp p0 p1=>?_,λp p0 p1=>?_⟩,⟨by lia,λp p0 p1=>?_,λp p0 p1=>?_,λp p0 p1=>?_⟩⟩
 .have:=hwd p p0 p1;have e:(KX.W4 S).wd p=2*S.wd p:=rfl;lia
 .have:=hpd p p0 p1;have e:(KX.W4 S).pd p=2*S.pd p:=rfl;lia
 .have:=har p p0 p1;have e:(KX.W4 S).ar p=2*S.ar p:=rfl;lia
 .have:=hwd p p0 p1;lia
 .have:=hpd p p0 p1;lia
 .have:=har p p0 p1;lia
def NN{xs:Ql Int}(h:f t=Qs r)(hr:r.d=oD C M ts wl S)(hm:bI m Yl=Qn)(hg:ga t=Qs rs)(hG:G (oD C M ts wl S::rs.map Ev.d)=Qs (.nw (xs.map D.int))):cZ C m G f ga t=Qs (.nw (xs.map D.int)):=by unfold cZ;rw[h];simp;rw[hr];unfold oD;simp only[hm,and_self,if_true];rw[hg];refine oY ?_;rw[RK,hr];assumption
def NO(h:f t=Qs r)(hr:r.d=oD C M ts wl S)(hm:bI m Yl=Qn)(hg:ga t=Qs rs)(hG:G (oD C M ts wl S::rs.map Ev.d)=Qs (.dn d)):cZ C m G f ga t=Qs (.dn d):=by unfold cZ;rw[h];simp;rw[hr];unfold oD;simp only[hm,and_self,if_true];rw[hg];simp;unfold aH;rw[RK,hr];rw[hG];unfold jU;split<;>rfl
def zd(h:t[i]?=Qs (.dp (oD C M ts wl S)))(hm:bI m Yl=Qn)(hg:ga t=Qs rs)(hf:Wv (rs.map Ev.d)=Qt)(hG:G (oD C M ts wl S::rs.map Ev.d)=Qs (oD C M ts wl S')):jK i C m G ga t=Qs (.nx (t.set i (.dp (oD C M ts wl S')))):=by unfold jK;rw[hg];show oF t i C m G _=_;unfold oF;rw[h];unfold oD;simp only[hm,hf,and_self,if_true];have:G (.obj C _ _::rs.map _)=_:=hG;rw[this];rfl
def qZ(G:Ql Int)(s:Sl):Prop:=s=.dp (dT G)\/s=.val (.WB G)
def Jj(h:t[5]?=Qs s)(hs:qZ G s):mU (af 5) t=Qs (!G.isEmpty):=by
 unfold mU af;rw[h];rcases hs with z|z<;>subst z
 .cases G<;>rfl
 .rfl
def GO(h:t[5]?=Qs s)(hs:qZ G s):rP 5 g t=g (t.set 5 (.val (.WB G))):=by
 unfold rP;rw[h];rcases hs with z|z<;>subst z
 .unfold vE;rw[h];show(jV _ _).bind _=_;rw[Cf];rfl
 .show g t=_;congr 1;apply Us;intro i;rw[VR];by_cases e:5=i
  .grind
  .rw[Wh e]
def jf(hw:Yi M ts):eM M (aC ts) ts.length:=λa a0 a1=>by have:=hw.lt _ (nK a0 a1);lia
def IB{n:Nat}(hl:wl.length=n)(a0:0<=a)(a1:a<(n:Int)):bp wl a∈wl:=by
 unfold bp
 simp_all
structure XG(M:Nat)(ts:List (Int×Int))(wl:List Int)(ws:List Eg):Prop where
 Yr:Yi M ts
 Xq:M<=9/\ts.length<=1000/\ws.length<=1000
 zaA:wl.length=ts.length
 zdB:∀x∈wl,0<=x/\x<=(10^20:Nat)
 Zp:je M ws
 all:∀w∈ws,Eqv (gi (aC ts) ts.length) w.1 w.2
def XG.wt(J:XG M ts wl ws):∀a,0<=a->a<(ts.length:Int)->0<=bp wl a/\bp wl a<=((10^20:Nat):Int):=λa a0 a1=>J.zdB _ (IB J.zaA a0 a1)
def Jd(J:XG M ts wl ws)(hk:k<=200)(hr:Run M (aC ts) (bp wl) ts.length ws S)(hb:Bd M (10^20) k S)(hn:bF S ws≠[])(s0 s1 s3 s6:Sl)(hg:qZ (bF S ws) gs):∃gs' u6,qZ (bF (cJ (aC ts) (bp wl) ts.length ws S) ws) gs'/\vU C [s0,s1,.val (.lst (ws.map pD)),s3,.dp (oD C M ts wl S),gs,s6]=Qs (.nx [s0,s1,.val (.lst (ws.map pD)),s3,.dp (oD C M ts wl (cJ (aC ts) (bp wl) ts.length ws S)),gs',u6]):=by
 have mu0:=(pY (e:=aC ts) (w:=bp wl) (nt:=ts.length) (ws:=ws) J.Xq.1).2;have tkl:S.tk.length<=36:=by have:=hr.Xq;lia
 have Sn:S.n<=45:=by have:=hr.ok.nM;have:=J.Xq.1;lia
 obtain⟨sm1,sm2⟩:=hb.sm hk (by simp);have w30:∀x∈wl,0<=x/\x<10^30:=λx hx=>by have:=J.zdB x hx;lia
 let V:Sl:=.val (.lst (ws.map pD))
 let G:=bF S ws
 let t1:=[s0,s1,V,s3,.dp (oD C M ts wl S),.val (.WB G),s6]
 have ff:=pW (ga:=ae cK aq) (m:= "first_full") (f:=af 4) (t:=t1) rfl rfl (rfl) rfl (P2 J.Yr J.Xq.2.1 J.zaA w30 (RL _) hr.ok.Xl sm1) (by split<;>rfl);have hx:=rM hr.ok (jf J.Yr) J.all hn;cases hf:fQ S _ _ (bc G) ts.length with
 |none=>
  rw[hf]at ff;let t2:=[s0,s1,V,s3,.dp (oD C M ts wl S),.val (.WB G),.val .Wj]
  have es:cJ (aC ts) (bp wl) ts.length ws S=Z1 S (aC ts) (bp wl) (bc G) ts.length:=by unfold cJ;have:=hf;rw[this];rfl
  rw[es];let t3:=[s0,s1,V,s3,.dp (oD C M ts wl (W4 S)),.val (.WB G),.val .Wj]
  have okh:=hr.ok.W4;exact⟨_,_,.inr rfl,(aG (by
   rw[GO rfl hg];exact hX ff (by simp))).trans ((jF rfl rfl).trans ((aG (zd (t:=t2) rfl (by rfl) rfl rfl (Pl (by have:=J.Xq.1;lia) (by lia) (RL _) sm1))).trans (zd rfl (by rfl) (vL rfl (vL (P6 (NN rfl rfl (by rfl) rfl (JV J.Yr J.Xq.2.1 J.zaA w30 (RL _) okh.Xl sm2)) rfl (List.length_pos_iff.mpr ((wZ hx).1))) rfl)) rfl (Pp okh (Eo Sv) (λp hp=>by
   obtain⟨w',hw',_,q⟩:=zaX.mp hp;obtain⟨⟨a0,a1⟩,b0,b1⟩:=J.Zp _ hw';rcases q with z|z
   .exact⟨w'.1,a0,a1,z.symm⟩
   .exact⟨w'.2,b0,b1,z.symm⟩)))))⟩
 |some a=>
  rw[hf]at ff;obtain⟨⟨a0,a1⟩,b,_⟩:=rD hf;let t2:=[s0,s1,V,s3,.dp (oD C M ts wl S),.val (.WB G),.val (.int a)]
  have es:cJ (aC ts) (bp wl) ts.length ws S=WX S (aC ts) a:=by unfold cJ;have:=hf;rw[this]
  rw[es];let t3:=[s0,s1,V,s3,.dp (oD C M ts wl (WX S (aC ts) a)),.val (.WB G),.val (.int a)]
  have wt:(ag (aH (lN C)) (ae bh gm)) t3=Qs (.dn (dT (bF (WX S (aC ts) a) ws))):=by rw[dm rfl rfl];unfold aH;rw[show lN C ([Ev.tm (oD C M _ _ _),.cl _].map Ev.d)=_ from BZ J.Zp J.Xq.2.2 (r:=.nw [])];rfl
  have E3:=o4 (i:=5) wt (by simp[t3]);exact⟨_,_,.inl rfl,(aG (by
   rw[GO rfl hg];exact hX ff (by simp))).trans ((zT rfl rfl).trans ((aG (zd (t:=t2) rfl (by rfl) rfl rfl (K9 J.Yr (by have:=J.Xq.1;lia) (by lia) hr.ok (by lia) a0 a1))).trans E3))⟩
theorem EY(J:XG M ts wl ws)(s0 s1 s3:Sl):∀(n k:Nat) (S:PS) (gs s6:Sl),k+n<=200->Run M (aC ts) (bp wl) ts.length ws S->Bd M (10^20) k S->ms M (aC ts) (bp wl) ts.length ws S<n->qZ (bF S ws) gs->∃gs' u6,fL (mU cK) (vU C) n [s0,s1,.val (.lst (ws.map pD)),s3,.dp (oD C M ts wl S),gs,s6]=Qs (.nx [s0,s1,.val (.lst (ws.map pD)),s3,.dp (oD C M ts wl (dG (aC ts) (bp wl) ts.length ws n S)),gs',u6])/\Bd M (10^20) 200 (dG (aC ts) (bp wl) ts.length ws n S)
 |0,k,S,gs,s6,_,_,_,h,_=>by lia
 |n+1,k,S,gs,s6,hk,hr,hb,hm,hg=>by
  have tr:=Jj (t:=[s0,s1,.val (.lst (ws.map pD)),s3,.dp (oD C M ts wl S),gs,s6]) (s:=gs) rfl hg;unfold fL dG;rw[tr];by_cases z:bF S ws=[]
  .rw[z];refine⟨gs,s6,rfl,?_⟩;exact hb.up (by lia)
  .rw[Wh z];have ne:(!(bF S ws).isEmpty)=Qt:=by
    simp_all
   rw[ne];obtain⟨gs',u6,hg',e⟩:=Jd (C:=C) J (by lia) hr hb z s0 s1 s3 s6 hg;obtain⟨r2,m2⟩:=hr.step (jf J.Yr) J.all z;obtain⟨Wz,v6,e2,b3⟩:=EY J s0 s1 s3 n (k+1) _ gs' u6 (by lia) r2 (hb.step hr (jf J.Yr) J.wt J.all z) (by lia) hg';refine⟨Wz,v6,?_,b3⟩;rw[e];assumption
def aI(M:Nat)(ts:Ql (Int×Int))(wl:Ql Int)(ws:Ql Eg):PS:=dG (aC ts) (bp wl) ts.length ws 200 (PS.new M)
def dW(M:Nat)(ts:Ql (Int×Int))(wl:Ql Int)(ws:Ql Eg):Ql Int:=y7 (aC ts) ws (aI M ts wl ws).tk
def dg(M:Nat)(ts:Ql (Int×Int))(wl:Ql Int)(ws:Ql Eg):Ql (Ql Int×(Int×Int)):=p9 (aI M ts wl ws)
def oM(M:Nat)(ts:Ql (Int×Int))(wl:Ql Int)(ws:Ql Eg):D:=.tup [iL (dW M ts wl ws),.lst ((dg M ts wl ws).map aO)]
def XG.ziY(J:XG M ts wl ws):g6 (ll (eV ts (aE ts.length))) 0 ws=Qn:=by
 rw[zdq];intro w hw;exact((uC (λe he=>by
  obtain⟨a,ha,rfl⟩:=RU.mp he;have ra:=dy ha;have:=jf J.Yr a ra.1 ra.2;lia)).iff _ _).mpr ((J.all w hw))
def OO(J:XG M ts wl ws):o8 C [wD M ts,iL wl,.lst (ws.map pD)]=Qs (.dn (oM M ts wl ws)):=by
 let W:Sl:=.val (wD M ts)
 let U:Sl:=.val (iL wl)
 let V:Sl:=.val (.lst (ws.map pD))
 let S:=aI M ts wl ws
 have hM:=J.Xq.1;have rN:∀l∈aE ts.length,0<=l/\l<(ts.length:Int):=λl hl=>dy hl;let t0:Th:=[W,U,V,.no,.no,.no,.no]
 have el:(ag cb (ae (d2 ao ah aX) aq)) t0=Qs (.cl (.int (ts.length:Int))):=by rw[fA (pk rfl)];unfold cb;simp[Ev.d]
 have e1:(ag (aH jg) (ae ah (ae aK (ae (jd (ae (ag cb (ae (d2 ao ah aX) aq)) aq)) aq)))) t0=Qs (.cl .Wj):=by rw[jq rfl rfl (uA el J.Xq.2.1)];refine di ?_ rfl;have:=yS (by lia) J.Yr J.Zp rN;rw[J.ziY]at this;assumption
 have E1:=hX (i:=3) e1 (by simp[t0]);let t1:Th:=[W,U,V,.val .Wj,.no,.no,.no]
 have E2:(bO (aD (d2 uM bw jm)) AD cw) t1=Qs (.nx t1):=dQ (rfl:_=Qs Qf) rfl;have e3:(ag (qD C (sJ C)) ji) t1=Qs (.dn (oD C M ts wl (PS.new M))):=by show(if Qt=Qt then(sJ C [.obj C _ _,wD M _,iL _]).map _ else Qn)=_;rw[O3 (by lia)];rfl
 have E3:=o4 (i:=4) e3 (by simp[t1]);let t2:Th:=[W,U,V,.val .Wj,.dp (oD C M ts wl (PS.new M)),.no,.no]
 have e4:(ag (aH (lN C)) (ae bh gm)) t2=Qs (.dn (dT (bF (PS.new M) ws))):=by rw[dm rfl rfl];unfold aH;rw[show lN C ([Ev.tm (oD C M _ _ _),.cl _].map Ev.d)=_ from BZ J.Zp J.Xq.2.2 (r:=.nw [])];rfl
 have E4:=o4 (i:=5) e4 (by simp[t2]);have zhK:∀a,0<=a->a<(ts.length:Int)->0<=bp wl a:=λa a0 a1=>(J.wt a a0 a1).1;have r0:Run M (aC ts) (bp wl) ts.length ws (PS.new M):=Run.new zhK;have m0:=(pY (M:=M) (e:=aC ts) (w:=bp wl) (nt:=ts.length) (ws:=ws) hM);obtain⟨gs',u6,e5,bd⟩:=EY (C:=C) J W U (.val .Wj) 200 0 (PS.new M) (.dp (dT (bF (PS.new M) ws))) .no (by lia) r0 Bd.new (by lia) (.inl rfl);have E5:(lE (λ_=>200) (mU cK) (vU C)) [W,U,V,.val .Wj,.dp (oD C M ts wl (PS.new M)),.dp (dT (bF (PS.new M) ws)),.no]=Qs (.nx [W,U,V,.val .Wj,.dp (oD C M ts wl S),gs',u6]):=e5;obtain⟨_,re⟩:=nS (jf J.Yr) J.all 200 (PS.new M) r0 (by lia);have tkl:S.tk.length<=36:=by have:S.tk.length+mu M S<=mu M _:=re.Xq;lia
 have Sn:S.n<=45:=by have:S.n=M+S.tk.length:=re.ok.nM;lia
 let t5:Th:=[W,U,V,.val .Wj,.dp (oD C M ts wl S),gs',u6]
 obtain⟨q,a1,b1⟩:=NB (f:=af 4) (t:=t5) (r:=.tm (oD C M ts wl S)) (M:=M) (ts:=ts) (wl:=wl) (S:=S) rfl rfl;have e6:(ag (aH jQ) (ae ah (ae aK (ae (d1 (aP C "taken") bh) aq)))) t5=Qs (.nw ((dW M ts wl ws).map D.int)):=by rw[jq rfl rfl a1];refine oY ?_;show jQ [wD M _,.lst _,q.d]=_;rw[b1];exact NH (by lia) J.Yr J.Zp re.ok.ZV (by lia) (r:=.nw [])
 have e7:=NO (d:=.lst ((p9 S).map aO)) (rs:=[]) (ga:=aq) (m:= "moats") (G:=jh C) (f:=af 4) (t:=t5) (r:=.tm (oD C M ts wl S)) (M:=M) (ts:=ts) (wl:=wl) (S:=S) rfl rfl (by rfl) rfl (NQ re.ok (by lia) (RL _) (bd.sm (RL _) (by simp)).1);have E6:(vA (qm (gZ (fP (ag (aH jQ) (ae ah (ae aK (ae (d1 (aP C "taken") bh) aq))))) (gZ (fP (cZ C "moats" (jh C) bh aq)) lh)))) t5=Qs (.rt (.dn (oM M ts wl ws))):=by
  have n1:(fP (ag (aH jQ) (ae ah (ae aK (ae (d1 (aP C "taken") bh) aq))))) t5=Qs (iL (dW M ts wl ws),t5):=by unfold fP;rw[e6];show(if Wv ((dW M ts wl ws).map D.int) then Qs (D.lst ((dW M ts wl ws).map D.int)) else Qn).map _=_;rw[Xp];rfl
  have n2:(fP (cZ C "moats" (jh C) bh aq)) t5=Qs (.lst ((dg M ts wl ws).map aO),t5):=by unfold fP;rw[e7];rfl
  have n3:(gZ (fP (cZ C "moats" (jh C) bh aq)) lh) t5=Qs ([.lst ((dg M ts wl ws).map aO)],t5):=by unfold gZ;rw[n2];rfl
  have n4:(gZ (fP (ag (aH jQ) (ae ah (ae aK (ae (d1 (aP C "taken") bh) aq))))) (gZ (fP (cZ C "moats" (jh C) bh aq)) lh)) t5=Qs ([iL (dW M ts wl ws),.lst ((dg M ts wl ws).map aO)],t5):=by rw[show(gZ (fP (ag (aH jQ) (ae ah (ae aK (ae (d1 (aP C "taken") bh) aq))))) (gZ (fP (cZ C "moats" (jh C) bh aq)) lh)) t5=((fP (ag (aH jQ) (ae ah (ae aK (ae (d1 (aP C "taken") bh) aq))))) t5).bind λq=>((gZ (fP (cZ C "moats" (jh C) bh aq)) lh) q.2).bind λw=>Qs (q.1::w.1,w.2) from rfl,n1];show((gZ (fP (cZ C "moats" (jh C) bh aq)) lh) t5).bind _=_;rw[n3];rfl
  unfold vA qm;rw[n4];rfl
 show(Ab C t0).bind iq=_;exact Wq ((aG E1).trans ((aG E2).trans ((aG E3).trans ((aG E4).trans ((aG E5).trans E6)))))
def aJ(f:Int->Int):Nat->Int
 |0=>0
 |n+1=>aJ f n+f n
theorem fX:∀{n:Nat},(∀p,0<=p->p<(n:Int)->f p=g p)->aJ f n=aJ g n
 |0,_=>rfl
 |n+1,h=>by show aJ f n+f n=aJ g n+g n;rw[fX λp p0 p1=>h p p0 (by lia),h n (by lia) (by lia)]
theorem jY(f g:Int->Int):∀n:Nat,aJ (λp=>f p+g p) n=aJ f n+aJ g n
 |0=>rfl
 |n+1=>by show aJ _ n+(f n+g n)=aJ f n+f n+(aJ g n+g n);rw[jY f g n];lia
theorem l7(c:Int)(f:Int->Int):∀n:Nat,aJ (λp=>c*f p) n=c*aJ f n
 |0=>(Int.mul_zero c).symm
 |n+1=>by show aJ _ n+c*f n=c*(aJ f n+f n);rw[l7 c f n,XM]
theorem jX:∀{n:Nat},(∀p,0<=p->p<(n:Int)->f p=0)->aJ f n=0
 |0,_=>rfl
 |n+1,h=>by show aJ f n+f n=0;rw[jX λp p0 p1=>h p p0 (by lia),h n (by lia) (by lia)];rfl
theorem xc:∀{n:Nat},0<=q->q<(n:Int)->(∀p,0<=p->p<(n:Int)->p≠q->f p=0)->aJ f n=f q
 |0,_,h1,_=>by lia
 |n+1,h0,h1,h=>by
  show aJ f n+f n=f q;by_cases z:q=n
  .rw[jX λp p0 p1=>h p p0 (by lia) (by lia),z];lia
  .rw[xc h0 (by lia) λp p0 p1 k=>h p p0 (by lia) k,h n (by lia) (by lia) (by lia)];lia
theorem pK:∀{n:Nat},(∀p,0<=p->p<(n:Int)->f p<=g p)->aJ f n<=aJ g n
 |0,_=>Tq _
 |n+1,h=>by show aJ f n+f n<=aJ g n+g n;have:=pK (n:=n) λp p0 p1=>h p p0 (by lia);have:=h n (by lia) (by lia);lia
noncomputable def bU(P:Ql Int)(d:Eg):Bool:=decide (d.1∈P) !=decide (d.2∈P)
def zcf:bU P d=Qt↔¬(d.1∈P↔d.2∈P):=by unfold bU;lia
def zdc:bU P d=Qf↔(d.1∈P↔d.2∈P):=by unfold bU;lia
def cx(S:PS)(d:Eg):Int:=aJ (λp=>if bU (S.pt p) d then S.wd p else 0) S.n
def iU(S:PS)(v:Int):Int:=aJ (λp=>if v∈S.pt p then S.wd p else 0) S.n
def nH(P:Ql Int)(d:Eg):Bool:=decide (d.1∈P)&&decide (d.2∈P)
structure W9(M:Nat)(e:Int->Eg)(w:Int->Int)(nt:Nat)(ws:List Eg)(S:PS):Prop where
 ar:∀v,0<=v->v<(M:Int)->S.ar v=iU S v
 X7:∀a,0<=a->a<(nt:Int)->S.po (e a).1=S.po (e a).2->cx S (e a)<=w a*S.pa
 tgt:∀a∈S.tk,cx S (e a)=w a*S.pa
 tin:∀a∈S.tk,S.po (e a).1=S.po (e a).2
 pts:∀p,0<=p->p<(S.n:Int)->S.wd p≠0->∃x∈ws,bU (S.pt p) x=Qt
 wd0:∀p,0<=p->p<(S.n:Int)->0<=S.wd p
 lam:∀p q,0<=p->p<q->q<(S.n:Int)->(∀u∈S.pt p,u∈S.pt q)\/(∀u∈S.pt p,u∉S.pt q)
 con:∀p,0<=p->p<(S.n:Int)->∀u∈S.pt p,∀v∈S.pt p,Eqv ((S.tk.map e).filter (nH (S.pt p))) u v
theorem W9.new{nt:Nat}(hw:∀a,0<=a->a<(nt:Int)->0<=w a):W9 M e w nt ws (PS.new M) where
 ar:=λv v0 v1=>by show 0=_;unfold iU;rw[jX];intro p p0 p1;split<;>rfl
 X7:=λa a0 a1 k=>by
  have:cx (PS.new M) (e a)=0:=by unfold cx;rw[jX];intro p p0 p1;split<;>rfl
  rw[this];show 0<=w a*1;have:=hw a a0 a1;lia
 tgt:=λa h=>nomatch h
 tin:=λa h=>nomatch h
 pts:=λp _ _ h=>absurd rfl h
 wd0:=λp _ _=>Tq _
 lam:=λp q _ h _=>.inr λu hu z=>by have:=RG.mp hu;have:=RG.mp z;lia
 con:=λp _ _ u hu v hv=>by rw[RG.mp hu,RG.mp hv];exact .refl _
def Fm(h:Ok M e w nt S)(hn:S.po x≠S.po y):cx S (x,y)=iU S x+iU S y:=by
 unfold cx iU;rw[<-jY];refine fX λp p0 p1=>?_;by_cases a:x∈S.pt p
 .have b:=λb=>hn (h.one p p0 p1 _ a _ b);have:bU _ (x,y)=Qt:=zcf.mpr λz=>b (z.mp a)
  simp_all
 .by_cases b:y∈S.pt p
  .have:bU _ (x,y)=Qt:=zcf.mpr λz=>a (z.mpr b)
   simp_all
  .have:bU _ (x,y)=Qf:=zdc.mpr ⟨λz=>absurd z a,λz=>absurd z b⟩
   simp_all
theorem W9.Xm(h:W9 M e w nt ws S)(hO:Ok M e w nt S)(hE:eM M e nt)(a0:0<=a)(a1:a<(nt:Int))(hn:S.po (e a).1≠S.po (e a).2):KX.Xm S e w a=w a*S.pa-cx S (e a):=by obtain⟨⟨x0,x1⟩,y0,y1⟩:=hE a a0 a1;have:=Fm hO hn;unfold KX.Xm;rw[h.ar _ x0 x1,h.ar _ y0 y1];have e1:((e a).1,(e a).2)=e a:=rfl;rw[e1]at this;lia
def W9.fea(h:W9 M e w nt ws S)(hO:Ok M e w nt S)(hE:eM M e nt)(a0:0<=a)(a1:a<(nt:Int)):cx S (e a)<=w a*S.pa:=by
 by_cases z:S.po (e a).1=S.po (e a).2
 .exact h.X7 a a0 a1 z
 .have:=h.Xm hO hE a0 a1 z;have:=hO.pos a a0 a1 z;lia
theorem W9.W4(h:W9 M e w nt ws S):W9 M e w nt ws (W4 S):=by
 have l2:∀d,cx (KX.W4 S) d=2*cx S d:=λd=>by unfold cx;rw[<-l7];refine fX λp p0 p1=>?_;show(if bU (S.pt p) d then 2*S.wd p else 0)=_;split<;>lia
 have wq:∀a,w a*(S.pa*2)=2*(w a*S.pa):=λa=>by rw[<-Um,Xh]
 refine⟨λv v0 v1=>?_,λa a0 a1 k=>?_,λa ha=>?_,h.tin,λp p0 p1 k=>?_,λp p0 p1=>?_,h.lam,h.con⟩
 .show 2*S.ar v=iU _ v;rw[h.ar v v0 v1];unfold iU;rw[<-l7];refine fX λp p0 p1=>?_;show _=(if v∈S.pt p then 2*S.wd p else 0);split<;>lia
 .rw[l2];show _<=w a*(S.pa*2);rw[wq];have:=h.X7 a a0 a1 k;lia
 .rw[l2];show _=w a*(S.pa*2);rw[wq,h.tgt a ha]
 .have k:2*S.wd p≠0:=k;exact h.pts p p0 p1 (by lia)
 .have:=h.wd0 p p0 p1;show 0<=2*S.wd p;lia
structure Gr(M:Nat)(ws:List Eg)(S:PS)(g:Int->Bool):Prop where
 now:∀p,g p=Qt->∃u,(0<=u/\u<(M:Int))/\p=S.po u
 prt:∀p,g p=Qt->∃x∈ws,bU (S.pt p) x=Qt
def va(hO:Ok M e w nt S)(hP:∀x∈ws,(0<=x.1/\x.1<(M:Int))/\0<=x.2/\x.2<(M:Int)):Gr M ws S (bc (bF S ws)):=by
 refine⟨λp hp=>?_,λp hp=>?_⟩
 .obtain⟨x,hx,ne,r⟩:=zaX.mp (of_decide_eq_true hp);obtain⟨a,b⟩:=hP x hx;rcases r with z|z
  .exact⟨x.1,a,z⟩
  .exact⟨x.2,b,z⟩
 .obtain⟨x,hx,ne,r⟩:=zaX.mp (of_decide_eq_true hp);obtain⟨⟨a0,a1⟩,b0,b1⟩:=hP x hx;refine⟨x,hx,zcf.mpr λk=>ne ?_⟩;rcases r with z|z
  .rw[z,hO.cur _ a0 a1,hO.cur _ a0 a1]at k
   simp_all
  .rw[z,hO.cur _ b0 b1,hO.cur _ b0 b1]at k
   simp_all
theorem W9.Xs(h:W9 M e w nt ws S)(hO:Ok M e w nt S)(hE:eM M e nt)(hg:Gr M ws S g){st:Int}(s0:0<=st):W9 M e w nt ws (Xs S g st):=by
 have mem:∀p v,g p=Qt->0<=v->v<(M:Int)->(v∈S.pt p↔S.po v=p):=λp v gp v0 v1=>by
  obtain⟨u,⟨u0,u1⟩,rfl⟩:=hg.now p gp;rw[hO.cur u u0 u1]
  simp_all
 have ld:∀a,0<=a->a<(nt:Int)->S.po (e a).1=S.po (e a).2->cx (KX.Xs S g st) (e a)=cx S (e a):=λa a0 a1 k=>by
  obtain⟨⟨x0,x1⟩,y0,y1⟩:=hE a a0 a1;unfold cx;refine fX λp p0 p1=>?_;show(if bU (S.pt p) (e a) then S.wd p+(if g p then st else 0) else 0)=_;by_cases gp:g p=Qt
  .have:bU (S.pt p) (e a)=Qf:=zdc.mpr (by simp_all);lia
  .rw[Wh gp,TJ]
 refine⟨λv v0 v1=>?_,λa a0 a1 k=>?_,λa ha=>?_,h.tin,λp p0 p1 k=>?_,λp p0 p1=>?_,h.lam,h.con⟩
 .show S.ar v+(if g _ then st else 0)=aJ (λp=>if v∈S.pt p then S.wd p+(if g p then st else 0) else 0) S.n;have e1:aJ (λp=>if v∈S.pt p then S.wd p+(if g p then st else 0) else 0) S.n=iU S v+aJ (λp=>if v∈S.pt p then(if g p then st else 0) else 0) S.n:=by
   unfold iU;rw[<-jY]
   grind
  have pv:=hO.Yd v v0 v1;rw[e1,h.ar v v0 v1,xc pv.1 pv.2 _]
  .rw[V4 ((hO.cur v v0 v1 v).mpr ⟨v0,v1,rfl⟩)]
  .grind
 .rw[ld a a0 a1 k];exact h.X7 a a0 a1 k
 .obtain⟨a0,a1⟩:=hO.ZV a ha;rw[ld a a0 a1 (h.tin a ha)];exact h.tgt a ha
 .have k:S.wd p+(if g p then st else 0)≠0:=k;by_cases gp:g p=Qt
  .exact hg.prt p gp
  .rw[Wh gp,TJ]at k;exact h.pts p p0 p1 k
 .have:=h.wd0 p p0 p1;show 0<=S.wd p+(if g p then st else 0);split<;>lia
def GV{es Xf:Ql Eg}(h1:∀x∈es,x∈Xf)(h2:∀x,p x=Qt->q x=Qt):∀x∈es.filter p,x∈Xf.filter q:=λx hx=>by
 simp_all
theorem W9.WX(h:W9 M e w nt ws S)(hO:Ok M e w nt S)(hE:eM M e nt)(a0:0<=a)(a1:a<(nt:Int))(hn:S.po (e a).1≠S.po (e a).2)(hf:KX.Xm S e w a<=0):W9 M e w nt ws (WX S e a):=by
 obtain⟨⟨x0,x1⟩,y0,y1⟩:=hE a a0 a1;have px:=hO.Yd _ x0 x1;have py:=hO.Yd _ y0 y1;have YG:∀p,p≠(S.n:Int)->(KX.WX S e a).pt p=S.pt p:=λp k=>Wh k;have ptN:(KX.WX S e a).pt (S.n:Int)=dO S e a:=V4 rfl;have wdT:∀p,p≠(S.n:Int)->(KX.WX S e a).wd p=S.wd p:=λp k=>Wh k;have wdN:(KX.WX S e a).wd (S.n:Int)=0:=V4 rfl;have ld:∀d,cx (KX.WX S e a) d=cx S d:=λd=>by
  show aJ _ _+(if bU _ d then(KX.WX S e a).wd _ else 0)=_;rw[wdN];have:(if bU ((KX.WX S e a).pt S.n) d then(0:Int) else 0)=0:=by lia
  rw[this,TJ];refine fX λp p0 p1=>?_;rw[YG p (by lia),wdT p (by lia)]
 have mj:∀u,u∈dO S e a↔(0<=u/\u<(M:Int)/\(S.po u=S.po (e a).1\/S.po u=S.po (e a).2)):=λu=>by
  rw[zba,hO.cur _ x0 x1,hO.cur _ y0 y1];constructor
  .rintro(⟨a,b,c⟩|⟨a,b,c⟩)
   .exact⟨a,b,.inl c⟩
   .exact⟨a,b,.inr c⟩
  .simp_all
 have YS:∀v,(KX.WX S e a).po v=if v∈dO S e a then(S.n:Int) else S.po v:=λv=>rfl
 have same:∀u v,0<=u->u<(M:Int)->0<=v->v<(M:Int)->S.po u=S.po v->(KX.WX S e a).po u=(KX.WX S e a).po v:=λu v u0 u1 v0 v1 q=>by
  simp_all
 have k1:(e a).1∈dO S e a:=(mj _).mpr ⟨x0,x1,.inl rfl⟩;have k2:(e a).2∈dO S e a:=(mj _).mpr ⟨y0,y1,.inr rfl⟩;have lf:=h.Xm hO hE a0 a1 hn;have l0:=hO.pos a a0 a1 hn;refine⟨λv v0 v1=>?_,λc c0 c1 k=>?_,λc hc=>?_,λc hc=>?_,λp p0 p1 k=>?_,λp p0 p1=>?_,λp q p0 pq q1=>?_,λp p0 p1 u hu v hv=>?_⟩
 .show S.ar v=aJ _ _+(if v∈(KX.WX S e a).pt _ then(KX.WX S e a).wd _ else 0);rw[wdN];have:(if v∈(KX.WX S e a).pt S.n then(0:Int) else 0)=0:=by lia
  rw[this,TJ,h.ar v v0 v1];refine fX λp p0 p1=>?_;rw[YG p (by lia),wdT p (by lia)]
 .rw[ld];exact h.fea hO hE c0 c1
 .rw[ld];show _=w c*S.pa;rcases Ry.mp hc with z|z
  .exact h.tgt c z
  .rw[RG.mp z];lia
 .rcases Ry.mp hc with z|z
  .obtain⟨c0,c1⟩:=hO.ZV c z;obtain⟨⟨u0,u1⟩,v0,v1⟩:=hE c c0 c1;exact same _ _ u0 u1 v0 v1 (h.tin c z)
  .rw[RG.mp z,YS,YS,V4 k1,V4 k2]
 .have p1:p<((S.n+1:Nat):Int):=p1;by_cases z:p=(S.n:Int)
  .lia
  .rw[wdT p z]at k;rw[YG p z];exact h.pts p p0 (by lia) k
 .have p1:p<((S.n+1:Nat):Int):=p1;by_cases z:p=(S.n:Int)
  .rw[z,wdN];simp
  .rw[wdT p z];exact h.wd0 p p0 (by lia)
 .have q1:q<((S.n+1:Nat):Int):=q1;rw[YG p (by lia)];by_cases z:q=(S.n:Int)
  .rw[z,ptN];by_cases y:∃u∈S.pt p,u∈dO S e a
   .obtain⟨u,hu,ju⟩:=y;refine .inl λv hv=>?_;obtain⟨v0,v1⟩:=hO.inr p p0 (by lia) v hv;exact(mj v).mpr ⟨v0,v1,(hO.one p p0 (by lia) u hu v hv)▸((mj u).mp ju).2.2⟩
   .lia
  .rw[YG q z];exact h.lam p q p0 pq (by lia)
 .have p1:p<((S.n+1:Nat):Int):=p1;have X2:∀x∈S.tk.map e,x∈(S.tk++[a]).map e:=λx hx=>by
   simp_all
  show Eqv (((S.tk++[a]).map e).filter (nH ((KX.WX S e a).pt p))) u v;by_cases z:p=(S.n:Int)
  .rw[z,ptN]at hu hv ⊢;have part:∀z,(0<=z/\z<(M:Int))->(∀u∈S.pt (S.po z),u∈dO S e a)->∀u∈S.pt _,∀v∈S.pt _,Eqv (((S.tk++[a]).map e).filter (nH (dO S e a))) u v:=λz hz sub u hu v hv=>by
    have pz:=hO.Yd _ hz.1 hz.2;refine(h.con _ pz.1 pz.2 u hu v hv).mono (GV X2 λx hx=>?_);unfold nH at hx ⊢
    simp_all
   have tie:Eqv (((S.tk++[a]).map e).filter (nH (dO S e a))) (e a).1 (e a).2:=by refine .Zd (RY.mpr ⟨RU.mpr ⟨a,Ru _ (RG.mpr rfl),rfl⟩,?_⟩);unfold nH;lia
   have to1:∀u∈dO S e a,Eqv _ u _:=λu hu=>by
    rcases zba.mp hu with q|q
    .exact(part _ ⟨x0,x1⟩ λu hu=>zba.mpr (.inl hu)) u q _ ((hO.cur _ x0 x1 _).mpr ⟨x0,x1,rfl⟩)
    .exact((part _ ⟨y0,y1⟩ λu hu=>zba.mpr (.inr hu)) u q _ ((hO.cur _ y0 y1 _).mpr ⟨y0,y1,rfl⟩)).trans tie.symm
   exact(to1 u hu).trans (to1 v hv).symm
  .rw[YG p z]at hu hv ⊢;exact(h.con p p0 (by lia) u hu v hv).mono (GV X2 λx hx=>hx)
def W9.step(h:W9 M e w nt ws S)(hO:Ok M e w nt S)(hE:eM M e nt)(hP:∀x∈ws,(0<=x.1/\x.1<(M:Int))/\0<=x.2/\x.2<(M:Int))(hw:∀w∈ws,Eqv (gi e nt) w.1 w.2)(hn:bF S ws≠[]):W9 M e w nt ws (cJ e w nt ws S):=by
 cases hf:fQ S e w _ _ with
 |none=>
  have es:cJ e w nt ws S=Z1 S e w (bc (bF S ws)) nt:=by unfold cJ;rw[hf];rfl
  rw[es];exact h.W4.Xs hO.W4 hE ⟨(va hO hP).now,(va hO hP).prt⟩ (Sd (wY (rM hO hE hw hn) hf))
 |some a=>
  have es:cJ e w nt ws S=KX.WX S e a:=by unfold cJ;rw[hf]
  rw[es];obtain⟨⟨a0,a1⟩,b,l⟩:=rD hf;exact h.WX hO hE a0 a1 (vQ b) l
theorem W9.run(hE:eM M e nt)(hP:∀x∈ws,(0<=x.1/\x.1<(M:Int))/\0<=x.2/\x.2<(M:Int))(hw:∀w∈ws,Eqv (gi e nt) w.1 w.2):∀(n:Nat) (S:PS),Run M e w nt ws S->W9 M e w nt ws S->W9 M e w nt ws (dG e w nt ws n S)
 |0,S,_,h=>h
 |n+1,S,r,h=>by
  unfold dG;by_cases z:bF S ws=[]
  .rw[V4 z];assumption
  .rw[Wh z];exact W9.run hE hP hw n _ (r.step hE hw z).1 (h.step r.ok hE hP hw z)
def Eqv.two(k:∀x∈Xf,x∈es\/x=d)(h:Eqv Xf u v):Eqv es u v\/(Eqv es u d.1/\Eqv es d.2 v)\/(Eqv es u d.2/\Eqv es d.1 v):=by
 induction h with
 |refl u=>exact .inl (.refl u)
 |Zd h=>
  rcases k _ h with z|z
  .exact .inl (.Zd z)
  .subst z;exact .inr (.inl ⟨.refl _,.refl _⟩)
 |symm _ ih=>
  rcases ih with z|⟨a,b⟩|⟨a,b⟩
  .exact .inl z.symm
  .exact .inr (.inr ⟨b.symm,a.symm⟩)
  .exact .inr (.inl ⟨b.symm,a.symm⟩)
 |trans _ _ i1 i2=>
  rcases i1 with z|⟨a,b⟩|⟨a,b⟩<;>rcases i2 with y|⟨c,f⟩|⟨c,f⟩
  .exact .inl (z.trans y)
  .exact .inr (.inl ⟨z.trans c,f⟩)
  .exact .inr (.inr ⟨z.trans c,f⟩)
  .exact .inr (.inl ⟨a,b.trans y⟩)
  .lia
  .exact .inl (a.trans f)
  .exact .inr (.inr ⟨a,b.trans y⟩)
  .exact .inl (a.trans f)
  lia
def wo(K:Ql Int)(a:Int):Ql Int:=K.filter λx=>!decide (x=a)
def X1:x∈wo K a↔x∈K/\x≠a:=by unfold wo;simp
def X6(e:Int->Eg)(tk:Ql Int):Prop:=tk.Nodup/\∀a∈tk,¬Eqv ((wo tk a).map e) (e a).1 (e a).2
def mr{e:Int->Eg}{L:Ql Int}(h:∀x∈K,x∈L):∀x∈K.map e,x∈L.map e:=λx hx=>by
 grind
def IC{e:Int->Eg}(a:Int):∀x∈K.map e,x∈(wo K a).map e\/x=e a:=λx hx=>by
 obtain⟨c,hc,rfl⟩:=RU.mp hx;by_cases z:c=a
 .lia
 .exact .inl (RU.mpr ⟨c,X1.mpr ⟨hc,z⟩,rfl⟩)
def wL (h:a∈K):Eqv (K.map e) (e a).1 (e a).2:=.Zd (RU.mpr ⟨a,h,rfl⟩)
def X6.nil(e:Int->Eg):X6 e []:=⟨Sv,λa h=>nomatch h⟩
def X6.add(h:X6 e tk)(hn:¬Eqv (tk.map e) (e a).1 (e a).2):X6 e (tk++[a]):=by
 have na:a∉tk:=λz=>hn (wL z);refine⟨RI.mpr ⟨h.1,by simp,λx hx y hy z=>na (by simp_all)⟩,λb hb=>?_⟩;rcases Ry.mp hb with z|z
 .intro k;have k2:∀x∈(wo (tk++[a]) b).map e,x∈(wo _ b).map e\/x=e a:=λx hx=>by
   obtain⟨c,hc,rfl⟩:=RU.mp hx;obtain⟨c1,c2⟩:=X1.mp hc;rcases Ry.mp c1 with y|y
   .exact .inl (RU.mpr ⟨c,X1.mpr ⟨y,c2⟩,rfl⟩)
   .simp_all
  have up:∀{u v},Eqv ((wo tk b).map e) u v->Eqv _ u v:=λq=>q.mono (mr λx hx=>(X1.mp hx).1);have tb:=wL (e:=e) z;rcases k.two k2 with y|⟨y,w⟩|⟨y,w⟩
  .exact h.2 b z y
  .exact hn ((up y).symm.trans (tb.trans (up w).symm))
  .exact hn ((up w).trans (tb.symm.trans (up y)))
 .rw[RG.mp z];intro k;refine hn (k.mono (mr λx hx=>?_));obtain⟨c1,c2⟩:=X1.mp hx
  simp_all
def W9.apart(h:W9 M e w nt ws S)(hn:S.po u≠S.po v):¬Eqv (S.tk.map e) u v:=λk=>by
 have:=k.pred (p:=λx=>S.po x=S.po u) λx hx=>by obtain⟨a,ha,rfl⟩:=RU.mp hx;rw[h.tin a ha]
 lia
theorem X6.run(hE:eM M e nt)(hP:∀x∈ws,(0<=x.1/\x.1<(M:Int))/\0<=x.2/\x.2<(M:Int))(hw:∀w∈ws,Eqv (gi e nt) w.1 w.2):∀(n:Nat) (S:PS),Run M e w nt ws S->W9 M e w nt ws S->X6 e S.tk->X6 e (dG e w nt ws n S).tk
 |0,S,_,_,h=>h
 |n+1,S,r,d,h=>by
  unfold dG;by_cases z:bF S ws=[]
  .rw[V4 z];assumption
  .rw[Wh z];refine X6.run hE hP hw n _ (r.step hE hw z).1 (d.step r.ok hE hP hw z) ?_;cases hf:fQ S e w _ _ with
   |none=>
    have es:cJ e w nt ws S=Z1 S e w (bc (bF S ws)) nt:=by unfold cJ;rw[hf];rfl
    rw[es];assumption
   |some a=>
    have es:cJ e w nt ws S=KX.WX S e a:=by unfold cJ;rw[hf]
    rw[es];obtain⟨_,b,_⟩:=rD hf;exact h.add (d.apart (vQ b))
def gU(ok:Ql Int->Bool)(K:Ql Int)(a:Int):Ql Int:=if ok (wo K a) then wo K a else K
theorem tN:∀{as K:Ql Int}{x:Int},x∈as.foldl (gU ok) K->x∈K
 |[],K,x,h=>h
 |a::as,K,x,h=>by
  have:=tN (as:=as) h;unfold gU at this;split at this
  .exact(X1.mp this).1
  assumption
theorem C3{ok:Ql Int->Bool}:∀{as K:Ql Int},ok K=Qt->ok (as.foldl (gU ok) K)=Qt
 |[],K,h=>h
 |a::as,K,h=>by refine C3 (as:=as) ?_;unfold gU;lia
theorem C6{P:Int->Prop}(mono:∀K L:Ql Int,(∀x∈L,P x)->(∀x∈K,x∈L)->ok K=Qt->ok L=Qt):∀{as K:Ql Int}{a:Int},(∀x∈K,P x)->a∈as->a∈as.foldl (gU ok) K->ok (wo (as.foldl (gU ok) K) a)=Qf
 |[],K,a,_,h,_=>nomatch h
 |b::as,K,a,hK,h,m=>by
  rcases RB.mp h with z|z
  .subst z;have m:a∈as.foldl (gU ok) (gU ok K a):=m;have k:ok (wo K a)=Qf:=by
    cases q:ok _ with
    |false=>rfl
    |true=>have:=tN m;unfold gU at this;rw[V4 q]at this;exact absurd rfl (X1.mp this).2
   refine VS.mpr λt=>?_;have:=mono _ (wo K a) (λx hx=>hK x (X1.mp hx).1) (λx hx=>?_) t
   .lia
   .obtain⟨x1,x2⟩:=X1.mp hx;exact X1.mpr ⟨(tN x1),x2⟩
  .exact C6 mono (as:=as) (λx hx=>hK x (by
    unfold gU at hx;split at hx
    .exact(X1.mp hx).1
    assumption)) z m
theorem C5:∀{as K:Ql Int},K.Nodup->(as.foldl (gU ok) K).Nodup
 |[],K,h=>h
 |a::as,K,h=>by
  refine C5 (as:=as) ?_;unfold gU;split
  .exact h.filter _
  assumption
theorem Cv{f:Int->Int->Int}(n:Nat):∀F:Ql Int,(F.map λa=>aJ (f a) n).sum=aJ (λp=>(F.map λa=>f a p).sum) n
 |[]=>by rw[jX (λp _ _=>by simp)];rfl
 |a::F=>by rw[RK,Sj,Cv n F,<-jY];rfl
theorem sX(c:Int):∀F:Ql Int,(F.map λa=>f a*c).sum=(F.map f).sum*c
 |[]=>by simp
 |a::F=>by rw[RK,RK,Sj,Sj,sX c F,VI]
theorem GL{V:Ql Int}(nn:∀v∈V,0<=v):∀(n:Nat) (L:Ql Int),L.length=n->X6 e L->(∀a∈L,(e a).1∈V/\(e a).2∈V)->LL (L.map e) (ll (L.map e))/\L.length+(V.filter λv=>decide (ll (L.map e) v=v)).length<=V.length
 |0,L,hl,_,_=>by
  rw[List.length_eq_zero_iff.mp hl];refine⟨LL.nil,?_⟩
  grind
 |n+1,L,hl,hF,hV=>by
  obtain⟨L',a,rfl⟩:∃L' a,L=L'++[a]:=by
   rcases List.eq_nil_or_concat L with z|⟨L',a,z⟩
   .rw[z]at hl;cases hl
   .simp_all
  obtain⟨H,ih⟩:=GL nn n _ (by simp_all) (⟨(RI.mp hF.1).1,λb hb z=>hF.2 b (Rw _ hb) (z.mono (mr λx hx=>X1.mpr ⟨Rw _ (X1.mp hx).1,(X1.mp hx).2⟩))⟩) (λb hb=>hV b (Rw _ hb));have hva:=hV a (Ru _ (RG.mpr rfl));have em:(L'++[a]).map e=L'.map e++[e a]:=by simp
  have el:ll ((L'++[a]).map e)=gT (ll (L'.map e)) (e a).1 (e a).2:=by unfold ll uB;simp
  rw[el,em];refine⟨H.step (nn _ hva.1) (nn _ hva.2),?_⟩;generalize ll _=f at H ih;have ne:=λz=>(λz=>(hF.2 a (Ru _ (RG.mpr rfl))) (z.mono (mr λx hx=>X1.mpr ⟨Rw _ hx,λq=>(λz=>(RI.mp hF.1).2.2 a z a (RG.mpr rfl) rfl) (by lia)⟩))) ((H.iff _ _).mp z);have idm:=λv=>(H.iff _ _).mpr (H.own v).symm;have mG:∀v∈V,f v∈V:=λv hv=>by
   rcases(H.own v).ends with z|⟨_,x,hx,q⟩
   .lia
   .grind
  have less:=Ap (p:=λv=>decide (f v=v)) (q:=λv=>decide (gT f (e a).1 (e a).2 v=v)) (λv hv k=>by
    have k:=of_decide_eq_true k;refine Ww ?_;unfold gT at k;by_cases c:f (e a).1<f (e a).2
    .simp only[V4 c]at k;split at k
     .rw[<-k,idm]
     assumption
    .simp only[Wh c]at k;split at k
     .rw[<-k,idm]
     assumption) (by
    by_cases c:f (e a).1<f (e a).2
    .refine⟨_,mG _ hva.2,Ww (idm _),Xt λk=>?_⟩;unfold gT at k
     simp_all
    .refine⟨_,mG _ hva.1,Ww (idm _),Xt λk=>?_⟩;unfold gT at k
     simp_all)
  rw[SD,Tf];lia
def PD{V L:Ql Int}(nn:∀v∈V,0<=v)(hF:X6 e L)(hV:∀a∈L,(e a).1∈V/\(e a).2∈V):L.length<=V.length:=by have:=(GL nn _ L rfl hF hV).2;lia
theorem X6.con(hd:W9 M e w nt ws S)(hO:Ok M e w nt S)(hE:eM M e nt)(hT:X6 e T)(X2:∀a∈T,0<=a/\a<(nt:Int))(sub:∀a∈S.tk,a∈T)(nd:H.Nodup)(hH:∀a∈H,a∈T/\S.po (e a).1≠S.po (e a).2):X6 (λa=>(S.po (e a).1,S.po (e a).2)) H:=by
 refine⟨nd,λa ha k=>?_⟩;obtain⟨haT,ZK⟩:=hH a ha;have na:a∉S.tk:=λz=>ZK (hd.tin a z);have same:∀u v,(0<=u/\u<(M:Int))->(0<=v/\v<(M:Int))->S.po u=S.po v->Eqv ((wo T a).map e) u v:=λu v hu hv q=>by have pu:=hO.Yd u hu.1 hu.2;refine(hd.con _ pu.1 pu.2 u ((hO.cur u hu.1 hu.2 u).mpr ⟨hu.1,hu.2,rfl⟩) v ((hO.cur u hu.1 hu.2 v).mpr ⟨hv.1,hv.2,q.symm⟩)).mono λx hx=>?_;obtain⟨b,hb,rfl⟩:=RU.mp (RY.mp hx).1;exact RU.mpr ⟨b,X1.mpr ⟨sub b hb,λz=>na (z▸hb)⟩,rfl⟩
 have lift:∀{p q:Int},Eqv ((wo H a).map λa=>(S.po (e a).1,S.po (e a).2)) p q->p=q\/∃u v,(0<=u/\u<(M:Int))/\(0<=v/\v<(M:Int))/\S.po u=p/\S.po v=q/\Eqv ((wo T a).map e) u v:=by
  intro p q h
  induction h with
  |refl p=>exact .inl rfl
  |Zd h=>obtain⟨b,hb,eb⟩:=RU.mp h;obtain⟨b1,b2⟩:=X1.mp hb;have bT:=(hH b b1).1;obtain⟨hx,hy⟩:=hE b (X2 b bT).1 (X2 b bT).2;cases eb;exact .inr ⟨_,_,hx,hy,rfl,rfl,wL (X1.mpr ⟨bT,b2⟩)⟩
  |symm _ ih=>
   rcases ih with z|⟨u,v,hu,hv,pu,pv,q⟩
   .exact .inl z.symm
   .exact .inr ⟨v,u,hv,hu,pv,pu,q.symm⟩
  |trans _ _ i1 i2=>
   rcases i1 with z|⟨u,v,hu,hv,pu,pv,q⟩
   .subst z;exact i2
   .rcases i2 with z|⟨u',v',hu',hv',pu',pv',q'⟩
    .subst z;exact .inr ⟨u,v,hu,hv,pu,pv,q⟩
    .exact .inr ⟨u,v',hu,hv',pu,pv',q.trans ((same v u' hv hu' (pv.trans pu'.symm)).trans q')⟩
 obtain⟨hx,hy⟩:=hE a (X2 a haT).1 (X2 a haT).2;rcases lift k with z|⟨u,v,hu,hv,pu,pv,q⟩
 .exact ZK z
 .exact hT.2 a haT ((same _ u hx hu pu.symm).trans (q.trans (same v _ hv hy pv)))
def iP(S:PS)(e:Int->Eg)(a p:Int):Int:=if S.po (e a).1=S.po (e a).2 then 0 else fU (decide (S.po (e a).1=p))+fU (decide (S.po (e a).2=p))
def G8(S:PS)(e:Int->Eg)(a p:Int):0<=iP S e a p:=by
 unfold iP;split
 .simp
 .have:=lI (decide (S.po (e a).1=p));have:=lI (decide (S.po (e a).2=p));lia
def Ib(n:Nat)(g:Int->Bool)(h0:0<=q)(h1:q<(n:Int)):aJ (λp=>if g p then fU (decide (q=p)) else 0) n=fU (g q):=by
 rw[xc h0 h1 λp _ _ k=>?_]
 .cases g q
  .rfl
  lia
 .rw[Xt λz=>k z.symm];split<;>rfl
def Q1(hx:0<=S.po (e a).1/\S.po (e a).1<(S.n:Int))(hy:0<=S.po (e a).2/\S.po (e a).2<(S.n:Int)):bG S e g a=aJ (λp=>if g p then iP S e a p else 0) S.n:=by
 unfold bG;by_cases z:S.po (e a).1=S.po (e a).2
 .rw[V4 z];refine(jX λp _ _=>?_).symm;unfold iP;lia
 .rw[Wh z,<-Ib _ g hx.1 hx.2,<-Ib _ g hy.1 hy.2,<-jY];refine fX λp _ _=>?_;unfold iP;split<;>simp
theorem wV{f:Int->Int}:∀{F:Ql Int},(∀a∈F,0<=f a)->0<=(F.map f).sum/\∀a∈F,f a<=(F.map f).sum
 |[],_=>⟨Tq _,λa h=>nomatch h⟩
 |b::F,h=>by
  obtain⟨i1,i2⟩:=wV (F:=F) λx hx=>h x (Rx _ hx);have hb:=h b (Rz ..);rw[RK,Sj];refine⟨by lia,λa ha=>?_⟩;rcases RB.mp ha with z|z
  .rw[z];lia
  .have:=i2 a z;lia
theorem Cu{f:Int->Int}:∀{F:Ql Int},(∀a∈F,0<=f a)->∀{a b:Int},a∈F->b∈F->a≠b->f a+f b<=(F.map f).sum
 |[],_,_,_,h,_,_=>nomatch h
 |c::F,h,a,b,ha,hb,ne=>by
  have h':∀x∈F,0<=f x:=λx hx=>h x (Rx _ hx);have m:=wV h';have hc:=h c (Rz ..);rw[RK,Sj];rcases RB.mp ha with z|z
  .rcases RB.mp hb with y|y
   .lia
   .simp_all
  .rcases RB.mp hb with y|y
   .rw[y];have:=m.2 a z;lia
   .have:=Cu h' z y ne;lia
theorem CF(q:Int->Bool):∀n:Nat,aJ (λp=>if q p then 1 else 0) n=((aE n).filter q).length
 |0=>rfl
 |n+1=>by show aJ _ n+(if q n then 1 else 0)=_;rw[CF q n,Es];cases z:q n<;>simp[z]
def Po(hd:W9 M e w nt ws S)(hO:Ok M e w nt S)(hE:eM M e nt)(hP:∀x∈ws,(0<=x.1/\x.1<(M:Int))/\0<=x.2/\x.2<(M:Int))(hT:X6 e T)(X2:∀a∈T,0<=a/\a<(nt:Int))(sub:∀a∈S.tk,a∈T)(nd:F.Nodup)(fT:∀a∈F,a∈T)(join:∀x∈ws,Eqv (F.map e) x.1 x.2)(min:∀a∈F,∃x∈ws,¬Eqv ((wo F a).map e) x.1 x.2):(F.map (bG S e (bc (bF S ws)))).sum<=2*aJ (λp=>if bc (bF S ws) p then 1 else 0) S.n:=by
 have ZC:∀a∈F,((0<=(e a).1/\(e a).1<(M:Int))/\0<=(e a).2/\(e a).2<(M:Int))/\(0<=S.po (e a).1/\S.po (e a).1<(S.n:Int))/\(0<=S.po (e a).2/\S.po (e a).2<(S.n:Int)):=λa ha=>by obtain⟨a0,a1⟩:=X2 a (fT a ha);obtain⟨⟨x0,x1⟩,y0,y1⟩:=hE a a0 a1;exact⟨⟨⟨x0,x1⟩,y0,y1⟩,hO.Yd _ x0 x1,hO.Yd _ y0 y1⟩
 let g:=bc (bF S ws)
 let Zu:Int->Int:=λp=>(F.map λa=>iP S e a p).sum
 let Y3:Int->Bool:=λp=>F.any λa=>decide (S.po (e a).1≠S.po (e a).2)&&(decide (S.po (e a).1=p)||decide (S.po (e a).2=p))
 have all:∀g:Int->Bool,(F.map (bG S e g)).sum=aJ (λp=>if g p then Zu p else 0) S.n:=λg=>by
  have e1:F.map (bG S e g)=F.map λa=>aJ (λp=>if g p then iP S e a p else 0) S.n:=SF λa ha=>Q1 (ZC a ha).2.1 (ZC a ha).2.2;rw[e1,Cv];refine fX λp _ _=>?_;cases g p
  .have:∀G:Ql _,(G.map λa=>if Qf=Qt then iP S e a p else 0).sum=0:=by
    intro G
    induction G with
    |nil=>rfl
    |cons b G ih=>rw[RK,Sj,ih];rfl
   exact this F
  .rfl
 have zgP:∀p,0<=Zu p:=λp=>(wV λa _=>G8 S e a p).1
 -- zm5 between pieces are no more zm7 the pieces zfn zm6 zm2
 have Xq:aJ Zu S.n<=2*aJ (λp=>if Y3 p then 1 else 0) S.n:=by
  have e1:=all λ_=>Qt;have e2:aJ (λp=>if(λ_=>Qt) p then Zu p else 0) S.n=aJ Zu _:=rfl;rw[e2]at e1;rw[<-e1,CF];let H:=F.filter λa=>decide (S.po (e a).1≠S.po (e a).2)
  have hb:∀G:Ql _,(G.map (bG S e λ_=>Qt)).sum=2*((G.filter λa=>decide (S.po (e a).1≠S.po (e a).2)).length):=by
   intro G
   induction G with
   |nil=>rfl
   |cons b G ih=>
    rw[RK,Sj,ih,TF];unfold bG;by_cases z:S.po (e b).1=S.po (e b).2
    .simp_all
    .rw[Wh z,V4 (by simp[z]),Su];have q1:fU ((λ_=>Qt) (S.po (e b).1))=1:=rfl;lia
  rw[hb F];have hH:∀a∈H,a∈T/\S.po (e a).1≠S.po (e a).2:=λa ha=>by obtain⟨h1,h2⟩:=RY.mp ha;exact⟨fT a h1,of_decide_eq_true h2⟩
  have:=PD (V:=(aE S.n).filter Y3) (λv hv=>(dy (RY.mp hv).1).1) (X6.con hd hO hE hT X2 sub (nd.filter _) hH) λa ha=>by
   obtain⟨h1,h2⟩:=RY.mp ha;have r:=ZC a h1;refine⟨RY.mpr ⟨jy r.2.1.1 r.2.1.2,UI.mpr ⟨a,h1,?_⟩⟩,RY.mpr ⟨jy r.2.2.1 r.2.2.2,UI.mpr ⟨a,h1,?_⟩⟩⟩
   .rw[h2];simp
   .rw[h2];simp
  have:H.length<=((aE S.n).filter Y3).length:=this;lia
 -- a znc zfn znC not grow is touched by Qn or by two
 have two:∀p,0<=p->p<(S.n:Int)->g p=Qf->(if Y3 p then 2 else 0)<=Zu p:=λp p0 p1 gp=>by
  cases tp:Y3 p with
  |false=>rw[Wh (by decide)];exact zgP p
  |true=>
   rw[V4 rfl];obtain⟨a,ha,ta⟩:=UI.mp tp;rw[RJ,US,XT,XT,XT]at ta;obtain⟨ne,ta⟩:=ta;have big:∀b,S.po (e b).1≠S.po (e b).2->(S.po (e b).1=p\/S.po (e b).2=p)->1<=iP S e b p:=λb nb tb=>by
    unfold iP;rw[Wh nb];have h1:=lI (decide (S.po (e b).1=p));have h2:=lI (decide (S.po (e b).2=p));rcases tb with z|z
    .rw[Ww z];have:fU Qt=1:=rfl;lia
    .rw[Ww z];have:fU Qt=1:=rfl;lia
   have ba:=big a ne ta;by_cases ex:∃b∈F,b≠a/\S.po (e b).1≠S.po (e b).2/\(S.po (e b).1=p\/S.po (e b).2=p)
   .obtain⟨b,hb,nb,n2,tb⟩:=ex;have bb:=big b n2 tb;have:=Cu (f:=λa=>iP S e a p) (λa _=>G8 S e a p) hb ha nb;show 2<=(F.map λa=>iP S e a p).sum;lia
   .exfalso;obtain⟨z,⟨z0,z1⟩,pz⟩:∃z,(0<=z/\z<(M:Int))/\p=S.po z:=by
     rcases ta with k|k
     .exact⟨_,(ZC a ha).1.1,k.symm⟩
     .exact⟨_,(ZC a ha).1.2,k.symm⟩
    have mem:∀u,0<=u->u<(M:Int)->(u∈S.pt p↔S.po u=p):=λu u0 u1=>by rw[pz,hO.cur z z0 z1];exact⟨λq=>q.2.2,λq=>⟨u0,u1,q⟩⟩
    have YQ:∀u v,Eqv ((wo F a).map e) u v->(u∈S.pt p↔v∈S.pt p):=λu v q=>q.pred (p:=λx=>x∈S.pt p) λx hx=>by
     obtain⟨b,hb,rfl⟩:=RU.mp hx;obtain⟨b1,b2⟩:=X1.mp hb;obtain⟨⟨⟨x0,x1⟩,y0,y1⟩,_⟩:=ZC b b1;rw[mem _ x0 x1,mem _ y0 y1];by_cases q:S.po (e b).1=S.po (e b).2
     .rw[q]
     .constructor
      .intro k;exact absurd ⟨b,b1,b2,q,.inl k⟩ ex
      .intro k;exact absurd ⟨b,b1,b2,q,.inr k⟩ ex
    obtain⟨x,hx,nx⟩:=min a ha;obtain⟨⟨⟨a0,a1⟩,c0,c1⟩,_⟩:=ZC a ha;have la:¬((e a).1∈S.pt p↔(e a).2∈S.pt p):=by
     rw[mem _ a0 a1,mem _ c0 c1];rcases ta with k|k
     .intro q;exact ne (k.trans (q.mp k).symm)
     .intro q;exact ne ((q.mpr k).trans k.symm)
    have lx:¬(x.1∈S.pt p↔x.2∈S.pt p):=by
     rcases(join x hx).two (IC (e:=e) a) with k|⟨k,l⟩|⟨k,l⟩
     .exact absurd k nx
     .rw[YQ _ _ k,<-YQ _ _ l];exact la
     .rw[YQ _ _ k,<-YQ _ _ l];exact λq=>la q.symm
    obtain⟨⟨x0,x1⟩,y0,y1⟩:=hP x hx;rw[mem _ x0 x1,mem _ y0 y1]at lx;have:p∈bF S ws:=zaX.mpr ⟨x,hx,λq=>lx (by rw[q]),by
     by_cases q:S.po x.1=p
     .exact .inl q.symm
     .exact .inr (Sw λk=>lx ⟨λr=>absurd r q,λr=>absurd r.symm k⟩)⟩
    have:g p=Qt:=Ww this;rw[gp]at this;cases this
 rw[all];have s1:aJ Zu S.n=aJ (λp=>if g p then Zu p else 0) S.n+aJ (λp=>if g p then 0 else Zu p) S.n:=by rw[<-jY];refine fX λp _ _=>?_;cases g p<;>simp
 have s2:aJ (λp=>if Y3 p then 1 else 0) S.n=aJ (λp=>if g p then(if Y3 p then 1 else 0) else 0) S.n+aJ (λp=>if g p then 0 else(if Y3 p then 1 else 0)) S.n:=by rw[<-jY];refine fX λp _ _=>?_;cases g p<;>simp
 have s3:2*aJ (λp=>if g p then 0 else(if Y3 p then 1 else 0)) S.n<=aJ (λp=>if g p then 0 else Zu p) S.n:=by
  rw[<-l7];refine pK λp p0 p1=>?_;cases gp:g p with
  |true=>simp
  |false=>
   have t2:=two p p0 p1 gp;show 2*(if Y3 p=Qt then 1 else 0)<=Zu p;cases tp:Y3 p with
   |false=>have:=zgP p;rw[Wh RD];lia
   |true=>rw[tp,V4 rfl]at t2;rw[V4 rfl];lia
 have s4:aJ (λp=>if g p then(if Y3 p then 1 else 0) else 0) S.n<=aJ (λp=>if g p then 1 else 0) S.n:=by refine pK λp _ _=>?_;cases g p<;>cases Y3 p<;>decide
 show aJ (λp=>if g p then Zu p else 0) S.n<=2*aJ (λp=>if g p then 1 else 0) S.n;lia
def Oo(h:W9 M e w nt ws S)(hO:Ok M e w nt S)(hE:eM M e nt)(hg:Gr M ws S g) (s0:0<=st)(a0:0<=a)(a1:a<(nt:Int)):cx (Xs S g st) (e a)=cx S (e a)+bG S e g a*st:=by
 obtain⟨⟨x0,x1⟩,y0,y1⟩:=hE a a0 a1;have h2:=h.Xs hO hE hg s0;have mem:∀p v,g p=Qt->0<=v->v<(M:Int)->(v∈S.pt p↔S.po v=p):=λp v gp v0 v1=>by
  obtain⟨u,⟨u0,u1⟩,rfl⟩:=hg.now p gp;rw[hO.cur u u0 u1]
  simp_all
 by_cases k:S.po (e a).1=S.po (e a).2
 .have:bG S e g a=0:=by unfold bG;rw[V4 k]
  rw[this,Int.zero_mul,TJ];unfold cx;refine fX λp p0 p1=>?_;show(if bU (S.pt p) (e a) then S.wd p+(if g p then st else 0) else 0)=_;by_cases gp:g p=Qt
  .have:bU (S.pt p) (e a)=Qf:=zdc.mpr (by simp_all);lia
  .rw[Wh gp,TJ]
 .have e1:cx (KX.Xs S g st) (e a)=iU (KX.Xs S g st) (e a).1+iU (KX.Xs S g st) (e a).2:=by
   unfold cx iU;rw[<-jY];refine fX λp p0 p1=>?_;have p1:=p1;show(if bU (S.pt p) _ then(KX.Xs S g _).wd p else 0)=(if(e a).1∈S.pt p then(KX.Xs S g _).wd p else 0)+(if(e a).2∈S.pt p then(KX.Xs S g _).wd p else 0);by_cases q:(e a).1∈S.pt p
   .have b:=λb=>k (hO.one p p0 p1 _ q _ b);rw[zcf.mpr λz=>b (z.mp q),V4 rfl,V4 q,Wh b];lia
   .by_cases b:(e a).2∈S.pt p
    .rw[zcf.mpr λz=>q (z.mpr b),V4 rfl,Wh q,V4 b];lia
    .rw[zdc.mpr ⟨λz=>absurd z q,λz=>absurd z b⟩,Wh q,Wh b];rfl
  rw[e1,((Fm hO k)),<-h2.ar _ x0 x1,<-h2.ar _ y0 y1,<-h.ar _ x0 x1,<-h.ar _ y0 y1];show S.ar _+(if g _ then st else 0)+(S.ar _+(if g _ then st else 0))=_;unfold bG;rw[Wh k,VI];have one:∀b,fU b*st=if b then st else 0:=λb=>by cases b<;>simp[fU]
  rw[one,one];lia
def Om(S:PS)(d:Eg):cx (W4 S) d=2*cx S d:=by unfold cx;rw[<-l7];refine fX λp p0 p1=>?_;show(if bU (S.pt p) d then 2*S.wd p else 0)=_;split<;>lia
def Ol(S:PS)(e:Int->Eg)(a:Int)(d:Eg):cx (WX S e a) d=cx S d:=by
 show aJ _ _+(if bU _ d then(WX S e a).wd _ else 0)=_;have wdN:(WX S e a).wd _=0:=V4 rfl;rw[wdN];have:(if bU ((WX S e a).pt S.n) d then(0:Int) else 0)=0:=by lia
 rw[this,TJ];refine fX λp p0 p1=>?_;have ne:p≠S.n:=by lia
 have e1:(WX S e a).pt p=S.pt p:=Wh ne;have e2:(WX S e a).wd p=S.wd p:=Wh ne;rw[e1,e2]
def II(S:PS)(e:Int->Eg)(a:Int):aJ (WX S e a).wd (WX S e a).n=aJ S.wd S.n:=by show aJ _ _+(WX S e a).wd _=_;have wdN:(WX S e a).wd _=0:=V4 rfl;rw[wdN,TJ];exact fX λp p0 p1=>Wh (by lia)
def IJ(S:PS):aJ (W4 S).wd (W4 S).n=2*aJ S.wd S.n:=l7 2 _ _
def IK(S:PS)(g:Int->Bool)(st:Int):aJ (Xs S g st).wd (Xs S g st).n=aJ S.wd S.n+st*aJ (λp=>if g p then 1 else 0) S.n:=by rw[<-l7,<-jY];refine fX λp _ _=>?_;show S.wd p+(if g p then st else 0)=S.wd p+st*(if g p then 1 else 0);split<;>lia
def Jl(h:a∈S.tk):a∈(cJ e w nt ws S).tk:=by
 unfold cJ;split
 .assumption
 .exact Rw _ h
theorem Ck:∀(n:Nat){S:PS},a∈S.tk->a∈(dG e w nt ws n S).tk
 |0,S,h=>h
 |n+1,S,h=>by
  unfold dG;split
  .assumption
  .exact Ck n (Jl h)
def sq(e:Int->Eg)(F:Ql Int)(S:PS):Prop:=(F.map λa=>cx S (e a)).sum<=2*aJ S.wd S.n
def wW{f g:Int->Int}{F:Ql Int}(h:∀a∈F,f a=g a):(F.map f).sum=(F.map g).sum:=by rw[SF h]
theorem CA(f g:Int->Int):∀F:Ql Int,(F.map λa=>f a+g a).sum=(F.map f).sum+(F.map g).sum
 |[]=>rfl
 |a::F=>by rw[RK,RK,RK,Sj,Sj,Sj,CA f g F];lia
theorem Cw(c:Int):∀F:Ql Int,(F.map λa=>c*f a).sum=c*(F.map f).sum
 |[]=>by simp
 |a::F=>by rw[RK,RK,Sj,Sj,Cw c F,XM]
theorem Cb(hE:eM M e nt)(hP:∀x∈ws,(0<=x.1/\x.1<(M:Int))/\0<=x.2/\x.2<(M:Int))(hw:∀w∈ws,Eqv (gi e nt) w.1 w.2)(hT:X6 e T)(X2:∀a∈T,0<=a/\a<(nt:Int))(nd:F.Nodup)(fT:∀a∈F,a∈T)(join:∀x∈ws,Eqv (F.map e) x.1 x.2)(min:∀a∈F,∃x∈ws,¬Eqv ((wo F a).map e) x.1 x.2):∀(n:Nat) (S:PS),Run M e w nt ws S->W9 M e w nt ws S->(∀a∈(dG e w nt ws n S).tk,a∈T)->sq e F S->sq e F (dG e w nt ws n S)
 |0,S,_,_,_,h=>h
 |n+1,S,r,d,sub,h=>by
  have zh3:∀a∈S.tk,a∈T:=λa ha=>sub a (Ck (n+1) ha);unfold dG at sub ⊢;by_cases z:bF S ws=[]
  .rw[V4 z];assumption
  .rw[Wh z]at sub ⊢;refine Cb hE hP hw hT X2 nd fT join min n _ (r.step hE hw z).1 (d.step r.ok hE hP hw z) sub ?_;unfold sq at h ⊢;cases hf:fQ S e w _ _ with
   |some a=>
    have es:cJ e w nt ws S=KX.WX S e a:=by unfold cJ;rw[hf]
    rw[es,II,wW λb _=>Ol S e a _];assumption
   |none=>
    have es:cJ e w nt ws S=Xs (W4 S) (bc (bF S ws)) (gn S e w (bc (bF S ws)) nt):=by unfold cJ;rw[hf];rfl
    rw[es,IK,IJ];have p:=wY (rM r.ok hE hw z) hf;generalize gn S e w _ _=st at p ⊢;have e1:(F.map λa=>cx (KX.Xs (KX.W4 S) (bc (bF S ws)) st) (e a)).sum=2*(F.map λa=>cx S (e a)).sum+(F.map (bG S e (bc (bF S ws)))).sum*st:=by rw[<-sX,<-Cw,<-CA];refine wW λa ha=>?_;obtain⟨a0,a1⟩:=X2 a (fT a ha);rw[Oo d.W4 r.ok.W4 hE (⟨(va r.ok hP).now,(va r.ok hP).prt⟩) (Sd p) a0 a1,Om];rfl
    have e2:st*aJ _ (KX.W4 S).n=st*aJ (λp=>if bc (bF S ws) p then 1 else 0) S.n:=rfl;have m:=Sz (Po d r.ok hE hP hT X2 zh3 nd fT join min) (Sd p);lia
structure zdy(M:Nat)(e:Int->Eg)(w:Int->Int)(nt:Nat)(ws:List Eg)(S:PS)(F:List Int):Prop where
 ok:Ok M e w nt S
 zbQ:W9 M e w nt ws S
 fst:X6 e S.tk
 nd:F.Nodup
 sub:∀a∈F,a∈S.tk
 inF:∀a∈F,0<=a/\a<(nt:Int)
 join:∀x∈ws,Eqv (F.map e) x.1 x.2
 min:∀a∈F,∃x∈ws,¬Eqv ((wo F a).map e) x.1 x.2
def zdy.mk'(hE:eM M e nt)(h0:∀a,0<=a->a<(nt:Int)->0<=w a)(hP:∀x∈ws,(0<=x.1/\x.1<(M:Int))/\0<=x.2/\x.2<(M:Int))(hw:∀w∈ws,Eqv (gi e nt) w.1 w.2)(hn:ms M e w nt ws (PS.new M)<n)(nd:F.Nodup)(sub:∀a∈F,a∈(dG e w nt ws n (PS.new M)).tk)(join:∀x∈ws,Eqv (F.map e) x.1 x.2)(min:∀a∈F,∃x∈ws,¬Eqv ((wo F a).map e) x.1 x.2):zdy M e w nt ws (dG e w nt ws n (PS.new M)) F:=by have r0:Run M e w _ ws _:=Run.new h0;have d0:W9 M e w _ ws _:=W9.new h0;have r:=(nS hE hw n _ r0 hn).2;exact⟨r.ok,(W9.run hE hP hw n _ r0 d0),(X6.run hE hP hw n _ r0 d0 (X6.nil e)),nd,sub,λa ha=>r.ok.ZV a (sub a ha),join,min⟩
def IU(hE:eM M e nt)(h0:∀a,0<=a->a<(nt:Int)->0<=w a)(hP:∀x∈ws,(0<=x.1/\x.1<(M:Int))/\0<=x.2/\x.2<(M:Int))(hw:∀w∈ws,Eqv (gi e nt) w.1 w.2)(hn:ms M e w nt ws (PS.new M)<n)(nd:F.Nodup)(sub:∀a∈F,a∈(dG e w nt ws n (PS.new M)).tk)(join:∀x∈ws,Eqv (F.map e) x.1 x.2)(min:∀a∈F,∃x∈ws,¬Eqv ((wo F a).map e) x.1 x.2):(F.map w).sum*(dG e w nt ws n (PS.new M)).pa<=2*aJ (dG e w nt ws n (PS.new M)).wd (dG e w nt ws n (PS.new M)).n:=by
 have r0:Run M e w _ ws _:=Run.new h0;have d0:W9 M e w _ ws _:=W9.new h0;have d:=W9.run hE hP hw n _ r0 d0;have t:=Cb hE hP hw (X6.run hE hP hw n _ r0 d0 (X6.nil e)) ((nS hE hw n _ r0 hn).2).ok.ZV nd sub join min n _ r0 d0 (λa ha=>ha) (by
  unfold sq;have l0:∀d,cx (PS.new M) d=0:=λd=>by refine jX λp p0 p1=>?_;split<;>rfl
  have:∀G:Ql _,(G.map λa=>cx (PS.new M) (e a)).sum=0:=by
   intro G
   induction G with
   |nil=>rfl
   |cons b G ih=>simp_all
  rw[this F,show aJ (PS.new M).wd _=0 from jX λ_ _ _=>rfl];decide)
 unfold sq at t;rw[wW λa ha=>d.tgt a (sub a ha),sX]at t;assumption
def Jk(d:W9 M e w nt ws S)(hO:Ok M e w nt S)(hP:∀x∈ws,(0<=x.1/\x.1<(M:Int))/\0<=x.2/\x.2<(M:Int))(hn:bF S ws=[]):∀x∈ws,Eqv (S.tk.map e) x.1 x.2:=λx hx=>by obtain⟨⟨x0,x1⟩,y0,y1⟩:=hP x hx;have px:=hO.Yd _ x0 x1;refine(d.con _ px.1 px.2 _ ((hO.cur _ x0 x1 _).mpr ⟨x0,x1,rfl⟩) _ ((hO.cur _ x0 x1 _).mpr ⟨y0,y1,(zfb.mp hn x hx).symm⟩)).mono λy hy=>(RY.mp hy).1
def pV(hE:eM M e nt)(hL:∀a∈L,0<=a/\a<(nt:Int)):iZ e ws L=Qt↔∀x∈ws,Eqv (L.map e) x.1 x.2:=by
 have k:∀d∈L.map e,0<=d.1/\0<=d.2:=λd hd=>by obtain⟨a,ha,rfl⟩:=RU.mp hd;have:=hE a (hL a ha).1 (hL a ha).2;lia
 unfold iZ;rw[SW];constructor
 .intro h x hx;exact((uC k).iff _ _).mp (of_decide_eq_true (h x hx))
 .intro h x hx;exact Ww (((uC k).iff _ _).mpr (h x hx))
def i9(J:XG M ts wl ws):zdy M (aC ts) (bp wl) ts.length ws (aI M ts wl ws) (dW M ts wl ws):=by
 have hE:=jf J.Yr;have h0:∀a,0<=a->a<(ts.length:Int)->0<=bp wl a:=λa a0 a1=>(J.wt a a0 a1).1;have hP:∀x∈ws,(0<=x.1/\x.1<(M:Int))/\0<=x.2/\x.2<(M:Int):=J.Zp;have hm:ms M (aC ts) (bp wl) ts.length ws (PS.new M)<200:=by have:=(pY (e:=aC ts) (w:=bp wl) (nt:=ts.length) (ws:=ws) J.Xq.1).1;lia
 have r0:Run M (aC ts) (bp wl) ts.length ws (PS.new M):=Run.new h0;obtain⟨en,r⟩:=nS hE J.all 200 _ r0 hm;have d:=W9.run hE hP J.all 200 _ r0 (W9.new h0);have f:=X6.run hE hP J.all 200 _ r0 (W9.new h0) (X6.nil (aC ts));have tk:=Jk d r.ok hP en;have eS:gy (aC ts) ws=gU (iZ (aC ts) ws):=rfl;let tkL:=(aI M ts wl ws).tk
 let F0:=tkL.reverse.foldl (gU (iZ (aC ts) ws)) tkL
 have eF:dW M ts wl ws=e9 F0:=rfl;have pm:∀x,x∈e9 F0↔x∈F0:=λx=>(jW F0).mem_iff;have rT:∀x∈tkL,0<=x/\x<(ts.length:Int):=r.ok.ZV;have sF:∀x∈F0,x∈tkL:=λx hx=>tN hx;have rF:∀x∈F0,0<=x/\x<(ts.length:Int):=λx hx=>rT x (sF x hx);rw[eF];refine zdy.mk' hE h0 hP J.all hm ((jW F0).nodup_iff.mpr (C5 f.1)) (λa ha=>sF a ((pm a).mp ha)) (λx hx=>?_) λa ha=>?_
 .have:=(pV hE rF).mp (C3 ((pV hE rT).mpr tk)) x hx;exact this.mono (mr λy hy=>(pm y).mpr hy)
 .have ha:=(pm a).mp ha;refine Sw λn=>?_;have:=(pV hE (λx hx=>rF x (X1.mp hx).1)).mpr λx hx=>Sw λq=>n ⟨x,hx,λz=>q (z.mono (mr λy hy=>X1.mpr ⟨(pm y).mp (X1.mp hy).1,(X1.mp hy).2⟩))⟩;rw[show iZ _ _ _=Qf from(C6 (λK L hL hK h=>(pV hE hL).mpr λx hx=>((pV hE λy hy=>hL y (hK y hy)).mp h x hx).mono (mr hK)) rT (List.mem_reverse.mpr (sF a ha)) ha)]at this;cases this
theorem EJ(s0 s1:Sl):∀(n a b:Nat),b<n->fL zg uz n [s0,s1,.val (.int (a:Int)),.val (.int (b:Int))]=Qs (.nx [s0,s1,.val (.int (S6 a b:Int)),.val (.int 0)])
 |0,a,b,h=>by lia
 |n+1,a,b,h=>by
  have ec:zg [s0,s1,.val (.int (a:Int)),.val (.int (b:Int))]=Qs (decide ((0:Int)<(b:Int))):=qW (fa:=af 3) (fb:=dC (.int 0)) (a:=(b:Int)) (b:=0) rfl rfl;unfold fL;rw[ec];by_cases hb:b=0
  .subst hb;simp
  .rw[Ww (by lia)];have eb:uz [s0,s1,.val (.int a),.val (.int b)]=Qs (.nx [s0,s1,.val (.int b),.val (.int ((a % b:Nat)))]):=by
    unfold uz jI;have:(ae (af 3) (ae (d2 qR (af 2) (af 3)) aq)) [s0,s1,.val (.int a),.val (.int b)]=Qs [.cl (.int b),.cl (.int ((a:Int).fmod b))]:=by simp[ae,aq,d2,af,kI,mY,Ev.d,hb]
    rw[this,GS a b (by lia)];rfl
   simp only[RF,if_true,eb];rw[EJ _ _ n b _ (by have:=Nat.mod_lt a (show 0<b by lia);lia),Vw b,<-XI,Vw b]
def N6(s m:Nat)(h0:0<m)(h:m<DL.Wq):m6 [.int (s:Int),.int (m:Int)]=Qs (.cl (pD (bg (s:Int) (m:Int)))):=by
 have g0:0<S6 s m:=Tn _ h0;have gs:sm (S6 s m)=Qt:=kO (Sr (UG _ h0) h);let A:Sl:=.val (.int s)
 let B:Sl:=.val (.int m)
 let t0:=[A,B,.no,.no]
 have c1:(ag qK (ae (af 0) aq)) t0=Qs _:=rfl;let t1:=[A,B,.val (.int s),.no]
 let t3:=[A,B,.val (.int (S6 s m)),.val (.int 0)]
 have d1:=mS (fa:=af 0) (fb:=af 2) (t:=t3) rfl rfl (by lia) gs;have Z6:=mS (fa:=af 1) (fb:=af 2) (t:=t3) rfl rfl (by lia) gs;rw[vp]at d1 Z6;refine Wq ((aG (hX c1 (by simp[t0]))).trans ((aG (hX (rfl:af 1 t1=Qs _) (by simp[t1]))).trans ((aG (EJ A B (((m:Int).natAbs)+1) s m (by lia))).trans (fg ((dm d1 Z6).trans rfl)))))
def EK(a0:0<=a)(b0:0<b)(h:b<(DL.Wq:Int)):m6 [.int a,.int b]=Qs (.cl (pD (bg a b))):=by obtain⟨A,rfl⟩:=Sk a0;obtain⟨B,rfl⟩:=Sk (Sd b0);exact N6 A B (by lia) (by lia)
theorem Bd.run{M W:Nat}(hE:eM M e nt)(hw:∀a,0<=a->a<(nt:Int)->0<=w a/\w a<=(W:Int))(hq:∀w∈ws,Eqv (gi e nt) w.1 w.2):∀(n k:Nat){S:PS},Bd M W k S->Run M e w nt ws S->Bd M W (k+n) (dG e w nt ws n S)
 |0,k,S,h,_=>h
 |n+1,k,S,h,r=>by
  unfold dG;by_cases z:bF S ws=[]
  .rw[V4 z];exact h.up (by lia)
  .have:=Bd.run hE hw hq n _ (h.step r hE hw hq z) (r.step hE hq z).1;lia
structure zmT(M:Nat)(ts:List (Int×Int))(wl:List Int)(ws:List Eg):Prop where
 bd:Bd M (10^20) 200 (aI M ts wl ws)
 ok:Ok M (aC ts) (bp wl) ts.length (aI M ts wl ws)
 Xq:(aI M ts wl ws).tk.length<=36
def XG.end(J:XG M ts wl ws):zmT M ts wl ws:=by have hE:=jf J.Yr;have r0:Run M (aC ts) _ _ ws _:=Run.new λa a0 a1=>(J.wt a a0 a1).1;have m0:=(pY (e:=aC ts) (w:=bp wl) (nt:=ts.length) (ws:=ws) J.Xq.1);obtain⟨_,re⟩:=nS hE J.all 200 _ r0 (by lia);exact⟨(Bd.run hE J.wt J.all 200 0 (Bd.new) r0),re.ok,by have:(aI M _ _ _).tk.length+mu M _<=mu M _:=re.Xq;lia⟩
def rH(a0:0<=a)(a1:a<(DL.Wq:Int))(b0:0<b)(b1:b<(DL.Wq:Int)):(0<=(bg a b).1/\(bg a b).1<(DL.Wq:Int))/\0<(bg a b).2/\(bg a b).2<(DL.Wq:Int):=by have g1:S6 a.toNat _<=b.toNat:=UG _ (by lia);have q1:=TM a.toNat (S6 a.toNat b.toNat);have q2:=TM b.toNat (S6 a.toNat b.toNat);have q3:=XN g1 (Tn _ (by lia));unfold bg;lia
def PM{A B C E:Nat}(hB:0<B)(hE:0<E)(h:A*E=C*B):A/S6 A B=C/S6 C E/\B/S6 A B=E/S6 C E:=by
 have a1:A/S6 A B=A*E/S6 (A*E) (B*E):=by rw[Uu,TY _ _ hE]
 have a2:B/S6 A B=B*E/S6 (A*E) (B*E):=by rw[Uu,TY _ _ hE]
 have c1:C/S6 C E=C*B/S6 (C*B) (E*B):=by rw[Uu,TY _ _ hB]
 have c2:E/S6 C E=E*B/S6 (C*B) (E*B):=by rw[Uu,TY _ _ hB]
 rw[a1,a2,U3 B E];lia
def vi(a0:0<=a)(b0:0<b)(c0:0<=c)(d0:0<d)(h:a*d=c*b):bg a b=bg c d:=by
 obtain⟨A,rfl⟩:=Sk a0;obtain⟨B,rfl⟩:=Sk (Sd b0);obtain⟨C,rfl⟩:=Sk c0;obtain⟨E,rfl⟩:=Sk (Sd d0);have k:=PM (B:=B) (E:=E) (by lia) (by lia) (by exact_mod_cast h);unfold bg
 simp_all
def lC(a0:0<=a)(b0:0<b):(bg a b).1*b=a*(bg a b).2:=by
 obtain⟨A,rfl⟩:=Sk a0;obtain⟨B,rfl⟩:=Sk (Sd b0);have g0:0<S6 A B:=Tn _ (by lia);unfold bg;simp;exact_mod_cast (by
  obtain⟨x,hx⟩:=V3 A B;obtain⟨y,hy⟩:=VT A B;generalize S6 A B=g at*
  rw[show A/g=x by rw[hx];exact Vc _ g0,show B/g=y by rw[hy];exact Vc _ g0,hx,hy];rw[Nat.mul_left_comm,<-WQ])
def rG(b0:0<b):0<=(bg a b).1/\0<(bg a b).2:=by have q3:=XN (UG a.toNat (show 0<b.toNat by lia)) (Tn _ (by lia));exact⟨Uk _,by show 0<((b.toNat/S6 _ _):Int);lia⟩
def PR(a0:0<=a)(c0:0<=c)(p0:0<P):bg ((bg a P).1*(bg c P).2+(bg c P).1*(bg a P).2) ((bg a P).2*(bg c P).2)=bg (a+c) P:=by
 have ha:=lC a0 p0;have hc:=lC c0 p0;obtain⟨x0,y0⟩:=rG (a:=a) p0;obtain⟨z0,w0⟩:=rG (a:=c) p0;generalize bg a P=x at*
 generalize bg c P=y at*
 refine vi (Wr (Ux x0 (Sd w0)) (Ux z0 (Sd y0))) (Wi y0 w0) (by lia) p0 ?_
 grind
def qv(P:Int)(x:Int×Int):Int:=x.1*P/x.2
def pO(a0:0<=a)(p0:0<P):qv P (bg a P)=a:=by have:=(rG (a:=a) p0).2;unfold qv;rw[(lC a0 p0)];exact Int.mul_ediv_cancel _ (by lia)
def qB:Nat:=2^2000
def j0:qB<DL.Wq:=by decide+kernel
def KU:2^200<qB:=by decide+kernel
def KS(a0:0<a)(a1:a<(qB:Int))(b0:0<b)(b1:b<(qB:Int)):a*b<(DL.Wq:Int):=by obtain⟨A,rfl⟩:=Sk (Sd a0);obtain⟨B,rfl⟩:=Sk (Sd b0);have:=Nat.mul_lt_mul'' (show A<qB by lia) (show B<qB by lia);exact_mod_cast U4 this (by decide+kernel)
def LQ(x1:0<=x.1/\x.1<(DL.Wq:Int))(x2:0<x.2/\x.2<(qB:Int))(y1:0<=y.1/\y.1<(DL.Wq:Int))(y2:0<y.2/\y.2<(qB:Int)):o7 [pD x,pD y]=Qs (.cl (pD (bg (x.1*y.2+y.1*x.2) (x.2*y.2)))):=by
 have big:=j0;have s2:=gq (RL _) (Sd x2.1) (by lia);have s4:=gq (RL _) (Sd y2.1) (by lia);let t:Th:=[.val (pD x),.val (pD y)]
 have a1:(d2 ao ah aX) t=Qs _:=rfl;have b1:(d2 ao av aX) t=Qs _:=rfl;refine Wq (fg ((dm (mZ (gY rfl b1 (gq (RL _) x1.1 x1.2) s4) (gY rfl a1 (gq (RL _) y1.1 y1.2) s2)) (gY a1 b1 s2 s4)).trans (di (EK ?_ (Wi x2.1 y2.1) (KS x2.1 x2.2 y2.1 y2.2)) rfl)));exact Wr (Ux x1.1 (Sd y2.1)) (Ux y1.1 (Sd x2.1))
theorem EN(p0:0<P)(p1:P<(qB:Int))(s0:Sl):∀(ms:Ql (Ql Int×(Int×Int))) (a:Int) (s2 s3:Sl),0<=a->(∀x∈ms,∃w,0<=w/\x.2=bg w P)->a+(ms.map λx=>qv P x.2).sum<(DL.Wq:Int)->∃u2 u3,bY (bq 2 jR) (aW 1 (ag (aH o7) (ae av gQ))) (ms.map aO) [s0,.val (pD (bg a P)),s2,s3]=Qs (.nx [s0,.val (pD (bg (a+(ms.map λx=>qv P x.2).sum) P)),u2,u3])
 |[],a,s2,s3,_,_,_=>⟨s2,s3,by simp;rfl⟩
 |x::ms,a,s2,s3,a0,hm,hb=>by
  obtain⟨w,w0,hx⟩:=hm x (Rz ..);have ex:qv P x.2=w:=by rw[hx];exact pO w0 p0
  rw[RK,Sj]at hb;have sp:=by
   have:∀l:Ql (Ql Int×(Int×Int)),(∀x∈l,∃w,0<=w/\x.2=bg w P)->0<=(l.map λx=>qv P x.2).sum:=by
    intro l
    induction l with
    |nil=>simp
    |cons y l ih=>
     intro h;obtain⟨v,v0,hy⟩:=h y (Rz ..);have:=ih λz hz=>h z (Rx _ hz);have ey:qv P y.2=v:=by rw[hy];exact pO v0 p0
     rw[RK,Sj];lia
   exact this _ λy hy=>hm y (Rx _ hy)
  obtain⟨u2,u3,e⟩:=EN p0 p1 s0 _ (a+w) (.val (aV x.1)) (.val (pD x.2)) (by lia) (λy hy=>hm y (Rx _ hy)) (by lia);refine⟨u2,u3,?_⟩;rw[show a+((x::ms).map _).sum=a+w+(ms.map λx=>qv P x.2).sum by rw[RK,Sj];lia];refine Eq.trans ?_ e;have pb:P<DL.Wq:=by have:=j0;lia
  have fa:=rH a0 (by lia) p0 pb;have fw:=rH w0 (by lia) p0 pb;have le2:∀c,(bg c P).2<=P:=λc=>by have:=TM P.toNat (S6 c.toNat P.toNat);show((P.toNat/S6 c.toNat P.toNat))<=P;lia
  let t:=[s0,.val (pD (bg a P)),.val (aV x.1),.val (pD x.2)]
  exact gA rfl (hX ((dm (k:=aH o7) (rfl:af 1 t=Qs (.cl (pD (bg a P)))) (rfl:af 3 t=Qs (.cl (pD x.2)))).trans (di (d:=pD (bg (a+w) P)) (by
   show o7 [pD _,pD _]=_;rw[hx,LQ fa.1 ⟨fa.2.1,SU (le2 a) p1⟩ fw.1 ⟨fw.2.1,SU (le2 w) p1⟩,PR a0 w0 p0]) rfl)) (by simp[t]))
def Cj(p0:0<P)(p1:P<(qB:Int)){ms:Ql (Ql Int×(Int×Int))}(hm:∀x∈ms,∃w,0<=w/\x.2=bg w P)(hb:(ms.map λx=>qv P x.2).sum<(DL.Wq:Int)):lR [.lst (ms.map aO)]=Qs (.cl (pD (bg ((ms.map λx=>qv P x.2).sum) P))):=by
 let A:Sl:=.val (.lst (ms.map aO))
 let t0:=[A,.no,.no,.no]
 have f0:=by have:=vi (d:=1) (Tq _) p0 (Tq _) (by decide) (by simp);assumption
 obtain⟨u2,u3,e⟩:=EN p0 p1 A _ 0 .no .no (Tq _) hm (by lia);rw[Int.zero_add]at e;let t2:=[A,.val (pD (bg ((ms.map λx=>qv P x.2).sum) P)),u2,u3]
 have E2:fH _ ah _ [A,.val _,.no,.no]=Qs _:=e;exact Wq ((aG (by rw[f0];rfl)).trans ((aG E2).trans rfl))
theorem xf(f:Int->Int):∀n:Nat,aJ f n=((aE n).map f).sum
 |0=>rfl
 |n+1=>by rw[y9,Tp,List.sum_append,<-xf f n];show _=_+(f n+0);rw[TJ];rfl
theorem Cz{f:Int->Int}:∀{l:Ql Int},(∀x∈l,0<=f x)->((l.filter λp=>decide (0<f p)).map f).sum=(l.map f).sum
 |[],_=>rfl
 |x::l,h=>by
  have ih:=Cz (l:=l) λy hy=>h y (Rx _ hy);have h0:=h x (Rz ..);rw[RK,Sj];by_cases z:0<f x
  .simp_all
  .rw[Vd (by lia)];lia
def Dv{F G:Ql Int}(p:F.Perm G):F.sum=G.sum:=by
 induction p with
 |nil=>rfl
 |cons a _ ih=>rw[Sj,Sj,ih]
 |swap a b l=>simp;lia
 |trans _ _ i1 i2=>lia
def EB(J:XG M ts wl ws):(∀x∈dg M ts wl ws,∃w,0<=w/\x.2=bg w (aI M ts wl ws).pa)/\((dg M ts wl ws).map λx=>qv (aI M ts wl ws).pa x.2).sum=aJ (aI M ts wl ws).wd (aI M ts wl ws).n:=by
 have E:=J.end;have d0:=(i9 J).zbQ.wd0;have Xl:=E.ok.Xl;have pm:(dg M ts wl ws).Perm ((ic (aI M ts wl ws)).map λp=>((aI M ts wl ws).pt p,bg ((aI M ts wl ws).wd p) (aI M ts wl ws).pa)):=ZX _;generalize aI M ts wl ws=S at*
 refine⟨λx hx=>?_,?_⟩
 .obtain⟨p,hp,rfl⟩:=RU.mp (pm.mem_iff.mp hx);obtain⟨q0,q1⟩:=dy (RY.mp hp).1;exact⟨_,d0 p q0 q1,rfl⟩
 .rw[Dv (pm.map _),R6,xf];rw[<-Cz λx hx=>d0 x (dy hx).1 (dy hx).2];refine congrArg _ (SF λp hp=>?_);obtain⟨q0,q1⟩:=dy (RY.mp hp).1;exact pO (d0 p q0 q1) Xl
def Ci(J:XG M ts wl ws):aJ (aI M ts wl ws).wd (aI M ts wl ws).n<(qB:Int):=by
 have E:=J.end;have nn:(aI M ts wl ws).n<=45:=by have:=E.Xq;have:=E.ok.nM;have:=J.Xq.1;lia
 have lim:∀f (B:Nat) (n:Nat),(∀p,0<=p->p<(n:Int)->f p<=(B:Int))->aJ f n<=((n*B:Nat)):=by
  intro f B n
  induction n with
  |zero=>simp[aJ]
  |succ n ih=>intro h;have:=ih λp a b=>h p a (by lia);have:=h n (by lia) (by lia);rw[(Nat.succ_mul n B)];show aJ f n+f n<=_;lia
 refine SU (lim _ _ _ λp a b=>(E.bd.wd p a b).2) (Vx.mpr (Sr (UH _ nn) ?_));decide+kernel
def wK(J:XG M ts wl ws):aJ (aI M ts wl ws).wd (aI M ts wl ws).n<(DL.Wq:Int):=U6 (Ci J) (Vx.mpr j0)
def oj(J:XG M ts wl ws):(aI M ts wl ws).pa<(qB:Int):=SU J.end.bd.pa.2 (Vx.mpr KU)
def ON(J:XG M ts wl ws):lR [.lst ((dg M ts wl ws).map aO)]=Qs (.cl (pD (bg (aJ (aI M ts wl ws).wd (aI M ts wl ws).n) (aI M ts wl ws).pa))):=by obtain⟨h1,h2⟩:=EB J;have tot:=wK J;rw[<-h2]at tot ⊢;exact Cj J.end.ok.Xl (oj J) h1 tot
noncomputable def gS(x:Int)(R:Ql Int)(e:Eg):Ql Int:=if e.2=x/\e.1∉(if e.1=x/\e.2∉R then R++[e.2] else R) then(if e.1=x/\e.2∉R then R++[e.2] else R)++[e.1] else(if e.1=x/\e.2∉R then R++[e.2] else R)
structure Zv(M:Nat)(es:List Eg)(s:Int)(R:List Int):Prop where
 ak:AllK M R
 eq:∀x∈R,Eqv es s x
def Zv.add(h:Zv M es s R)(hx:x∈R)(e:Eqv es x y)(n:y∉R)(y0:0<=y)(y1:y<(M:Int)):Zv M es s (R++[y]):=by
 have:d9 R y=R++[y]:=by unfold d9;rw[Wh n]
 refine⟨this▸h.ak.put y0 y1,λz hz=>?_⟩;rcases Ry.mp hz with w|w
 .exact h.eq z w
 .rw[RG.mp w];exact(h.eq x hx).trans e
def CH(h:Zv M es s R)(hx:x∈R)(he:e∈es)(r1:0<=e.1/\e.1<(M:Int))(r2:0<=e.2/\e.2<(M:Int)):Zv M es s (gS x R e)/\(∃T,gS x R e=R++T)/\(e.1=x->e.2∈gS x R e)/\(e.2=x->e.1∈gS x R e):=by
 unfold gS;have k1:Zv M es s (if e.1=x/\e.2∉R then R++[e.2] else R)/\(∃T,(if e.1=x/\e.2∉R then R++[e.2] else R)=R++T)/\(e.1=x->e.2∈(if e.1=x/\e.2∉R then R++[e.2] else R)):=by
  split
  .rename_i c;exact⟨h.add hx (c.1▸.Zd he) c.2 r2.1 r2.2,⟨_,rfl⟩,λ_=>by simp⟩
  .simp_all
 generalize (if e.1=x/\e.2∉R then R++[e.2] else R)=R1 at*
 obtain⟨h1,⟨T,eT⟩,m1⟩:=k1;have hx1:x∈R1:=by rw[eT];exact Rw _ hx
 split
 .rename_i c;exact⟨h1.add hx1 (c.1▸(.symm (.Zd he))) c.2 r1.1 r1.2,⟨_,by rw[eT,SI]⟩,λz=>Rw _ (m1 z),λ_=>by simp⟩
 .grind
theorem xi{M:Nat}(hr:∀e∈es,(0<=e.1/\e.1<(M:Int))/\0<=e.2/\e.2<(M:Int)):∀(fs:Ql Eg){R:Ql Int},Zv M es s R->x∈R->(∀e∈fs,e∈es)->Zv M es s (fs.foldl (gS x) R)/\(∃T,fs.foldl (gS x) R=R++T)/\∀e∈fs,(e.1=x->e.2∈fs.foldl (gS x) R)/\(e.2=x->e.1∈fs.foldl (gS x) R)
 |[],R,h,_,_=>⟨h,⟨[],by simp⟩,λe he=>(by cases he)⟩
 |e::fs,R,h,hx,hf=>by
  have he:=hf e (Rz ..);obtain⟨h1,⟨T,eT⟩,m1,m2⟩:=CH h hx he (hr e he).1 (hr e he).2;obtain⟨h2,⟨U,eU⟩,m3⟩:=xi hr _ h1 (by rw[eT];exact Rw _ hx) λe' he'=>hf _ (Rx _ he')
  grind
def gD(es:Ql Eg):Nat->Nat->Ql Int->Ql Int
 |0,_,R=>R
 |n+1,a,R=>if a<R.length then gD es n (a+1) (es.foldl (gS (R.getD a 0)) R) else R
def Xb(es:Ql Eg)(R:Ql Int)(x:Int):Prop:=∀e∈es,(e.1=x->e.2∈R)/\(e.2=x->e.1∈R)
theorem HU{M:Nat}(hr:∀e∈es,(0<=e.1/\e.1<(M:Int))/\0<=e.2/\e.2<(M:Int)):∀(n a:Nat) (R:Ql Int),Zv M es s R->s∈R->(∀x∈R.take a,Xb es R x)->M+1<=n+a->Zv M es s (gD es n a R)/\s∈gD es n a R/\∀x∈gD es n a R,Xb es (gD es n a R) x
 |0,a,R,h,hs,hc,hn=>⟨h,hs,λx hx=>hc x (by rw[TU (by have:=h.ak.len;lia)];assumption)⟩
 |n+1,a,R,h,hs,hc,hn=>by
  unfold gD;by_cases c:a<R.length
  .rw[V4 c];have ea:R.getD a 0=R[a]:=by rw[Sb,RH c];rfl
   have hx:R.getD a 0∈R:=by rw[ea];simp
   obtain⟨h1,⟨T,eT⟩,m⟩:=xi hr es h hx λe he=>he;refine HU hr n (a+1) _ h1 (by rw[eT];exact Rw _ hs) (λx hx=>?_) (by lia);rw[eT,List.take_append_of_le_length (by assumption),List.take_succ_eq_append_getElem c]at hx;rcases Ry.mp hx with z|z
   .intro e he;have:=hc x z e he
    simp_all
   .rw[RG.mp z,<-ea];assumption
  .rw[Wh c];exact⟨h,hs,λx hx=>hc x (by rw[TU (by lia)];assumption)⟩
def HV{M:Nat}(hr:∀e∈es,(0<=e.1/\e.1<(M:Int))/\0<=e.2/\e.2<(M:Int))(s0:0<=s)(s1:s<(M:Int))(hn:M+1<=n):(gD es n 0 [s]).Nodup/\(gD es n 0 [s]).length<=M/\∀v,v∈gD es n 0 [s]↔Eqv es s v:=by obtain⟨h,hs,hc⟩:=HU hr n 0 [s] ⟨⟨by simp,λx hx=>by simp_all⟩,λx hx=>by rw[RG.mp hx];exact .refl s⟩ (by simp) (λx hx=>by simp at hx) (‹_›);refine⟨h.ak.nd,h.ak.len,λv=>⟨h.eq v,λz=>?_⟩⟩;exact(z.pred λe he=>⟨λy=>(hc _ y e he).1 rfl,λy=>(hc _ y e he).2 rfl⟩).mp hs
def FW(hi:t[i]?=Qs (.val (.int y)))(hj:t[j]?=Qs (.val (.int z)))(h3:t[3]?=Qs (.own (R.map D.int)))(h4:t[4]?=Qs (.val (.int (a:Int))))(ha:a<R.length)(hx:R.getD a 0=x)(hl:R.length<1000):bO (ir (aD (d2 ez (af i) (d2 ao (af 3) (af 4)))) (aD (d2 jE (af j) (af 3)))) (iS 3 (af j)) cw t=Qs (.nx (t.set 3 (.own ((if y=x/\z∉R then R++[z] else R).map D.int)))):=by
 have ei:af i t=Qs (.cl (.int y)):=by unfold af;rw[hi]
 have ej:af j t=Qs (.cl (.int z)):=by unfold af;rw[hj]
 have e3:af 3 t=Qs (.tm (.lst (R.map D.int))):=by unfold af;rw[h3]
 have e4:af 4 t=Qs (.cl (.int (a:Int))):=by unfold af;rw[h4]
 have ix:=zI (fa:=af 3) (fb:=af 4) R a e3 e4 ha rfl rfl;rw[hx]at ix;have c:=sk (vt ei ix) (Ei (fa:=af j) (fb:=af 3) z R ej e3 rfl rfl);by_cases h:y=x/\z∉R
 .rw[Ww h.1,Xt h.2]at c;rw[V4 h];exact(jF c rfl).trans (Rf t ej h3 (by lia))
 .have:(decide (y=x)&&!decide (z∈R))=Qf:=by lia
  rw[this]at c;rw[Wh h];refine(dQ c rfl).trans ?_;obtain⟨Yy,eq⟩:=RZ.mp h3;rw[<-eq,List.set_getElem_self]
def Ja(s1 s2 s6 s7:Sl){a:Nat}(h0:0<=l)(h1:l<(ts.length:Int))(ha:a<R.length)(hx:R.getD a 0=x)(hl:R.length<900):∃u6 u7,Bh [.val (wD M ts),s1,s2,.own (R.map D.int),.val (.int (a:Int)),.val (.int l),s6,s7]=Qs (.nx [.val (wD M ts),s1,s2,.own ((gS x R (aC ts l)).map D.int),.val (.int (a:Int)),.val (.int l),u6,u7]):=by
 have et:=sR (fa:=d2 _ ah _) (fb:=af 5) (t:=[.val (wD M _),s1,s2,.own (R.map D.int),.val (.int a),.val _,s6,s7]) (pk rfl) rfl rfl rfl h0 h1;generalize hE:aC _ l=e at*
 have E2:=FW (t:=[.val (wD M ts),s1,s2,.own _,.val _,.val (.int l),.val (.int e.1),.val (.int e.2)]) (i:=6) (j:=7) rfl rfl rfl rfl ha hx (by lia);obtain⟨R1,hR1⟩:∃R1,R1=(if e.1=x/\e.2∉R then R++[e.2] else R):=⟨_,rfl⟩;rw[<-hR1]at E2;have x1:R1.getD a 0=x:=by
  rw[hR1];split
  .rw[Sb,Ta ha];assumption
  assumption
 refine⟨.val (.int e.1),.val (.int e.2),(aG (by
  unfold dY;rw[et];rfl)).trans ((aG E2).trans ((FW rfl rfl rfl rfl (by
  rw[hR1];split
  .rw[SD];lia
  assumption) x1 (by
  rw[hR1];split
  .rw[SD,Tf];lia
  .lia)).trans ?_))⟩
 rw[hR1];rfl
theorem ES(s1 s2:Sl){M:Nat}(hM:M<=800)(hr:∀e∈es,(0<=e.1/\e.1<(M:Int))/\0<=e.2/\e.2<(M:Int)):∀(L:Ql Int) (R:Ql Int) (s5 s6 s7:Sl),Zv M es s R->a<R.length->R.getD a 0=x->(∀l∈L,0<=l/\l<(ts.length:Int))->(∀e∈eV ts L,e∈es)->∃u5 u6 u7,bY l5 Bh (L.map D.int) [.val (wD M ts),s1,s2,.own (R.map D.int),.val (.int (a:Int)),s5,s6,s7]=Qs (.nx [.val (wD M ts),s1,s2,.own (((eV ts L).foldl (gS x) R).map D.int),.val (.int (a:Int)),u5,u6,u7])
 |[],R,s5,s6,s7,_,_,_,_,_=>⟨s5,s6,s7,rfl⟩
 |l::L,R,s5,s6,s7,h,ha,hx,hL,hE=>by
  obtain⟨h0,h1⟩:=hL l (Rz ..);have he:=hE _ (Rz ..);have hxm:x∈R:=by rw[<-hx,Sb,RH ha];simp
  obtain⟨h2,⟨T,eT⟩,_,_⟩:=CH h hxm he (hr _ he).1 (hr _ he).2;obtain⟨v6,v7,e⟩:=Ja s1 s2 s6 s7 (M:=M) h0 h1 ha hx (by have:=h.ak.len;lia);obtain⟨u5,u6,u7,ih⟩:=ES s1 s2 hM hr (a:=a) L _ (.val (.int l)) v6 v7 h2 (by rw[eT,SD];lia) (by
   rw[eT,Sb,Ta ha,<-Sb,hx]) (λm hm=>hL m (Rx _ hm)) λe' he'=>hE _ (Rx _ he')
  exact⟨u5,u6,u7,(gA rfl e).trans ih⟩
theorem EO(s2:Sl){M:Nat}(hM:M<=800)(hr:∀e∈eV ts L,(0<=e.1/\e.1<(M:Int))/\0<=e.2/\e.2<(M:Int))(hL:∀l∈L,0<=l/\l<(ts.length:Int)):∀(n a:Nat) (R:Ql Int) (s5 s6 s7:Sl),Zv M (eV ts L) s R->M+1<=n+a->∃u4 u5 u6 u7,fL (aD (d2 qL bh (ag cb gQ))) vR n [.val (wD M ts),.val (.lst (L.map D.int)),s2,.own (R.map D.int),.val (.int (a:Int)),s5,s6,s7]=if a<=M then Qs (.nx [.val (wD M ts),.val (.lst (L.map D.int)),s2,.own ((gD (eV ts L) n a R).map D.int),u4,u5,u6,u7]) else fL (aD (d2 qL bh (ag cb gQ))) vR n [.val (wD M ts),.val (.lst (L.map D.int)),s2,.own (R.map D.int),.val (.int (a:Int)),s5,s6,s7]
 |0,a,R,s5,s6,s7,h,hn=>⟨s2,s5,s6,s7,by lia⟩
 |n+1,a,R,s5,s6,s7,h,hn=>by
  by_cases am:a<=M
  .simp only[V4 am];have c:=ou (fa:=af 4) (t:=[.val (wD M ts),.val (.lst (L.map D.int)),s2,.own (R.map D.int),.val (.int (a:Int)),s5,s6,s7]) (a:=(a:Int)) rfl (oB (xs:=R) (f:=af 3) (r:=.tm (.lst (R.map D.int))) rfl rfl);by_cases hc:a<R.length
   .rw[Ww (by lia)]at c;obtain⟨v5,v6,v7,e⟩:=ES (.val (.lst (L.map D.int))) s2 hM hr L R s5 s6 s7 h hc rfl hL (λe he=>he);have E:vR _=Qs _:=(aG (g1:=fH _ av _) (t:=[.val _,.val (.lst _),s2,.own _,.val _,s5,s6,s7]) e).trans (hX ((mZ (fa:=af 4) (fb:=dC (.int 1)) (t:=[.val (wD M ts),.val (.lst (L.map D.int)),s2,.own (((eV ts L).foldl (gS (R.getD a 0)) R).map D.int),.val (.int a),v5,v6,v7]) rfl rfl)) (by simp));have hxm:R.getD a 0∈R:=by
     simp_all
    obtain⟨h1,_,_⟩:=xi hr _ h hxm λe he=>he;have rl:=h.ak.len;obtain⟨u4,u5,u6,u7,ih⟩:=EO s2 hM hr hL n (a+1) _ v5 v6 v7 h1 (by lia);rw[V4 (by lia)]at ih;refine⟨u4,u5,u6,u7,?_⟩;unfold fL;rw[c,E];have:gD (eV ts L) (n+1) a R=gD (eV ts L) n (a+1) ((eV ts L).foldl (gS (R.getD a 0)) R):=by show(if a<R.length then _ else R)=_;rw[V4 hc]
    rw[this];assumption
   .rw[Xt (by lia)]at c;refine⟨.val (.int a),s5,s6,s7,?_⟩;unfold fL;rw[c,RF,Wh (by simp)];have:gD (eV ts L) (n+1) a R=R:=by show(if a<R.length then _ else R)=_;rw[Wh hc]
    rw[this]
  .exact⟨s2,s5,s6,s7,by lia⟩
def vu(hw:Yi M ts)(hL:∀l∈L,0<=l/\l<(ts.length:Int)):∀e∈eV ts L,(0<=e.1/\e.1<(M:Int))/\0<=e.2/\e.2<(M:Int):=λe he=>by obtain⟨l,hl,rfl⟩:=RU.mp he;obtain⟨a0,ab,bM⟩:=hw.lt _ (nK (hL l hl).1 (hL l hl).2);exact⟨⟨a0,by lia⟩,by lia,bM⟩
def CZ(hM:M<=60)(hw:Yi M ts)(hL:∀l∈L,0<=l/\l<(ts.length:Int))(s0:0<=s)(s1:s<(M:Int)):lS [wD M ts,.lst (L.map D.int),.int s]=Qs (.nw ((gD (eV ts L) 100 0 [s]).map D.int)):=by obtain⟨u4,u5,u6,u7,e⟩:=EO (.val (.int s)) (by lia) (vu hw hL) hL 100 0 [s] .no .no .no ⟨⟨by simp,λx hx=>by simp_all⟩,λx hx=>by rw[RG.mp hx];exact .refl s⟩ (by lia);refine Wq ?_;exact(aG rfl).trans ((aG rfl).trans ((aG e).trans rfl))
def En(h1:f1 t=Qs (.cl (.bl a)))(h2:f2 t=Qs (.cl (.bl b))):(d2 bV f1 f2) t=Qs (.cl (.bl (a !=b))):=by rw[cg h1 h2];rfl
def Bu(h1:f t=Qs (.cl (.bl Qt)))(h2:g t=Qs r):kE f g t=Qs r:=by unfold kE;rw[h1];assumption
def zh{f1 f2 fp:DE}(h1:f1 t=Qs r1)(e1:r1.d=.int d.1)(h2:f2 t=Qs r2)(e2:r2.d=.int d.2)(hp:fp t=Qs rp)(ep:rp.d=aV P):(d2 bV (d2 WZ f1 fp) (d2 WZ f2 fp)) t=Qs (.cl (.bl (bU P d))):=En ((cg h1 hp).trans (zR _ P e1 ep)) ((cg h2 hp).trans (zR _ P e2 ep))
def Oi(e:Eg)(P:Ql Int):BK [pD e,aV P]=Qs (.cl (.bl (bU P e))):=by exact Wq (fg (zh rfl rfl rfl rfl rfl rfl))
theorem Hq:∀(ws:Ql Eg) (s s':Sl),bJ (bq 2 dF) (aD (d2 bV (d2 WZ ah aK) (d2 WZ av aK))) ah (ws.map pD) [s,s',.val (aV P)]=Qs (((ws.filter (bU P)).map Prod.fst).map D.int)
 |[],_,_=>rfl
 |e::ws,s,s'=>by
  have ih:=Hq (P:=P) ws (.val (.int e.1)) (.val (.int e.2));let t1:Th:=[.val (.int e.1),.val (.int e.2),.val (aV P)]
  have c:aD (d2 bV (d2 WZ ah aK) (d2 WZ av aK)) t1=Qs (bU P e):=by unfold aD;rw[zh rfl rfl rfl rfl rfl rfl];rfl
  show(aD _ t1).bind _=_;rw[c];cases q:bU P e with
  |true=>rw[Ve q];show(bJ _ _ _ _ t1).map _=_;rw[ih];rfl
  |false=>simp_all
def Em{xs:Ql Int}(h:f t=Qs r)(hr:r.d=.lst (xs.map D.int))(hg:g t=Qs (.nw [])):(d2 bV f g) t=Qs (.cl (.bl (!xs.isEmpty))):=by
 rw[cg h hg];cases xs with
 |nil=>exact NJ _ hr rfl
 |cons x xs=>unfold bV;rw[hr];rfl
def P7{xs:Ql Int}(h:f t=Qs r)(hr:r.d=.lst (xs.map D.int))(hg:g t=Qs (.nw [])):(d2 ez f g) t=Qs (.cl (.bl xs.isEmpty)):=by
 rw[cg h hg];cases xs with
 |nil=>exact P8 _ hr rfl
 |cons x xs=>unfold ez;rw[hr];rfl
def Mo{ws:Ql Eg}(hl:ws.length<=50000)(P:Ql Int):BJ [aV P,.lst (ws.map pD)]=Qs (.cl (.bl (ws.any (bU P)))):=by
 let t:Th:=[.val (aV P),.val (.lst (ws.map pD))]
 have c:(aM 2 [0] (bA av) (bq 2 dF) (aD (d2 bV (d2 WZ ah aK) (d2 WZ av aK))) ah) t=Qs (.nw (((ws.filter (bU P)).map Prod.fst).map D.int)):=by show(if(ws.map _).length<=50000 then(bJ _ _ _ _ [.no,.no,.val _]).bind _ else Qn)=_;rw[V4 (by rw[RE];assumption),Hq _];rfl
 have n:=Em c rfl (rfl:(ag cY aq) t=Qs _);have e:(!((ws.filter (bU P)).map Prod.fst).isEmpty)=ws.any (bU P):=by
  cases q:ws.any _ with
  |true=>
   simp_all
  |false=>
   simp_all
 rw[e]at n;exact Wq (fg n)
def B9(h1:sm x.1=Qt)(h2:sm x.2=Qt)(h3:sm y.1=Qt)(h4:sm y.2=Qt):lQ [pD x,pD y]=Qs (.cl (.bl (decide (x.1*y.2<y.1*x.2)))):=by exact Wq (fg ((cg (gY rfl rfl h1 h4) (gY rfl rfl h3 h2)).trans rfl))
def FD(hM:M<=60)(hw:Yi M ts)(hl:ws.length<=50000)(hi:je M ws)(hT:∀a∈T,0<=a/\a<(ts.length:Int)):∃b:Bool,sI [wD M ts,.lst (ws.map pD),iL T]=Qs (.cl (.bl b))/\(b=Qt↔∀x∈ws,Eqv (T.map (aC ts)) x.1 x.2):=by
 let t:Th:=[.val (wD M ts),.val (.lst (ws.map pD)),.val (iL T)]
 let p:Eg->Bool:=λx=>!decide (x.2∈gD (eV ts T) 100 0 [x.1])
 have c:(aM 1 [0,2] (bA av) bo (aD (d2 jE (d2 ao ah aX) (ag (aH lS) (ae av (ae aK (ae (d2 ao ah aU) aq)))))) ah) t=Qs (.nw ((ws.filter p).map pD)):=by
  refine ku rfl rfl rfl hl (λx hx=>?_) (λx hx _=>⟨_,rfl,rfl⟩) (.inr rfl);let t2:Th:=[.val (pD x),.val (wD M ts),.val (iL T)]
  exact Ei _ _ rfl ((jq rfl rfl rfl).trans (oY (rs:=[.cl _,.cl _,.cl _]) (CZ (‹_›) hw hT (hi x hx).1.1 (hi x hx).1.2))) rfl rfl
 have n:(d2 ez (aM 1 [0,2] (bA av) bo (aD (d2 jE (d2 ao ah aX) (ag (aH lS) (ae av (ae aK (ae (d2 ao ah aU) aq)))))) ah) (ag cY aq)) t=Qs (.cl (.bl (ws.filter p).isEmpty)):=by
  rw[cg c rfl];cases ws.filter p with
  |nil=>rfl
  |cons x xs=>rfl
 refine⟨(ws.filter p).isEmpty,?_,?_⟩
 .exact Wq (fg n)
 .rw[List.isEmpty_iff,List.filter_eq_nil_iff];refine forall_congr' λx=>forall_congr' λhx=>?_;rw[Bool.not_eq_true',decide_eq_false_iff_not,Classical.not_not];exact(HV (vu hw hT) (hi x hx).1.1 (hi x hx).1.2 (by lia)).2.2 _
def PN(w0:0<=w)(P0:0<P)(Pb:P<(DL.Wq:Int)):m6 [.int (bg w P).1,.int (bg w P).2]=Qs (.cl (pD (bg w P))):=by
 have f:=rG (a:=w) P0;have le:(bg w P).2<=P:=by have:=TM P.toNat (S6 w.toNat P.toNat);show((P.toNat/S6 w.toNat P.toNat))<=P;lia
 rw[EK f.1 f.2 (by lia),vi f.1 f.2 w0 P0 (lC w0 P0)]
def OV(w0:0<w)(P0:0<P)(Pb:P<(DL.Wq:Int)):BL [pD (bg w P)]=Qs (.cl (.bl Qt)):=by
 have f:=rG (a:=w) P0;have cr:=lC (Sd w0) P0;have lw:=PN (Sd w0) P0 Pb;generalize bg w P=x at*
 let t:Th:=[.val (pD x)]
 have c5:=Pm (fa:=d2 ao ah aU) (fb:=dC (.int 0)) (t:=t) rfl rfl;rw[Ww (by
  rcases Int.lt_or_eq_of_le f.1 with h|h
  .assumption
  .rw[<-h]at cr;have:=Wi w0 f.2;lia)]at c5
 exact Wq ((aG rfl).trans ((aG (by
  refine dQ ?_ rfl;have c2:=ou (fa:=d2 ao ah aX) (fb:=dC (.int 1)) (t:=t) rfl rfl;rw[Xt (by lia)]at c2;assumption)).trans (fg (Bu (by
  rw[cg rfl ((dm rfl rfl).trans (di lw rfl))];show(if bZ 6 _ _=Qt then Qs _ else Qn)=_;rw[V4 (show bZ 6 _ _=Qt from rfl),Zt.mpr rfl]) c5))))
open PySem.Spec L2 DL TS
theorem vq(n:Nat):∀xs ys:Ql Int,bZ (n+1) (.lst (xs.map D.int)) (.lst (ys.map D.int))=Qt
 |[],_=>rfl
 |_::_,[]=>rfl
 |x::xs,y::ys=>by have:=vq n xs ys;simp only[bZ]at this ⊢;simp only[RK,Sx,SK,this,Vh];cases n<;>rfl
def O2:∀{xs ys:Ql Int},xs.map D.int=ys.map D.int->xs=ys:=λ{xs ys} h=>by
 have:=List.map_inj_right (λ{a b} e=>by injection e)|>.mp h
 assumption
def uo{xs ys:Ql Int}(h1:f t=Qs r1)(e1:r1.d=.lst (xs.map D.int))(h2:g t=Qs r2)(e2:r2.d=.lst (ys.map D.int)):aD (d2 bV f g) t=Qs (!decide (xs=ys)):=by
 unfold aD;rw[cg h1 h2];unfold bV;rw[e1,e2,V4 (vq 5 _ _)];have:cP (.lst (xs.map D.int)) (.lst (ys.map D.int))=decide (xs=ys):=by
  by_cases h:xs=ys
  .rw[h,Ww rfl];exact Zt.mpr rfl
  .rw[Xt h];refine zds.mpr λz=>h (O2 ?_);injection z
 rw[this];rfl
structure zdx(ws:List Eg)(ms:List (List Int×(Int×Int))):Prop where
 len:ms.length<64
 Y5:∀x∈ms,x.1.length<64/\x.1.Pairwise (·< ·)
 prt:∀x∈ms,ws.any (bU x.1)=Qt
 fr:∀x∈ms,∃w P,0<w/\0<P/\P<(DL.Wq:Int)/\x.2=bg w P
 lam:∀x∈ms,∀y∈ms,(∀u∈x.1,u∈y.1)\/(∀u∈y.1,u∈x.1)\/∀u∈x.1,u∉y.1
 ris:ms.Pairwise λx y=>W6 x.1 y.1=Qt
theorem CD:∀{xs ys:Ql Int},xs.Pairwise (·< ·)->ys.Pairwise (·< ·)->(∀u,u∈xs↔u∈ys)->xs=ys
 |[],[],_,_,_=>rfl
 |[],y::ys,_,_,h=>absurd ((h y).mpr (Rz ..)) (by simp)
 |x::xs,[],_,_,h=>absurd ((h x).mp (Rz ..)) (by simp)
 |x::xs,y::ys,hx,hy,h=>by
  have a:=Sy.mp hx;have b:=Sy.mp hy;have e:x=y:=by
   rcases RB.mp ((h x).mp (Rz ..)) with z|z
   .assumption
   .rcases RB.mp ((h y).mpr (Rz ..)) with w|w
    .exact w.symm
    .have:=a.1 y w;have:=b.1 x z;lia
  subst e;rw[CD a.2 b.2 λu=>⟨λhu=>(RB.mp ((h u).mp (Rx _ hu))).resolve_left λz=>by have:=a.1 u hu;lia,λhu=>(RB.mp ((h u).mpr (Rx _ hu))).resolve_left λz=>by have:=b.1 u hu;lia⟩]
def Jf(lP:P.length<=50000)(sP:P.Pairwise (·< ·))(sQ:Q.Pairwise (·< ·))(lam:(∀u∈P,u∈Q)\/(∀u∈Q,u∈P)\/∀u∈P,u∉Q)(s0 s1 s3 s5 s6 s7:Sl):∃u6,Bm [s0,s1,.val (aV P),s3,.val (aV Q),s5,s6,s7]=Qs (.nx [s0,s1,.val (aV P),s3,.val (aV Q),s5,u6,s7]):=by
 let t:=[s0,s1,.val (aV P),s3,.val (aV Q),s5,s6,s7]
 obtain⟨C,hC⟩:∃C,C=P.filter λu=>decide (u∈Q):=⟨_,rfl⟩;let t1:=[s0,s1,.val (aV P),s3,.val (aV Q),s5,.own (C.map D.int),s7]
 refine⟨_,(aG (gO (by
  rw[hC];exact ku rfl rfl rfl lP (λx hx=>Ba x Q rfl rfl rfl rfl) (λx hx _=>⟨_,rfl,rfl⟩) (.inr rfl)) (by simp[t]))).trans (dQ (sk (uo (ys:=[]) rfl rfl rfl rfl) (sk (uo rfl rfl rfl rfl) (uo (xs:=C) rfl rfl rfl rfl))) ?_)⟩
 have zm8:C=[]\/C=P\/C=Q:=by
  rcases lam with h|h|h
  .exact .inr (.inl (by simp_all))
  .refine .inr (.inr (CD (by rw[hC];exact sP.filter _) sQ λu=>?_))
   simp_all
  .exact .inl (by simp_all)
 lia
theorem Fc(lP:P.length<=50000)(sP:P.Pairwise (·< ·))(s0 s1 s3 s7:Sl):∀(ys:Ql (Ql Int×(Int×Int))) (s4 s5 s6:Sl),(∀y∈ys,y.1.Pairwise (·< ·)/\((∀u∈P,u∈y.1)\/(∀u∈y.1,u∈P)\/∀u∈P,u∉y.1))->∃u4 u5 u6,bY (bq 2 ny) Bm (ys.map aO) [s0,s1,.val (aV P),s3,s4,s5,s6,s7]=Qs (.nx [s0,s1,.val (aV P),s3,u4,u5,u6,s7])
 |[],s4,s5,s6,_=>⟨s4,s5,s6,rfl⟩
 |y::ys,s4,s5,s6,h=>by obtain⟨sQ,lam⟩:=h y (Rz ..);obtain⟨v6,e1⟩:=Jf lP sP sQ lam s0 s1 s3 (.val (pD y.2)) s6 s7;obtain⟨u4,u5,u6,e⟩:=Fc lP sP s0 s1 s3 s7 _ (.val (aV y.1)) (.val (pD y.2)) v6 λz hz=>h z (Rx _ hz);exact⟨u4,u5,u6,(gA rfl e1).trans e⟩
def Jb(hl:ws.length<=50000){ms:Ql (Ql Int×(Int×Int))}(h:zdx ws ms)(hx:x∈ms)(s4 s5 s6 s7:Sl):∃u4 u5 u6,vT [.val (.lst (ms.map aO)),.val (.lst (ws.map pD)),.val (aV x.1),.val (pD x.2),s4,s5,s6,s7]=Qs (.nx [.val (.lst (ms.map aO)),.val (.lst (ws.map pD)),.val (aV x.1),.val (pD x.2),u4,u5,u6,s7]):=by
 let A:Sl:=.val (.lst (ms.map aO))
 let B:Sl:=.val (.lst (ws.map pD))
 let t:=[A,B,.val (aV x.1),.val (pD x.2),s4,s5,s6,s7]
 obtain⟨l1,sP⟩:=h.Y5 x hx;obtain⟨w,P,w0,P0,Pb,ef⟩:=h.fr x hx;obtain⟨u4,u5,u6,e⟩:=Fc (by lia) sP A B (.val (pD x.2)) s7 _ s4 s5 s6 λy hy=>⟨(h.Y5 y hy).2,h.lam x hx y hy⟩;refine⟨u4,u5,u6,(aG (by
  have c2:=uo (f:=af 2) (t:=t) rfl rfl (nO (f:=af 2) rfl rfl l1) rfl;rw[(xa (jW _) (pJ _) (sP.imp λz=>Sd z)),Ww rfl]at c2;have c3:=(dm (rfl:af 2 t=Qs _) (rfl:af 1 t=Qs _)).trans (di (Mo hl _) rfl);rw[h.prt x hx]at c3;exact dQ (ml rfl (ml c2 (not_of (ig c3)))) rfl)).trans ((aG (by
  exact dQ (not_of (ig ((fA rfl).trans (di (by rw[ef];exact OV w0 P0 Pb) rfl)))) rfl)).trans ?_)⟩
 assumption
theorem EV(hl:ws.length<=50000){ms:Ql (Ql Int×(Int×Int))}(h:zdx ws ms)(s7:Sl):∀(xs:Ql (Ql Int×(Int×Int))) (s2 s3 s4 s5 s6:Sl),(∀x∈xs,x∈ms)->∃u2 u3 u4 u5 u6,bY (bq 2 jR) vT (xs.map aO) [.val (.lst (ms.map aO)),.val (.lst (ws.map pD)),s2,s3,s4,s5,s6,s7]=Qs (.nx [.val (.lst (ms.map aO)),.val (.lst (ws.map pD)),u2,u3,u4,u5,u6,s7])
 |[],s2,s3,s4,s5,s6,_=>⟨s2,s3,s4,s5,s6,rfl⟩
 |x::xs,s2,s3,s4,s5,s6,hs=>by obtain⟨v4,v5,v6,e1⟩:=Jb hl h (hs x (Rz ..)) s4 s5 s6 s7;obtain⟨u2,u3,u4,u5,u6,e⟩:=EV hl h s7 _ (.val (aV x.1)) (.val (pD x.2)) v4 v5 v6 λz hz=>hs z (Rx _ hz);exact⟨u2,u3,u4,u5,u6,(gA rfl e1).trans e⟩
theorem AE:∀(ms:Ql (Ql Int×(Int×Int))) (s s':Sl),bJ (bq 2 dF) aZ ah (ms.map aO) [s,s']=Qs (ms.map λx=>aV x.1)
 |[],_,_=>rfl
 |x::ms,s,s'=>by show(bJ _ _ _ _ [.val _,.val _]).map _=_;rw[(AE _ _ _)];rfl
def N2(h1:f t=Qs r1)(e1:r1.d=aV xs)(h2:g t=Qs r2)(e2:r2.d=aV ys):aD (d2 qF f g) t=Qs (W6 xs ys):=by unfold aD;rw[cg h1 h2];unfold qF;rw[e1,e2];show(((dX _).bind _).bind _)=_;rw[qQ,qQ];rfl
theorem AF{c:Ql D}:∀(xs:Ql Int) (s:Sl),(∀x∈xs,ft (.val (.int x)::c.map Sl.val)=Qs Qf)->bJ bo ft fe (xs.map D.int) (s::c.map Sl.val)=Qs []
 |[],_,_=>rfl
 |x::xs,s,h=>by show(ft (.val _::c.map _)).bind _=_;rw[h x (Rz ..)];exact(AF _ _ λy hy=>h y (Rx _ hy))
def Ra(hl:ws.length<=50000){ms:Ql (Ql Int×(Int×Int))}(h:zdx ws ms):wg [.lst (ms.map aO),.lst (ws.map pD)]=Qs (.cl (.bl Qt)):=by
 let A:Sl:=.val (.lst (ms.map aO))
 let B:Sl:=.val (.lst (ws.map pD))
 let t0:=[A,B,.no,.no,.no,.no,.no,.no]
 obtain⟨u2,u3,u4,u5,u6,e⟩:=EV hl h .no _ .no .no .no .no .no λx hx=>hx;let t1:=[A,B,u2,u3,u4,u5,u6,.no]
 have len:=h.len;have c:(aM 2 [] (bA ah) (bq 2 dF) aZ ah) t1=Qs (.nw (ms.map λx=>aV x.1)):=by show(if(ms.map _).length<=50000 then(bJ _ _ _ _ [.no,.no]).bind _ else Qn)=_;rw[V4 (by rw[RE];lia),AE _];rfl
 let R:Sl:=.own (ms.map λx=>aV x.1)
 let t2:=[A,B,u2,u3,u4,u5,u6,R]
 have lr:(ms.map λx=>aV x.1).length=ms.length:=RE _;have row:∀(k:Nat) hk,ao (.cl (.lst _)) (.cl (.int _))=Qs _:=λk hk=>by
  show((W7 _ _).map _)=_;have:W7 (ms.map λx=>aV x.1) k=Qs (aV (ms[k]'(hk)).1):=by
   unfold W7;rw[qO _ _ (by lia)]
   simp_all
  rw[this];rfl
 have E3:(bW (d2 _ (aM 1 [7] (jb _ _) _ _ _) (ag cY aq))) _=Qs _:=fg (P7 (xs:=[]) (by
  let n:=ms.length
  have e1:jb aX (ag cb ph) t2=Qs (Qt,((Si (n-1)).map λ(i:Nat)=>1+(i:Int)).map D.int):=by
   unfold jb;have l:(ag cb ph) t2=Qs (.cl (.int n)):=by rw[fA rfl];unfold cb;simp[Ev.d,n]
   rw[l];show(if eI _&&eI 1 then Qs _ else Qn)=_;rw[V4 (by unfold eI;simp;lia),show((n:Int)-1).toNat=n-1 by lia,R6];rfl
  unfold aM;rw[e1];show(if(((Si _).map _).map _).length<=50000 then(bJ _ _ _ _ [.no,.val _]).bind _ else Qn)=_;have cn:bJ _ _ ah (((Si (n-1)).map _).map _) [.no,.val _]=Qs _:=AF (c:=[.lst _]) _ _ λx hx=>by
   obtain⟨i,hi,rfl⟩:=RU.mp hx;have hi:=Tg.mp hi;have Za:i+1<ms.length:=by lia
   let t:Th:=[.val (.int (1+i)),.val (.lst (ms.map λx=>aV x.1))]
   have s1:=sY (fa:=af 0) (fb:=dC (.int 1)) (t:=t) rfl rfl;rw[show 1+(i:Int)-1=i by lia]at s1;have q:=N2 ((cg (rfl:af 1 t=Qs _) s1).trans (row i (by lia))) rfl ((cg (rfl:af 1 t=Qs _) (rfl:af 0 t=Qs _)).trans (by
    have:=row _ Za;rw[show((i+1:Nat):Int)=1+i by lia]at this;assumption)) rfl
   rw[Tb.mp h.ris i _ _ _ (by lia)]at q;exact not_of q
  rw[V4 (by rw[RE,RE,T3];lia),cn];rfl) rfl rfl)
 exact Wq ((aG ((rL (k:=bq 2 jR) (f:=af 0) (b:=vT) (t:=t0) (r:=.cl (.lst (ms.map aO))) rfl rfl rfl).trans e)).trans ((aG (gO (i:=7) c (by simp[t1]))).trans E3))
def oK(hx:x∈dg M ts wl ws):∃p,(0<=p/\p<((aI M ts wl ws).n:Int))/\0<(aI M ts wl ws).wd p/\x=((aI M ts wl ws).pt p,bg ((aI M ts wl ws).wd p) (aI M ts wl ws).pa):=by obtain⟨p,hp,rfl⟩:=RU.mp ((ZX _).mem_iff.mp hx);have:=RY.mp hp;exact⟨p,dy this.1,by lia,rfl⟩
theorem Cy{f:Int->Int}:∀{l:Ql Int},(∀x∈l,0<=f x)->(((l.filter λp=>decide (0<f p)).filter q).map f).sum=(l.map λp=>if q p then f p else 0).sum
 |[],_=>rfl
 |x::l,h=>by
  have ih:=Cy (q:=q) (l:=l) λy hy=>h y (Rx _ hy);have h0:=h x (Rz ..);rw[RK,Sj];by_cases z:0<f x
  .cases y:q x with
   |true=>simp_all
   |false=>simp_all
  .rw[Vd (by lia)];lia
def EC(J:XG M ts wl ws)(q:Ql Int->Bool):(((dg M ts wl ws).filter λx=>q x.1).map λx=>qv (aI M ts wl ws).pa x.2).sum=aJ (λp=>if q ((aI M ts wl ws).pt p) then(aI M ts wl ws).wd p else 0) (aI M ts wl ws).n:=by have d0:=(i9 J).zbQ.wd0;have Xl:=J.end.ok.Xl;have pm:(dg M ts wl ws).Perm _:=ZX _;rw[Dv ((pm.filter _).map _),Wc,R6,xf,<-Cy λx hx=>d0 x (dy hx).1 (dy hx).2];refine congrArg _ (SF λp hp=>?_);obtain⟨q0,q1⟩:=dy (RY.mp (RY.mp hp).1).1;exact pO (d0 p q0 q1) Xl
def uQ(J:XG M ts wl ws):zdx ws (dg M ts wl ws):=by
 have E:=J.end;have D:=(i9 J).zbQ;have nn:(aI M ts wl ws).n<=45:=by have:=E.Xq;have:=E.ok.nM;have:=J.Xq.1;lia
 have pl:(dg M ts wl ws).Perm ((ic (aI M ts wl ws)).map λp=>((aI M ts wl ws).pt p,bg ((aI M ts wl ws).wd p) (aI M ts wl ws).pa)):=ZX _;have wl':(ic (aI M ts wl ws)).length<=(aI M ts wl ws).n:=by
  have:=Tx (λp=>decide (0<(aI M ts wl ws).wd p)) (aE (aI M ts wl ws).n)
  rwa [fO]at this
 have big:=j0;refine⟨by rw[pl.length_eq,RE];lia,λx hx=>?_,λx hx=>?_,λx hx=>?_,λx hx y hy=>?_,?_⟩
 .obtain⟨p,⟨p0,p1⟩,_,rfl⟩:=oK hx;have:=pE (E.ok.nd p0 p1) λu hu=>jy (E.ok.inr p p0 p1 u hu).1 (E.ok.inr p p0 p1 u hu).2;rw[fO]at this;exact⟨by show((aI M _ _ _).pt p).length<64;have:=J.Xq.1;lia,E.ok.Y5 p p0 p1⟩
 .obtain⟨p,⟨p0,p1⟩,w0,rfl⟩:=oK hx;obtain⟨w,hw,lw⟩:=D.pts p p0 p1 (by lia);exact UI.mpr ⟨w,hw,lw⟩
 .obtain⟨p,_,w0,rfl⟩:=oK hx;exact⟨_,_,w0,E.ok.Xl,by have:=oj J;lia,rfl⟩
 .obtain⟨p,⟨p0,p1⟩,_,rfl⟩:=oK hx;obtain⟨q,⟨q0,q1⟩,_,rfl⟩:=oK hy;rcases Int.lt_trichotomy p q with l|l|l
  .exact(D.lam p q p0 l q1).imp id .inr
  .simp_all
  .rcases D.lam q p q0 l p1 with h|h
   .exact .inr (.inl h)
   .exact .inr (.inr λu hu k=>h u k hu)
 .have nd:((dg M ts wl ws).map (·.1)).Nodup:=by refine((pl.map _).nodup_iff).mpr ?_;rw[R6];refine Ut.mpr ((Er _).filter _|>.imp_of_mem λ{a b} ha hb ne e=>ne ?_);have qa:=dy (RY.mp ha).1;have qb:=dy (RY.mp hb).1;exact E.ok.dis a b qa.1 qa.2 qb.1 qb.2 e
  exact((zdL _).and (Ut.mp nd)).imp λ{x y} h=>oA (λz=>h.2 z.symm) h.1
def zq(J:XG M ts wl ws)(d:Eg):0<=cx (aI M ts wl ws) d/\cx (aI M ts wl ws) d<=aJ (aI M ts wl ws).wd (aI M ts wl ws).n:=by
 have d0:=(i9 J).zbQ.wd0;unfold cx;constructor
 .have:=pK (f:=λ_=>0) (g:=λp=>if bU ((aI M ts wl ws).pt p) d then(aI M ts wl ws).wd p else 0) (n:=(aI M ts wl ws).n) λp a b=>by
   grind
  rwa [jX λ_ _ _=>rfl]at this
 .exact pK λp a b=>by have:=d0 p a b;split<;>lia
def NI(h1:f t=Qs r1)(e1:r1.d=pD x)(h2:g t=Qs r2)(e2:r2.d=pD y):aD (d2 bV f g) t=Qs (!decide (x=y)):=by
 unfold aD;rw[cg h1 h2];unfold bV;rw[e1,e2];have:cP (pD x) (pD y)=decide (x=y):=by
  by_cases h:x=y
  .rw[h,Ww rfl];exact Zt.mpr rfl
  .rw[Xt h];refine zds.mpr λz=>h ?_;have z:D.tup _=.tup _:=z;lia
 rw[this];rfl
def Je(J:XG M ts wl ws)(hT:∀a∈T,a∈(aI M ts wl ws).tk)(a0:0<=a)(a1:a<(ts.length:Int))(s6:Sl):∃u6,Bl [.val (wD M ts),.val (iL wl),.val (iL T),.val (.lst ((dg M ts wl ws).map aO)),.val (.int a),.val (pD (aC ts a)),s6]=Qs (.nx [.val (wD M ts),.val (iL wl),.val (iL T),.val (.lst ((dg M ts wl ws).map aO)),.val (.int a),.val (pD (aC ts a)),u6]):=by
 obtain⟨ms,hms⟩:∃ms,ms=dg M ts wl ws:=⟨_,rfl⟩;rw[<-hms];let t:=[.val (wD M ts),.val (iL wl),.val (iL T),.val (.lst (ms.map aO)),.val (.int a),.val (pD (aC ts a)),s6]
 have E:=J.end;have D:=(i9 J).zbQ;have Xl:=E.ok.Xl;have hw:=J.wt a a0 a1;have c:(aM 1 [5] (bA bw) _ (dh (ag _ (ae av (ae (d2 ao ah aU) _)))) ah) t=Qs _:=ku rfl rfl rfl (by have:=(uQ J).len;rw[hms];lia) (λx hx=>by
   exact ig ((dm rfl rfl).trans (di (rs:=[.cl _,.cl _]) (Oi _ _) rfl))) (λx hx _=>⟨_,rfl,rfl⟩) (.inr rfl)
 have sm:=EC J λP=>bU P (aC ts a);rw[<-hms]at sm;have lle:=zq J (aC ts a);have tl:=wK J;have tg:=Cj (ms:=ms.filter λx=>bU x.1 (aC ts a)) Xl (oj J) (λx hx=>(EB J).1 x (hms▸(RY.mp hx).1)) (by rw[sm];exact SU lle.2 tl);have sm2:(List.map (λx=>qv (aI M ts wl ws).pa x.2) (ms.filter λx=>bU x.1 (aC ts a))).sum=cx (aI M ts wl ws) (aC ts a):=sm;rw[sm2]at tg;have fea:=D.fea E.ok (jf J.Yr) a0 a1;have tgt:a∈T->cx (aI M ts wl ws) (aC ts a)=bp wl a*(aI M ts wl ws).pa:=λh=>D.tgt a (hT a h);have bd:=rH (b:=(aI M ts wl ws).pa) lle.1 (by lia) Xl (by have:=oj J;have:=j0;lia);have cr:=lC (b:=(aI M ts wl ws).pa) lle.1 Xl;have full:a∈T->bg (cx (aI M ts wl ws) (aC ts a)) (aI M ts wl ws).pa=(bp wl a,1):=λh=>by rw[vi (d:=1) lle.1 Xl hw.1 (by simp) (by lia)];unfold bg;simp[SG hw.1]
 generalize bg (cx (aI M ts wl ws) (aC ts a)) (aI M ts wl ws).pa=x at*
 have E1:=hX (i:=6) ((fA (k:=aH lR) c).trans (di (rs:=[.nw ((ms.filter λx=>bU x.1 (aC ts a)).map aO)]) tg rfl)) (by simp[t]);let t1:Th:=[.val (wD M ts),.val (iL wl),.val (iL T),.val (.lst (ms.map aO)),.val (.int a),.val (pD (aC ts a)),.val (pD x)]
 have iw:=ke (fa:=af 1) (fb:=af 4) (t:=t1) (r1:=.cl (iL wl)) (r2:=.cl (.int a)) wl a rfl rfl a0 (by rw[J.zaA];assumption) rfl rfl;have tw:(ag cX (ae (d2 ao av bh) kG)) t1=Qs (.cl (pD (bp wl a,1))):=(dm (k:=cX) iw (rfl:dC (.int 1) t1=Qs (.cl (.int 1)))).trans rfl;have b20:((10^20:Nat):Int)<(DL.Wq:Int):=by decide+kernel
 have un:=(dm (k:=aH lQ) tw (rfl:af 6 t1=Qs (.cl (pD x)))).trans (di (rs:=[.cl (pD (bp wl a,1)),.cl (pD x)]) (B9 (x:=(bp wl a,1)) (y:=x) (gq (RL _) hw.1 (by lia)) rfl (gq (RL _) bd.1.1 bd.1.2) (gq (RL _) (Sd bd.2.1) bd.2.2)) rfl);have nu:¬(bp wl a*x.2<x.1*1):=λh=>by have h1:=UJ (‹_›) Xl;have h2:=Sz fea (Sd bd.2.1);lia
 rw[Xt nu]at un;have nn:=NI (f:=af 6) (g:=ag cX (ae (d2 ao av bh) kG)) (t:=t1) (r1:=.cl (pD x)) rfl rfl tw rfl;have ii:=Ba (fa:=af 4) (fb:=af 2) (t:=t1) (r1:=.cl (.int a)) (r2:=.cl (iL T)) a T rfl rfl rfl rfl;refine⟨.val (pD x),(aG E1).trans (dQ (ml (ig un) (sk ii nn)) ?_)⟩;by_cases h:a∈T
 .rw[Ww (full h)];simp
 .rw[Xt h];rfl
theorem Fb(J:XG M ts wl ws)(hT:∀a∈T,a∈(aI M ts wl ws).tk):∀(es:Ql Eg) (i:Nat) (s4 s5 s6:Sl),ts.drop i=es->∃u4 u5 u6,bY (bq 2 ny) Bl (fz i (es.map pD)) [.val (wD M ts),.val (iL wl),.val (iL T),.val (.lst ((dg M ts wl ws).map aO)),s4,s5,s6]=Qs (.nx [.val (wD M ts),.val (iL wl),.val (iL T),.val (.lst ((dg M ts wl ws).map aO)),u4,u5,u6])
 |[],i,s4,s5,s6,_=>⟨s4,s5,s6,rfl⟩
 |e::es,i,s4,s5,s6,h=>by
  have hi:i<ts.length:=by refine Sw λn=>?_;rw[Vn (by lia)]at h;cases h
  rw[SM hi]at h;injection h with h1 h2
  have et:aC ts i=e:=by
   unfold aC
   simp_all
  obtain⟨v6,e1⟩:=Je J hT (a:=i) (by lia) (by lia) s6;rw[et]at e1;obtain⟨u4,u5,u6,e2⟩:=Fb J hT _ _ (.val (.int i)) (.val (pD e)) v6 h2;exact⟨u4,u5,u6,(gA rfl e1).trans e2⟩
def Rb(J:XG M ts wl ws)(hT:∀a∈T,a∈(aI M ts wl ws).tk):wj [wD M ts,iL wl,iL T,.lst ((dg M ts wl ws).map aO)]=Qs (.cl (.bl Qt)):=by obtain⟨u4,u5,u6,e⟩:=Fb J hT _ 0 .no .no .no rfl;exact Wq ((aG (‹_›)).trans rfl)
theorem Bc:∀bs:Ql Bool,lH (bs.map D.bl)=Qs bs
 |[]=>rfl
 |b::bs=>by show(lH _).map _=_;rw[Bc _];rfl
theorem Ak:∀bs:Ql Bool,Wv (bs.map D.bl)=Qt
 |[]=>rfl
 |b::bs=>by show(flat _&&Wv _)=Qt;rw[Ak _];rfl
def Bw{bs:Ql Bool}(h:f t=Qs (.nw (bs.map D.bl))):(ag qU (ae f aq)) t=Qs (.cl (.bl (bs.all id))):=by rw[fA h];simp only[oI,Ev.d,Bc,SY]
def kU(M:Int):Int->Ql Int->Bool
 |a,[]=>decide (a<M)
 |a,c::cs=>decide (a<c)&&kU M c cs
theorem Ho:∀(cs:Ql Int) (a:Int) (s s':Sl),∃bs:Ql Bool,bJ (bq 2 dF) aZ (d2 qL ah av) (hZ ((a::cs).map D.int) ((cs++[M]).map D.int)) [s,s']=Qs (bs.map D.bl)/\bs.all id=kU M a cs
 |[],a,s,s'=>⟨[decide _],rfl,by simp[kU]⟩
 |c::cs,a,s,s'=>by obtain⟨bs,e,h⟩:=Ho (M:=M) cs c (.val (.int a)) (.val (.int c));refine⟨_,?_,by rw[SK,h];rfl⟩;show(bJ _ _ _ (hZ _ ((cs++[M]).map _)) [.val _,.val _]).map _=_;rw[e];rfl
def Iu(a:Int)(cs:Ql Int)(M:Int):(hZ ((a::cs).map D.int) ((cs++[M]).map D.int)).length<=cs.length+1:=by rw[nv];simp
def CT(hl:cs.length<=1000):lO [.lst (cs.map D.int),.int M]=Qs (.cl (.bl (kU M (-1) cs))):=by
 let t:Th:=[.val (.lst (cs.map D.int)),.val (.int M)]
 have c1:(d2 d8 (ag cY (ae (d1 oE aX) aq)) ah) t=Qs (.nw (((-1)::cs).map D.int)):=by show lB (.nw _) (.cl (.lst _))=_;unfold lB;simp only[Ev.d,Ev.ok,UB,WU];rw[V4 (Ww (by simp;lia))];rfl
 have c2:(d2 d8 ah (ag cY kJ)) t=Qs (.nw ((cs++[M]).map D.int)):=by show lB (.cl (.lst _)) (.nw _)=_;unfold lB;simp only[Ev.d,Ev.ok,UB,WU];rw[V4 (Ww (by simp;lia)),Tp];rfl
 obtain⟨bs,e,h⟩:=Ho (M:=M) cs (-1) .no .no;show(zZ t).bind _=_;rw[<-h];exact Wq (fg (Bw (by
  unfold aM vg;rw[c1,c2];show(if(hZ _ _).length<=50000 then(bJ _ _ _ _ [.no,.no]).bind _ else Qn)=_;rw[V4 (by have:=Iu (-1) cs M;lia),e];rfl)))
theorem yd:∀{L:Ql Int}{a:Int},a<M->(∀l∈L,a<l/\l<M)->L.Pairwise (·< ·)->kU M a L=Qt
 |[],a,h,_,_=>Ww h
 |c::cs,a,h,hl,p=>by have pc:=Sy.mp p;have h0:=hl c (Rz ..);show(decide _&&kU M c _)=Qt;rw[Ww h0.1,yd h0.2 (λl hm=>⟨pc.1 l hm,(hl l (Rx _ hm)).2⟩) pc.2];rfl
def Ii{bs:Ql Bool}(h:f t=Qs (.nw (bs.map D.bl))):(ag qY (ae f aq)) t=Qs (.cl (.bl (bs.any id))):=by rw[fA h];simp only[oI,Ev.d,Bc,SY]
theorem Hr:∀(ws:Ql Eg) (s s':Sl),bJ (bq 2 dF) aZ (d2 bV (d2 WZ ah aK) (d2 WZ av aK)) (ws.map pD) [s,s',.val (aV P)]=Qs ((ws.map (bU P)).map D.bl)
 |[],_,_=>rfl
 |e::ws,s,s'=>by
  let t1:Th:=[.val (.int e.1),.val (.int e.2),.val (aV P)]
  show((d2 _ _ _) t1).bind (λr=>(bJ _ _ _ _ t1).map _)=_;rw[(zh rfl rfl rfl rfl rfl rfl),(Hr _ _ _)];rfl
def Mp{ws:Ql Eg}(hl:ws.length<=50000)(P:Ql Int):o6 [aV P,.lst (ws.map pD)]=Qs (.cl (.bl (ws.any (bU P)))):=by
 have e:(ws.map (bU P)).any id=ws.any (bU P):=by simp
 rw[<-e];exact Wq (fg (Ii (by
  show(if(ws.map _).length<=50000 then(bJ _ _ _ _ [.no,.no,.val _]).bind _ else Qn)=_;rw[V4 (by rw[RE];assumption),Hr _];rfl)))
def OU(hM:M<=1000)(hw:Yi M ts)(hW:je M ws)(hl:L.length<=1000)(hr:kU (ts.length:Int) (-1) L=Qt)(hL:∀l∈L,0<=l/\l<(ts.length:Int))(hj:∀x∈ws,Eqv (L.map (aC ts)) x.1 x.2):wk [wD M ts,.lst (ws.map pD),iL L]=Qs (.cl (.bl Qt)):=by
 let t:Th:=[.val (wD M ts),.val (.lst (ws.map pD)),.val (iL L)]
 have el:(ag cb (ae (d2 ao ah aX) aq)) t=Qs (.cl (.int ts.length)):=by rw[fA (pk rfl)];unfold cb;simp[Ev.d]
 have c1:=(dm (rfl:af 2 t=Qs _) el).trans (di (CT hl) rfl);rw[hr]at c1;have pn:g6 (ll (eV _ L)) 0 _=Qn:=zdq.mpr λx hx=>by
  exact((uC (λd hd=>by
   obtain⟨a,ha,rfl⟩:=RU.mp hd;have:=jf hw a (hL a ha).1 (hL a ha).2;lia)).iff _ _).mpr (hj x hx)
 have c2:=(jq (rfl:af 0 t=Qs _) (rfl:af 1 t=Qs _) (rfl:af 2 t=Qs _)).trans (di (yS hM hw hW hL) (by rw[pn];rfl));rw[pn]at c2;exact Wq (fg (Bu c1 ((cg c2 (rfl:dC .Wj t=Qs (.cl .Wj))).trans rfl)))
def mv(b d:Nat):Nat:=b/S6 b d*d
def Oq(b0:0<b)(d0:0<d)(hb:b ∣ P)(hd:d ∣ P):mv b d ∣ P/\b ∣ mv b d/\d ∣ mv b d/\0<mv b d:=by
 have e:mv b d=Nat.lcm b d:=by unfold mv Nat.lcm;rw[U3 b d,Nat.mul_div_assoc _ (V3 b d),U3]
 rw[e];exact⟨Nat.lcm_dvd hb hd,Nat.dvd_lcm_left b d,Nat.dvd_lcm_right b d,Nat.lcm_pos b0 d0⟩
theorem ET(P0:0<P)(Pb:P<qB)(s0:Sl):∀(xs:Ql (Int×Int)) (b:Nat) (s2:Sl),0<b->b ∣ P->(∀x∈xs,0<x.2/\x.2.toNat ∣ P)->∃(b':Nat) (u2:Sl),(b ∣ b'/\0<b'/\b' ∣ P/\∀x∈xs,x.2.toNat ∣ b')/\bY nE (aW 1 (d2 qM (d2 qV av (ag (aH o9) (ae av (ae (d2 ao aK aX) aq)))) (d2 ao aK aX))) (xs.map pD) [s0,.val (.int (b:Int)),s2]=Qs (.nx [s0,.val (.int (b':Int)),u2])
 |[],b,s2,b0,hb,_=>⟨b,s2,⟨Nat.dvd_refl b,b0,hb,λ_ h=>nomatch h⟩,rfl⟩
 |x::xs,b,s2,b0,hb,hx=>by
  obtain⟨x0,xP⟩:=hx x (Rz ..);obtain⟨d,hd⟩:∃d:Nat,d=x.2.toNat:=⟨_,rfl⟩;have ex:x.2=(d:Int):=by lia
  rw[<-hd]at xP;obtain⟨l1,l2,l3,l4⟩:=Oq b0 (by lia) hb xP;obtain⟨b',u2,⟨h1,h2,h3,h4⟩,e⟩:=ET P0 Pb s0 xs (mv b d) (.val (pD x)) l4 l1 λy hy=>hx y (Rx _ hy);refine⟨b',u2,⟨WV l2 h1,h2,h3,λy hy=>?_⟩,?_⟩
  .rcases RB.mp hy with z|z
   .rw[z,<-hd];exact WV l3 h1
   .exact h4 y z
  .let t:=[s0,.val (.int b),.val (pD x)]
   have i1:(d2 ao aK aX) t=Qs (.cl (.int d)):=by rw[<-ex];rfl
   have bP:=UN P0 hb;have dP:=UN P0 xP;have gb:=Nat.gcd_le_left d b0;have g0:=Nat.gcd_pos_of_pos_left d b0;have big:=j0;have dv:=mS (fa:=af 1) rfl ((dm (rfl:af 1 t=Qs _) i1).trans (di (Ht b d) rfl)) (by lia) (kO (by lia));rw[vp]at dv;have q1:=TM b (S6 b d);exact(gA rfl (hX (gY dv i1 (kO (by lia)) (kO (by lia))) (by simp[t]))).trans e
def QS(P0:0<P)(Pb:P<qB){xs:Ql (Int×Int)}(hl:xs.length<=50000)(hx:∀x∈xs,0<=x.1/\x.1<(DL.Wq:Int)/\0<x.2/\x.2.toNat ∣ P):∃b:Nat,(0<b/\b ∣ P/\∀x∈xs,x.2.toNat ∣ b)/\sE [.lst (xs.map pD)]=Qs (.cl (.tup [iL (xs.map λx=>x.1*((b/x.2.toNat:Nat):Int)),.int (b:Int)])):=by
 obtain⟨b,u2,⟨_,b0,bP,bd⟩,e⟩:=ET P0 Pb (.val (.lst (xs.map pD))) _ 1 .no Nat.one_pos (Nat.one_dvd P) λx h=>(hx x h).2.2;refine⟨b,⟨b0,bP,bd⟩,?_⟩;let A:Sl:=.val (.lst (xs.map pD))
 let t0:=[A,.no,.no]
 let t1:=[A,.val (.int 1),.no]
 let t2:=[A,.val (.int b),u2]
 have big:=j0;have bB:=UN P0 bP;have c:(aM 1 [1] (bA ah) bo aZ (d2 qM (d2 ao ah aU) (d2 qV av (d2 ao ah aX)))) t2=Qs (.nw ((xs.map λx=>x.1*((b/x.2.toNat):Int)).map D.int)):=by
  have:=ku (ft:=aZ) (fe:=d2 _ (d2 ao ah aU) _) (g:=λx=>D.int (x.1*((b/x.2.toNat)))) (f:=af 0) (t:=t2) (cap:=[1]) rfl rfl rfl hl (λx _=>rfl) (λx hm _=>by
   obtain⟨n0,n1,d0,dP⟩:=hx x hm;have dle:=UN P0 dP;let t:Th:=[.val (pD x),.val (.int b)]
   obtain⟨d,hd⟩:∃d:Nat,d=x.2.toNat:=⟨_,rfl⟩;have ex:x.2=d:=by lia
   have i1:(d2 ao ah aX) t=Qs (.cl (.int d)):=by rw[<-ex];rfl
   have dv:=mS (fa:=af 1) rfl i1 (by lia) (kO (by lia));rw[vp]at dv;have q1:=TM b d;refine⟨_,gY rfl dv (gq (RL _) n0 n1) (kO (by lia)),?_⟩;rw[<-hd];rfl) (.inr rfl)
  rw[Tc.mpr λ_ _=>rfl]at this;rw[this,R6];rfl
 exact Wq ((aG rfl).trans ((aG ((rL rfl rfl rfl).trans e)).trans (fg ((dm c rfl).trans rfl))))
theorem Hs{s0:Sl}:∀(P:Ql Int) (K:Ql Int) (u:Sl),K.length+P.length<40000->jM bo aZ ah jS (P.map D.int) [u] (uJ K)=Qs (uJ (P.foldl d9 K))
 |[],K,u,_=>rfl
 |x::P,K,u,h=>by
  rw[Su]at h;have l:(d9 K x).length<=K.length+1:=by unfold d9;split<;>simp
  have st:pH (uJ K) (.cl (.int x)) (.cl (.bl Qt))=Qs (uJ (d9 K x)):=by show(if(Qt&&decide ((K.map _).length<50000))=Qt then Qs (fE (K.map _) (K.map _) (kN x) (.bl _)) else Qn)=_;rw[V4 (by rw[Ww (by rw[RE];lia)];rfl),Dk];rfl
  show((pH _ _ _).bind _)=_;rw[st];exact(Hs (s0:=s0) P _ _ (by lia))
def oO(P:Ql Int):D:=.WR ((P.foldl d9 []).map kN) ((P.foldl d9 []).map jo)
def FQ(h1:f t=Qs (.cl (.int x)))(h2:g t=Qs r)(e:r.d=oO P):(d2 (lq Qf) f g) t=Qs (.cl (.bl (decide (x∈P)))):=by
 rw[cg h1 h2];unfold lq;rw[e];show Qs (Ev.cl (.bl (iK _ (kN x))))=_;rw[zW];have:x∈P.foldl d9 []↔x∈P:=by rw[EH];simp
 rw[decide_eq_decide.mpr this]
def Pu(L:Ql Int)(a:Nat)(v:Int)(k:Nat)(h:a<L.length):(L.set a v).getD k 0=if k=a then v else L.getD k 0:=by
 grind
def jz(P:Ql Int)(ts:Ql Eg)(k:Nat):Bool:=bU P (ts.getD k (0,0))
theorem EZ(ts:Ql Eg)(s0 s1 s2 s3 s4 s6:Sl):∀(es:Ql Eg) (i:Nat) (L:Ql Int) (s9 ZA Zz:Sl),ts.drop i=es->L.length=ts.length->∃(L':Ql Int) (u9 Zj Zi:Sl),(L'.length=ts.length/\∀k,L'.getD k 0=if i<=k/\k<ts.length/\jz P ts k=Qt then L.getD k 0-w else L.getD k 0)/\bY (bq 2 (cI (cG 9) (cI (bq 2 (cI (cG 10) (cI (cG 11) gc))) gc))) Bk (fz i (es.map pD)) [s0,s1,s2,s3,s4,.own (L.map D.int),s6,.val (.int w),.dp (oO P),s9,ZA,Zz]=Qs (.nx [s0,s1,s2,s3,s4,.own (L'.map D.int),s6,.val (.int w),.dp (oO P),u9,Zj,Zi])
 |[],i,L,s9,ZA,Zz,h,hl=>by refine⟨L,s9,ZA,Zz,⟨hl,λk=>?_⟩,rfl⟩;have:=List.drop_eq_nil_iff.mp h;rw[Wh (by lia)]
 |e::es,i,L,s9,ZA,Zz,h,hl=>by
  have hi:i<ts.length:=by refine Sw λn=>?_;rw[Vn (by lia)]at h;cases h
  rw[SM hi]at h;injection h with h1 h2
  have el:jz P ts i=bU P e:=by
   unfold jz
   simp_all
  let t1:Th:=[s0,s1,s2,s3,s4,.own (L.map D.int),s6,.val (.int w),.dp (oO P),.val (.int (i:Int)),.val (.int e.1),.val (.int e.2)]
  have c:aD (d2 bV (d2 (lq Qf) (af 10) (af 8)) (d2 (lq Qf) (af 11) (af 8))) t1=Qs (bU P e):=by unfold aD;rw[En (FQ rfl rfl rfl) (FQ rfl rfl rfl)];rfl
  have step:∃L1:Ql Int,L1.length=ts.length/\(∀k,L1.getD k 0=if k=i/\jz P ts k=Qt then L.getD k 0-w else L.getD k 0)/\Bk t1=Qs (.nx [s0,s1,s2,s3,s4,.own (L1.map D.int),s6,.val (.int w),.dp (oO P),.val (.int (i:Int)),.val (.int e.1),.val (.int e.2)]):=by
   cases q:bU P e with
   |true=>
    rw[q]at c;refine⟨L.set i (L.getD i 0-w),by rw[UP];assumption,λk=>?_,?_⟩
    .rw[Pu _ _ _ _ (by lia)];by_cases z:k=i
     .simp_all
     simp_all
    .exact(jF c rfl).trans (Q3 rfl rfl rfl (by lia))
   |false=>rw[q]at c;refine⟨L,hl,λk=>?_,(zT c rfl).trans rfl⟩;lia
  obtain⟨L1,l1,g1,e1⟩:=step;obtain⟨L',u9,Zj,Zi,⟨l2,g2⟩,e2⟩:=EZ (P:=P) (w:=w) ts s0 s1 s2 s3 s4 s6 es (i+1) L1 (.val (.int (i:Int))) (.val (.int e.1)) (.val (.int e.2)) h2 l1;refine⟨L',u9,Zj,Zi,⟨l2,λk=>?_⟩,(gA (t1:=t1) rfl e1).trans e2⟩;rw[g2 k];by_cases z:k=i
  .grind
  .have g1':L1.getD k 0=L.getD k 0:=by rw[g1 k,Wh λy=>z y.1]
   rw[g1'];by_cases y:i+1<=k/\k<ts.length/\jz P ts k=Qt
   .rw[V4 y,V4 ⟨by lia,y.2⟩]
   .rw[Wh y,Wh λv=>y ⟨by lia,v.2⟩]
theorem EL(ts:Ql Eg)(s0 s1 s2 s3:Sl):∀(xs:Ql (Ql Int×Int)) (L:Ql Int) (s6 s7 s8 s9 ZA Zz:Sl),(∀x∈xs,x.1.length<1000)->L.length=ts.length->∃(L':Ql Int) (u6 u7 u8 u9 Zj Zi:Sl),(L'.length=ts.length/\∀k,k<ts.length->L'.getD k 0=L.getD k 0-((xs.filter λx=>jz x.1 ts k).map Prod.snd).sum)/\bY (bq 2 lW) HY (hZ ((xs.map Prod.fst).map aV) ((xs.map Prod.snd).map D.int)) [s0,s1,s2,s3,.val (.lst (ts.map pD)),.own (L.map D.int),s6,s7,s8,s9,ZA,Zz]=Qs (.nx [s0,s1,s2,s3,.val (.lst (ts.map pD)),.own (L'.map D.int),u6,u7,u8,u9,Zj,Zi])
 |[],L,s6,s7,s8,s9,ZA,Zz,_,hl=>⟨L,s6,s7,s8,s9,ZA,Zz,⟨hl,λk _=>by simp⟩,rfl⟩
 |x::xs,L,s6,s7,s8,s9,ZA,Zz,hx,hl=>by
  have lx:=hx x (Rz ..);obtain⟨L1,v9,v10,v11,⟨l1,g1⟩,e1⟩:=EZ (P:=x.1) (w:=x.2) ts s0 s1 s2 s3 (.val (.lst (ts.map pD))) (.val (aV x.1)) ts 0 L s9 ZA Zz rfl hl;obtain⟨L',u6,u7,u8,u9,Zj,Zi,⟨l2,g2⟩,e2⟩:=EL ts s0 s1 s2 s3 xs L1 (.val (aV x.1)) (.val (.int x.2)) (.dp (oO x.1)) v9 v10 v11 (λy hy=>hx y (Rx _ hy)) l1;refine⟨L',u6,u7,u8,u9,Zj,Zi,⟨l2,λk hk=>?_⟩,?_⟩
  .rw[g2 k hk,g1 k];cases q:jz _ _ k with
   |true=>rw[Ve (p:=λx=>jz _ _ k) q,V4 ⟨by simp,hk,rfl⟩,RK,Sj];lia
   |false=>simp_all
  .let t1:=[s0,s1,s2,s3,.val (.lst (ts.map pD)),.own (L.map D.int),.val (aV x.1),.val (.int x.2),s8,s9,ZA,Zz]
   exact(gA rfl ((aG (o4 (by
    show((jM _ _ _ _ _ [.no] _).map _)=_;have:=Hs (s0:=s0) x.1 [] .no (by simp;lia);rw[show jM _ _ _ _ _ _ ([],[])=_ from this];rfl) (by simp[t1]))).trans e1)).trans e2
def ID(hl:L.length=ts.length)(ht:ts.length<=1000){xs:Ql (Ql Int×Int)}(hx:∀x∈xs,x.1.length<1000)(hk:∀k,k<ts.length->((xs.filter λx=>jz x.1 ts k).map Prod.snd).sum<=L.getD k 0):wm [wD M ts,iL L,.lst ((xs.map Prod.fst).map aV),iL (xs.map Prod.snd)]=Qs (.cl (.bl Qt)):=by
 let A:Sl:=.val (wD M ts)
 let B:Sl:=.val (iL L)
 let C:Sl:=.val (.lst ((xs.map Prod.fst).map aV))
 let E:Sl:=.val (iL (xs.map Prod.snd))
 let t0:=[A,B,C,E,.no,.no,.no,.no,.no,.no,.no,.no]
 let t1:=[A,B,C,E,.val (.lst (ts.map pD)),.no,.no,.no,.no,.no,.no,.no]
 obtain⟨L',u6,u7,u8,u9,Zj,Zi,⟨l',g'⟩,e⟩:=EL _ A B C E _ L .no .no .no .no .no .no hx hl;let t3:=[A,B,C,E,.val (.lst (ts.map pD)),.own (L'.map D.int),u6,u7,u8,u9,Zj,Zi]
 have c:(aM 1 [] (bA cK) bo aZ (d2 qH ah aU)) t3=Qs (.nw ((L'.map λx=>decide (0<=x)).map D.bl)):=by
  have:=ku (ft:=aZ) (fe:=d2 qH ah aU) (f:=af 5) (t:=t3) (cap:=[]) rfl rfl rfl (by lia) (λx _=>rfl) (λx _ _=>⟨_,rfl,rfl⟩) (.inl (by
    rw[Tc.mpr λ_ _=>rfl];have:=Ak (L'.map λx=>decide (0<=x));rw[R6]at this;assumption))
  rw[Tc.mpr λ_ _=>rfl]at this;rw[this,R6];rfl
 have al:(L'.map λx=>decide (0<=x)).all id=Qt:=by
  rw[List.all_map,SW];intro x hx';obtain⟨k,hk',rfl⟩:=List.mem_iff_getElem.mp hx';have:=g' k (by lia);have h2:=hk k (by lia);rw[Sb,RH hk']at this
  simp_all
 have E4:=fg (Bw c);rw[al]at E4;exact Wq ((aG (hX (pk (t:=t0) rfl) (by simp[t0]))).trans ((aG (gO (oy (t:=t1) rfl rfl) (by simp[t1]))).trans ((aG e).trans E4)))
def QD(h:G (rs.map Ev.d)=Qs (.cl d))(ho:rs.all Ev.ok=Qt):aH G rs=Qs (.cl d):=by unfold aH;rw[h,ho];rfl
def Cc(J:XG M ts wl ws):((dW M ts wl ws).map (bp wl)).sum*(aI M ts wl ws).pa<=2*aJ (aI M ts wl ws).wd (aI M ts wl ws).n:=by
 have E:=i9 J;exact IU (jf J.Yr) (λa a0 a1=>(J.wt a a0 a1).1) J.Zp J.all (by
  have:=(pY (e:=aC ts) (w:=bp wl) (nt:=ts.length) (ws:=ws) J.Xq.1).1;lia) E.nd E.sub E.join E.min
def FE(J:XG M ts wl ws):(dW M ts wl ws).Pairwise (·< ·):=by exact((pJ _).and (i9 J).nd).imp λ{a b} h=>by lia
def uR(J:XG M ts wl ws):(dW M ts wl ws).length<=1000:=by have E:=i9 J;have:=pE E.nd λx hx=>jy (E.inF x hx).1 (E.inF x hx).2;rw[fO]at this;have:=J.Xq.2.1;lia
theorem Hk:∀(ms:Ql (Ql Int×(Int×Int))) (s s':Sl),bJ (bq 2 dF) aZ av (ms.map aO) [s,s']=Qs ((ms.map Prod.snd).map pD)
 |[],_,_=>rfl
 |x::ms,s,s'=>by show(bJ _ _ _ _ [.val _,.val _]).map _=_;rw[(Hk _ _ _)];rfl
theorem wR{α:Type}{f g:α->Int}:∀{l:Ql α},(∀x∈l,f x*p=g x*b)->(l.map f).sum*p=(l.map g).sum*b
 |[],_=>by simp
 |x::l,h=>by rw[RK,RK,Sj,Sj,VI,VI,(wR λy hy=>h y (Rx _ hy)),h x (Rz ..)]
def Of(J:XG M ts wl ws):v3 [wD M ts,iL wl,.lst (ws.map pD),iL (dW M ts wl ws),.lst ((dg M ts wl ws).map aO)]=Qs (.cl (.bl Qt)):=by
 have MO:=uQ J;have E:=J.end;have JE:=i9 J;have two:=Cc J;have ris:=FE J;have lT:=uR J;have X2:=JE.inF;have zf9:=JE.join;have paB:=oj J;have Xl:=E.ok.Xl;have part:=EC J;have zm3:=wK J;have fea:∀a,0<=a->a<(ts.length:Int)->cx (aI M ts wl ws) (aC ts a)<=bp wl a*(aI M ts wl ws).pa:=λa a0 a1=>JE.zbQ.fea E.ok (jf J.Yr) a0 a1;have big:=j0;have mem:∀x∈dg M ts wl ws,∃w,0<w/\w<(DL.Wq:Int)/\x.2=bg w (aI M ts wl ws).pa/\∀l∈x.1,0<=l/\l<(M:Int):=λx hx=>by obtain⟨p,⟨p0,p1⟩,w0,rfl⟩:=oK hx;refine⟨_,w0,?_,rfl,λl hl=>E.ok.inr p p0 p1 l hl⟩;have:=(E.bd.wd p p0 p1).2;refine SU this (Vx.mpr ?_);decide+kernel
 have Xq:=J.Xq;obtain⟨T,hT⟩:∃T,T=dW M ts wl ws:=⟨_,rfl⟩;rw[<-hT]at two ris lT X2 zf9 ⊢;obtain⟨ms,hms⟩:∃ms,ms=dg M ts wl ws:=⟨_,rfl⟩;rw[<-hms]at MO part mem ⊢;obtain⟨P,hP⟩:∃P:Nat,(aI M ts wl ws).pa=(P:Int):=⟨(aI M ts wl ws).pa.toNat,by lia⟩;rw[hP]at two Xl paB part mem fea;have len:=MO.len;have P0:0<P:=by lia
 have Pb:P<qB:=by lia
 have fr:∀x∈ms,0<=x.2.1/\x.2.1<(DL.Wq:Int)/\0<x.2.2/\x.2.2.toNat ∣ P:=λx hx=>by obtain⟨w,w0,wb,e,_⟩:=mem x hx;rw[e];have b:=rH (b:=P) (by lia) wb (‹_›) (by lia);exact⟨b.1.1,b.1.2,b.2.1,Nat.div_dvd_of_dvd (VT ..)⟩
 obtain⟨b,⟨b0,bP,bd⟩,eB⟩:=QS P0 Pb (xs:=ms.map Prod.snd) (by rw[RE];lia) λx hx=>by obtain⟨y,hy,rfl⟩:=RU.mp hx;exact fr y hy
 have bB:=UN P0 bP;let Wd:Ql Int×(Int×Int)->Int:=λx=>x.2.1*((b/x.2.2.toNat:Nat):Int)
 have W0:∀x∈ms,0<=Wd x:=λx hx=>Ux (fr x hx).1 (Uk _);have sc:∀x∈ms,Wd x*(P:Int)=qv (P:Int) x.2*(b:Int):=λx hx=>by
  obtain⟨w,w0,wb,e,_⟩:=mem x hx;obtain⟨f0,_,f2,_⟩:=fr x hx;have dv:=bd _ (RU.mpr ⟨x,hx,rfl⟩);have q:qv P x.2=w:=by rw[e];exact pO (by lia) Xl
  have cr:x.2.1*P=w*x.2.2:=by rw[e];exact lC (by lia) Xl
  obtain⟨d,hd⟩:∃d:Nat,x.2.2=d:=⟨x.2.2.toNat,by lia⟩;rw[q];show x.2.1*((b/x.2.2.toNat:Nat))*P=_;rw[hd]at cr dv ⊢;rw[U9]at dv ⊢;have:b=d*((b/d:Nat):Int):=by rw[<-Int.natCast_mul,Nat.mul_div_cancel' dv]
  rw[U1,cr,Um,<-this]
 have eW:((ms.map Prod.snd).map λx:Int×Int=>x.1*((b/x.2.toNat:Nat):Int))=ms.map Wd:=by rw[R6];rfl
 rw[eW]at eB;have tot:(ms.map Wd).sum*(P:Int)=aJ (aI M ts wl ws).wd (aI M ts wl ws).n*(b:Int):=by rw[wR sc];have:=part λ_=>Qt;rw[Tc.mpr λ_ _=>rfl]at this;rw[this];rfl
 let wh:Ql Int:=wl.map λw=>w*(b:Int)
 have hwh:wh.length=ts.length:=by rw[RE];exact J.zaA
 have gwh:∀k,k<ts.length->wh.getD k 0=bp wl (k:Int)*(b:Int):=λk hk=>by
  have:=J.zaA;show(wl.map _).getD k 0=wl.getD _ 0*_
  simp_all
 let xs:Ql (Ql Int×Int):=ms.map λx=>(x.1,Wd x)
 have within:=ID (M:=M) (ts:=ts) (L:=wh) hwh Xq.2.1 (xs:=xs) (λx hx=>by
   obtain⟨y,hy,rfl⟩:=RU.mp hx;have:=(MO.Y5 y hy).1;show y.1.length<1000;lia) λk hk=>by
  rw[gwh k hk];have e1:((xs.filter λx=>jz x.1 ts k).map Prod.snd)=(ms.filter λx=>bU x.1 (aC ts k)).map Wd:=by rw[Wc,R6];rfl
  rw[e1];have s:=wR (l:=ms.filter λx=>bU x.1 (aC ts k)) λx hx=>sc x (RY.mp hx).1;rw[part λQ=>bU Q _]at s;refine T2 ?_ Xl;rw[s,U1];exact(Sz (fea (k:Int) (by lia) (by lia)) (Uk b))
 have eX1:xs.map Prod.fst=ms.map Prod.fst:=by rw[R6];rfl
 have eX2:xs.map Prod.snd=ms.map Wd:=by rw[R6];rfl
 rw[eX1,eX2]at within;have rT:kU (ts.length:Int) (-1) T=Qt:=yd (by lia) (λl hl=>by have:=X2 l hl;lia) ris;have isj:=OU (M:=M) (by lia) J.Yr J.Zp lT rT X2 zf9;let A:Sl:=.val (wD M ts)
 let B:Sl:=.val (iL wl)
 let C:Sl:=.val (.lst (ws.map pD))
 let D1:Sl:=.val (iL T)
 let F:Sl:=.val (.lst (ms.map aO))
 let t0:Th:=[A,B,C,D1,F,.no,.no,.no,.no]
 have G1:=not_of (ig ((jq (k:=aH wk) (rfl:af 0 t0=Qs (.cl (wD M ts))) (rfl:af 2 t0=Qs (.cl (.lst (ws.map pD)))) (rfl:af 3 t0=Qs (.cl (iL T)))).trans (di (rs:=[.cl (wD M ts),.cl (.lst (ws.map pD)),.cl (iL T)]) isj rfl)));have E1:=dQ (g:=bW l6) G1 rfl;have c2:(aM 2 [] (bA bh) (bq 2 dF) aZ ah) t0=Qs (.nw ((ms.map Prod.fst).map aV)):=by unfold aM;have e1:bA bh t0=Qs (Qt,ms.map aO):=rfl;rw[e1];show(if(ms.map aO).length<=50000 then(bJ _ _ _ (ms.map aO) [.no,.no]).bind _ else Qn)=_;rw[V4 (by rw[RE];lia),AE ms,R6];rfl
 have E2:=gO (i:=5) c2 (by simp[t0]);let R:Sl:=.own ((ms.map Prod.fst).map aV)
 let t1:Th:=[A,B,C,D1,F,R,.no,.no,.no]
 have c3:(aM 1 [2,0] (bA cK) bo aZ (kE (ag (aH lO) (ae ah (ae (d2 ao aK aU) aq))) (ag (aH o6) ji))) t1=Qs (.nw (((ms.map Prod.fst).map λ_=>Qt).map D.bl)):=by
  have:=ku (e:=aV) (ft:=aZ) (fe:=kE (ag (aH lO) (ae ah (ae (d2 ao aK aU) aq))) (ag (aH o6) ji)) (g:=λ_=>D.bl Qt) (p:=λ_=>Qt) (c:=[.lst (ws.map pD),wD M ts]) (b:=Qt) (r:=.tm (.lst ((ms.map Prod.fst).map aV))) (f:=af 5) (t:=t1) (cap:=[2,0]) (xs:=ms.map Prod.fst) rfl rfl rfl (by rw[RE];lia) (λx _=>rfl) (λx hx _=>by
   obtain⟨y,hy,rfl⟩:=RU.mp hx;obtain⟨l1,s1⟩:=MO.Y5 y hy;obtain⟨_,_,_,_,inR⟩:=mem y hy;let t:Th:=[.val (aV y.1),.val (.lst (ws.map pD)),.val (wD M ts)]
   have i1:=BY (i:=2) (t:=t) (M:=M) (ts:=ts) rfl;have k1:=(dm (k:=aH lO) (rfl:af 0 t=Qs (.cl (aV y.1))) i1).trans (di (rs:=[.cl (aV y.1),.cl (.int (M:Int))]) (CT (M:=(M:Int)) (cs:=y.1) (by lia)) rfl);rw[yd (by lia) (λl hl=>by have:=inR l hl;lia) s1]at k1;have k2:=(dm (k:=aH o6) (rfl:af 0 t=Qs (.cl (aV y.1))) (rfl:af 1 t=Qs (.cl (.lst (ws.map pD))))).trans (di (rs:=[.cl (aV y.1),.cl (.lst (ws.map pD))]) (Mp (ws:=ws) (by lia) y.1) rfl);rw[MO.prt y hy]at k2;exact⟨_,Bu k1 k2,rfl⟩) (.inl (by
    rw[Tc.mpr λ_ _=>rfl];have:=Ak ((ms.map Prod.fst).map λ_=>Qt);rw[R6]at this;exact this))
  rw[Tc.mpr λ_ _=>rfl]at this;rw[this];simp only[R6];rfl
 have E3:=dQ (g:=bW l6) (not_of (ig (Bw c3))) (by
  have:((ms.map Prod.fst).map λ_=>Qt).all id=Qt:=SW.mpr λx hx=>by obtain⟨_,_,rfl⟩:=RU.mp hx;rfl
  rw[this];rfl)
 have c4:(aM 2 [] (bA bh) (bq 2 dF) aZ av) t1=Qs (.nw ((ms.map Prod.snd).map pD)):=by unfold aM;have e1:bA bh t1=Qs (Qt,ms.map aO):=rfl;rw[e1];show(if(ms.map aO).length<=50000 then(bJ _ _ _ (ms.map aO) [.no,.no]).bind _ else Qn)=_;rw[V4 (by rw[RE];lia),Hk ms];rfl
 let t2:Th:=[A,B,C,D1,F,R,.val (iL (ms.map Wd)),.val (.int (b:Int)),.no]
 have k4:=(fA (k:=aH sE) c4).trans (QD (rs:=[.nw ((ms.map Prod.snd).map pD)]) eB rfl);have E4:dY (bq 2 lW) (ag (aH sE) (ae (aM 2 [] (bA bh) (bq 2 dF) aZ av) aq)) t1=Qs (.nx t2):=by unfold dY;rw[k4];rfl
 have c5:(aM 1 [7] (bA av) bo aZ (d2 qM ah av)) t2=Qs (.nw (wh.map D.int)):=rX (c:=[.int (b:Int)]) (f:=af 1) (t:=t2) (cap:=[7]) (b:=Qt) (r:=.cl (iL wl)) (xs:=wl) (g:=λw=>w*(b:Int)) rfl rfl (by have:=J.zaA;lia) rfl λx hx=>by
   have:=J.zdB x hx;have b20:((10^20:Nat):Int)<(DL.Wq:Int):=by unfold DL.Wq;decide+kernel
   exact gY (fa:=af 0) (fb:=af 1) (t:=[.val (.int x),.val (.int (b:Int))]) rfl rfl (gq (RL _) this.1 (by lia)) (kO (by lia))
 have E5:=gO (i:=8) c5 (by simp[t2]);let t3:Th:=[A,B,C,D1,F,R,.val (iL (ms.map Wd)),.val (.int (b:Int)),.own (wh.map D.int)]
 have c6:(aM 1 [] (bA c9) bo aZ (d2 qL ah aU)) t3=Qs (.nw (((ms.map Wd).map λx=>decide (x<0)).map D.bl)):=by have:=ku (e:=D.int) (ft:=aZ) (fe:=d2 qL ah aU) (g:=λx=>D.bl (decide (x<0))) (p:=λ_=>Qt) (c:=[]) (b:=Qt) (r:=.cl (iL (ms.map Wd))) (f:=af 6) (t:=t3) (cap:=[]) (xs:=ms.map Wd) rfl rfl rfl (by rw[RE];lia) (λx _=>rfl) (λx _ _=>⟨.cl (.bl (decide (x<0))),rfl,rfl⟩) (.inr rfl);rw[Tc.mpr λ_ _=>rfl]at this;rw[this];simp only[R6];rfl
 have a6:((ms.map Wd).map λx=>decide (x<0)).any id=Qf:=by rw[R6,List.any_map,VL];intro x hx;have:=W0 x hx;show ¬decide (Wd x<0)=Qt;rw[XT];lia
 have k6:=ig (Ii c6);have k7:=not_of (ig ((wQ (k:=aH wm) (rfl:af 0 t3=Qs (.cl (wD M ts))) (rfl:af 8 t3=Qs (.tm (iL wh))) (rfl:af 5 t3=Qs (.tm (.lst ((ms.map Prod.fst).map aV)))) (rfl:af 6 t3=Qs (.cl (iL (ms.map Wd))))).trans (di (rs:=[.cl (wD M ts),.tm (iL wh),.tm (.lst ((ms.map Prod.fst).map aV)),.cl (iL (ms.map Wd))]) within rfl)));have E6:=dQ (g:=bW l6) (ml k6 k7) (by rw[a6];rfl);have c8:(aM 1 [8] (bA bw) bo aZ (d2 ao av ah)) t3=Qs (.nw ((T.map λa=>bp wl a*(b:Int)).map D.int)):=rX (c:=[iL wh]) (f:=af 3) (t:=t3) (cap:=[8]) (b:=Qf) (r:=.cl (iL T)) (xs:=T) (g:=λa=>bp wl a*(b:Int)) rfl rfl (by lia) rfl λa ha=>by have h:=X2 a ha;have:=ke (fa:=af 1) (fb:=af 0) (t:=[.val (.int a),.val (iL wh)]) (r1:=.cl (iL wh)) (r2:=.cl (.int a)) wh a rfl rfl h.1 (by lia) rfl rfl;have g:=gwh a.toNat (by lia);rw[show((a.toNat:Nat):Int)=a by lia]at g;rw[g]at this;exact this
 have s8:=wU c8 rfl;have s9:=wU (f:=af 6) (t:=t3) (r:=.cl (iL (ms.map Wd))) (xs:=ms.map Wd) rfl rfl;have tp:0<=(ms.map Wd).sum:=by
  have:∀l:Ql (Ql Int×(Int×Int)),(∀x∈l,0<=Wd x)->0<=(l.map Wd).sum:=by
   intro l
   induction l with
   |nil=>intro _;exact Tq 0
   |cons x l ih=>intro h;have:=ih λy hy=>h y (Rx _ hy);have:=h x (Rz ..);rw[RK,Sj];lia
  exact this ms W0
 have sg0:0<=aJ (aI M ts wl ws).wd (aI M ts wl ws).n:=by have:=zq J (0,0);lia
 have tb:(ms.map Wd).sum<=aJ (aI M ts wl ws).wd (aI M ts wl ws).n:=by refine T2 (a:=(P:Int)) ?_ Xl;rw[tot];exact Tj (by lia) sg0
 have m9:=gY (fa:=dC (.int 2)) (t:=t3) (a:=2) rfl s9 (by decide+kernel) (gq (RL _) tp (by lia));have fin:(T.map λa=>bp wl a*(b:Int)).sum<=2*(ms.map Wd).sum:=by rw[sX];refine T2 (a:=(P:Int)) ?_ Xl;rw[Um 2,tot,U1,<-Um];exact Sz two (Uk b)
 have E7:bW (d2 qE (ag i8 (ae (aM 1 [8] (bA bw) bo aZ (d2 ao av ah)) aq)) (d2 qM gE (ag i8 lY))) t3=Qs (.rt (.cl (.bl Qt))):=by refine fg ((cg s8 m9).trans ?_);rw[<-Ww fin];rfl
 show(z7 t0).bind iq=_;exact Wq ((aG E1).trans ((aG E2).trans ((aG E3).trans ((aG E4).trans ((aG E5).trans ((aG E6).trans E7))))))
def A9(h:f t=Qs (.cl (.bl b))):aD f t=Qs b:=by unfold aD;rw[h];rfl
theorem ER(J:XG M ts wl ws)(s1 s3 s5 s7:Sl):∀(as:Ql Int) (s6:Sl),(∀a∈as,a∈dW M ts wl ws)->∃u6,bY kH vS (as.map D.int) [.val (wD M ts),s1,.val (.lst (ws.map pD)),s3,.val (iL (dW M ts wl ws)),s5,s6,s7]=Qs (.nx [.val (wD M ts),s1,.val (.lst (ws.map pD)),s3,.val (iL (dW M ts wl ws)),s5,u6,s7])
 |[],s6,_=>⟨s6,rfl⟩
 |a::as,s6,h=>by
  obtain⟨u6,e⟩:=ER J s1 s3 s5 s7 _ (.val (.int a)) λy hy=>h y (Rx _ hy);refine⟨u6,?_⟩;have JE:=i9 J;have lT:=uR J;have Xq:=J.Xq;obtain⟨b,eb,ib⟩:=FD (by lia) J.Yr (by lia) J.Zp (T:=wo _ a) λx hx=>JE.inF x (X1.mp hx).1;have bf:b=Qf:=by
   cases b with
   |false=>rfl
   |true=>obtain⟨x,hx,n⟩:=JE.min a (h a (Rz ..));exact absurd (ib.mp rfl x hx) n
  rw[bf]at eb;let t:=[.val (wD M ts),s1,.val (.lst (ws.map pD)),s3,.val (iL (dW M ts wl ws)),s5,.val (.int a),s7]
  exact(gA rfl (dQ (ig ((jq (rfl:af 0 t=Qs _) (rfl:af 2 t=Qs _) (ku rfl rfl rfl (by lia) (λx _=>uu rfl rfl) (λx _ _=>⟨_,rfl,rfl⟩) (.inl (Xp _)))).trans (di eb rfl))) rfl)).trans e
def Kv(J:XG M ts wl ws):wc [wD M ts,iL wl,.lst (ws.map pD),oM M ts wl ws]=Qs (.cl (.bl Qt)):=by
 have MO:=uQ J;have JE:=i9 J;have two:=Cc J;have ris:=FE J;have lT:=uR J;have Xq:=J.Xq;have Xl:=J.end.ok.Xl;have pq:=oj J;have tq:=Ci J;have tg:=ON J;have big:=j0;have full:=Rb J JE.sub;have zf2:=Ra (ws:=ws) (by lia) MO;have sg0:0<=aJ (aI M ts wl ws).wd (aI M ts wl ws).n:=by have:=zq J (0,0);lia
 obtain⟨bj,ej,ij⟩:=FD (M:=M) (by lia) J.Yr (by lia) J.Zp (T:=dW M ts wl ws) JE.inF;rw[ij.mpr JE.join]at ej;let A:Sl:=.val (wD M ts)
 let B:Sl:=.val (iL wl)
 let C:Sl:=.val (.lst (ws.map pD))
 let D1:Sl:=.val (oM M ts wl ws)
 obtain⟨u6,eL⟩:=ER J B D1 (.val (.lst ((dg M ts wl ws).map aO))) .no (dW M ts wl ws) .no λa h=>h;have X2:=JE.inF;have s0:0<=((dW M ts wl ws).map (bp wl)).sum:=by
  have:∀l:Ql _,(∀x∈l,0<=bp wl x)->0<=(l.map (bp wl)).sum:=by
   intro l
   induction l with
   |nil=>simp
   |cons x l ih=>
    grind
  exact this _ λa ha=>(J.wt a (X2 a ha).1 (X2 a ha).2).1
 have eJ:oM M ts wl ws=.tup [iL (dW M ts wl ws),.lst ((dg M ts wl ws).map aO)]:=rfl;obtain⟨T,hT⟩:∃T,T=dW M ts wl ws:=⟨_,rfl⟩;rw[<-hT]at two ris lT X2 full ej eL s0 eJ;obtain⟨ms,hms⟩:∃ms,ms=dg M ts wl ws:=⟨_,rfl⟩;rw[<-hms]at MO full zf2 tg eL eJ;let t0:Th:=[A,B,C,D1,.no,.no,.no,.no]
 have E1:bO (fS (eZ (dh (iR "tuple" bw))) (fS (aD (d2 bV (ag cb gQ) gE)) (eZ (dh (iR "list" (d2 ao bw aU)))))) fK cw t0=Qs (.nx t0):=rfl;let t1:Th:=[A,B,C,D1,.val (iL T),.val (.lst (ms.map aO)),.no,.no]
 have E2:dY (bq 2 ny) bw t0=Qs (.nx t1):=by show dY _ _ [A,B,C,.val _,.no,.no,.no,.no]=_;show _=Qs (Out.nx [A,B,C,.val _,_,_,_,_]);rw[eJ];rfl
 have c3:(aM 1 [4] (jb aX (ag cb lZ)) bo (aD (d2 qE (d2 ao av ah) (d2 ao av (d2 qS ah aX)))) ah) t1=Qs (.nw []):=by
  let n:=T.length
  have e1:jb aX (ag cb lZ) t1=Qs (Qt,((Si (n-1)).map λ(i:Nat)=>1+(i:Int)).map D.int):=by unfold jb;rw[oB rfl rfl];show(if eI _&&eI 1 then Qs _ else Qn)=_;rw[V4 (by unfold eI;simp;lia),show((n:Int)-1).toNat=n-1 by lia,R6];rfl
  unfold aM;rw[e1];show(if(((Si _).map _).map _).length<=50000 then(bJ _ _ _ _ [.no,.val _]).bind _ else Qn)=_;have cn:bJ _ _ ah (((Si (n-1)).map _).map _) [.no,.val _]=Qs _:=AF (c:=[iL T]) _ _ λx hx=>by
   obtain⟨i,hi,rfl⟩:=RU.mp hx;have hi:=Tg.mp hi;have Za:i+1<T.length:=by lia
   let t:Th:=[.val (.int (1+i)),.val (iL T)]
   have s1:=sY (fa:=af 0) (fb:=dC (.int 1)) (t:=t) rfl rfl;rw[show 1+(i:Int)-1=i by lia]at s1;have r1:=ke (fa:=af 1) T i rfl s1 (by lia) (by lia) rfl rfl;have r2:=ke (fb:=af 0) T _ (rfl:af 1 t=Qs _) rfl (by lia) (by lia) rfl rfl;have q:=Tb.mp ris i _ (by lia) Za (by lia);rw[show(1+(i:Int)).toNat=i+1 by lia,Sb,RH Za]at r2;rw[Sb,RH (by lia)]at r1;have z:=(cg (k:=kI gR λi j=>.bl (decide _)) r2 r1).trans (rfl:_=Qs (Ev.cl (.bl (decide (T[i+1]<=T[i])))));rw[Xt (by lia)]at z;exact A9 z
  rw[V4 (by rw[RE,RE,T3];lia),cn];rfl
 have k3:=A9 (Em (xs:=[]) c3 rfl (rfl:(ag cY aq) t1=Qs (.nw [])));have j3:=not_of (ig ((jq (k:=aH sI) (rfl:af 0 t1=Qs (.cl (wD M ts))) (rfl:af 2 t1=Qs (.cl (.lst (ws.map pD)))) (rfl:af 4 t1=Qs (.cl (iL T)))).trans (di (rs:=[.cl (wD M ts),.cl (.lst (ws.map pD)),.cl (iL T)]) ej rfl)));have E3:=dQ (g:=bW l6) (ml k3 j3) rfl;let t2:Th:=[A,B,C,D1,.val (iL T),.val (.lst (ms.map aO)),u6,.no]
 have E4:fH kH bh vS t1=Qs (.nx t2):=(rL (k:=cG 6) (f:=af 4) (b:=vS) (t:=t1) (r:=.cl (iL T)) rfl rfl rfl).trans eL;have k5:=not_of (ig ((dm (k:=aH wg) (rfl:af 5 t2=Qs (.cl (.lst (ms.map aO)))) (rfl:af 2 t2=Qs (.cl (.lst (ws.map pD))))).trans (di (rs:=[.cl (.lst (ms.map aO)),.cl (.lst (ws.map pD))]) zf2 rfl)));have E5:=dQ (g:=bW l6) (ml (rfl:eZ (dh (iR "list" cK)) t2=Qs Qf) k5) rfl;have k6:=not_of (ig ((wQ (k:=aH wj) (rfl:af 0 t2=Qs (.cl (wD M ts))) (rfl:af 1 t2=Qs (.cl (iL wl))) (rfl:af 4 t2=Qs (.cl (iL T))) (rfl:af 5 t2=Qs (.cl (.lst (ms.map aO))))).trans (di (rs:=[.cl (wD M ts),.cl (iL wl),.cl (iL T),.cl (.lst (ms.map aO))]) full rfl)));have E6:=dQ (g:=bW l6) k6 rfl;have c7:=(fA (k:=aH lR) (rfl:af 5 t2=Qs (.cl (.lst (ms.map aO))))).trans (di (rs:=[.cl (.lst (ms.map aO))]) tg rfl);have E7:=hX (i:=7) c7 (by simp[t2]);have bd:=rH (b:=(aI M ts wl ws).pa) sg0 (by lia) Xl (by lia);have cr:=lC (b:=(aI M ts wl ws).pa) sg0 Xl;have xq:(bg (aJ (aI M ts wl ws).wd (aI M ts wl ws).n) (aI M ts wl ws).pa).1<=aJ (aI M ts wl ws).wd (aI M ts wl ws).n:=by have:=TM (aJ (aI M ts wl ws).wd (aI M ts wl ws).n).toNat (S6 (aJ (aI M ts wl ws).wd (aI M ts wl ws).n).toNat (aI M ts wl ws).pa.toNat);show(((aJ _ _).toNat/_:Nat):Int)<=_;lia
 generalize bg (aJ (aI M ts wl ws).wd (aI M ts wl ws).n) (aI M ts wl ws).pa=x at*
 let t3:Th:=[A,B,C,D1,.val (iL T),.val (.lst (ms.map aO)),u6,.val (pD x)]
 have c8:(aM 1 [1] (bA bh) bo aZ (d2 ao av ah)) t3=Qs (.nw ((T.map (bp wl)).map D.int)):=rX (c:=[iL wl]) (f:=af 4) (t:=t3) (cap:=[1]) (b:=Qt) (r:=.cl (iL T)) (xs:=T) (g:=bp wl) rfl rfl (by lia) rfl λa ha=>by have h:=X2 a ha;have:=J.zaA;exact ke _ a rfl rfl h.1 (by lia) rfl rfl
 have s8:=wU c8 rfl;have qq:2*(qB:Int)<(DL.Wq:Int):=by decide+kernel
 have m8:=gY (fa:=dC (.int 2)) (fb:=d2 ao gk aU) (t:=t3) (a:=2) (b:=x.1) rfl rfl (by rfl) (gq (RL _) bd.1.1 bd.1.2);have a8:(ag cX (ae (d2 qM gE (d2 ao gk aU)) (ae (d2 ao gk aX) aq))) t3=Qs (.cl (pD (2*x.1,x.2))):=(dm (k:=cX) m8 (rfl:(d2 ao gk aX) t3=Qs (.cl (.int x.2)))).trans rfl;have b8:(ag cX (ae (ag i8 (ae (aM 1 [1] (bA bh) bo aZ (d2 ao av ah)) aq)) kG)) t3=Qs (.cl (pD ((T.map (bp wl)).sum,1))):=(dm (k:=cX) s8 (rfl:dC (.int 1) t3=Qs (.cl (.int 1)))).trans rfl;have sb:(T.map (bp wl)).sum<(DL.Wq:Int):=by have h1:(T.map _).sum*1<=(T.map _).sum*(aI M _ _ _).pa:=Tj (by assumption) s0;lia
 have un:=(dm (k:=aH lQ) a8 b8).trans (di (rs:=[.cl (pD (2*x.1,x.2)),.cl (pD ((T.map (bp wl)).sum,1))]) (B9 (x:=(2*x.1,x.2)) (y:=((T.map (bp wl)).sum,1)) (gq (RL _) (by lia) (by lia)) (gq (RL _) (Sd bd.2.1) bd.2.2) (gq (RL _) s0 sb) rfl) rfl);have nu:¬((2*x.1)*1<(T.map (bp wl)).sum*x.2):=λh=>by have h1:=UJ h Xl;have h2:=Sz two (Sd bd.2.1);rw[Xw,Um 2]at h1;lia
 rw[Xt nu]at un;have E8:bW (d1 qz (ag (aH lQ) (ae (ag cX (ae (d2 qM gE (d2 ao gk aU)) (ae (d2 ao gk aX) aq))) (ae (ag cX (ae (ag i8 (ae (aM 1 [1] (bA bh) bo aZ (d2 ao av ah)) aq)) kG)) aq)))) t3=Qs (.rt (.cl (.bl Qt))):=by refine fg ?_;unfold d1;rw[un];rfl
 show(z9 t0).bind iq=_;exact Wq ((aG E1).trans ((aG E2).trans ((aG E3).trans ((aG E4).trans ((aG E5).trans ((aG E6).trans ((aG E7).trans E8)))))))
theorem EM(hM:M<=9)(hw:Yi M ts)(ht:ts.length<=1000):∀(xs:Ql Int) (ws:Ql Eg) (w:Int×Int),Yj w->ws.length+xs.length<=100->je M ws->(∀w∈ws,Eqv (gi (aC ts) ts.length) w.1 w.2)->∃(Yq:Ql Eg) (w':Int×Int),Yj w'/\Yq.length<=ws.length+xs.length/\je M Yq/\(∀w∈Yq,Eqv (gi (aC ts) ts.length) w.1 w.2)/\∀(p:ZE) (s2 s4 s5 s6 s7:Sl),∃u4 u5 u6 u7,gz jl (HZ p) (xs.map D.int) [.val (.adr p),.val (wD M ts),s2,.own (ws.map pD),s4,s5,s6,s7] w=Qs (.nx [.val (.adr p),.val (wD M ts),s2,.own (Yq.map pD),u4,u5,u6,u7] w')
 |[],ws,w,ok,_,hi,he=>⟨ws,w,ok,by simp,hi,he,λp s2 s4 s5 s6 s7=>⟨s4,s5,s6,s7,rfl⟩⟩
 |x::xs,ws,w,ok,hl,hi,he=>by
  rw[Su]at hl;have pos:=hw.pos;obtain⟨a,w1,a0,a1,o1,e1⟩:=iV ok (m:=M) (by lia) (Yh (by lia) (by lia));have rN:∀l∈aE _,0<=l/\l<ts.length:=λl hl=>dy hl;obtain⟨R,hR⟩:∃R,R=gD (eV ts (aE ts.length)) 100 0 [a]:=⟨_,rfl⟩;have rc:=CZ (by lia) hw rN a0 a1;have bm:=HV (vu hw rN) a0 a1 (n:=100) (by lia);rw[<-hR]at rc bm;obtain⟨nd,ln,mem⟩:=bm;have r0:=by have:=(mem a).mpr (.refl a);exact Ul this
  have pm:=jW R;have sl:=pm.length_eq;obtain⟨r,w2,q0,q1,o2,e2⟩:=iV o1 (m:=((e9 R).length)) (by lia) (Yh (by lia) (by lia));obtain⟨b,hb⟩:∃b,b=(e9 R).getD r.toNat 0:=⟨_,rfl⟩;have bR:b∈R:=by
   refine pm.mem_iff.mp ?_
   simp_all
  have eb:Eqv (gi (aC ts) ts.length) a b:=by have:=(mem b).mp bR;assumption
  have br:0<=b/\b<(M:Int):=by
   rcases eb.ends with z|⟨_,e',he',z⟩
   .rw[<-z];exact⟨a0,a1⟩
   .have:=vu hw rN _ (‹_›);rcases z with z|z
    .rw[z];exact this.1
    .rw[z];exact this.2
  let nw:Eg:=(if b<a then b else a,if b>a then b else a)
  have ni:(0<=nw.1/\nw.1<(M:Int))/\0<=nw.2/\nw.2<(M:Int):=by show(0<=(if b<a then b else a)/\(if b<a then b else a)<M)/\0<=(if b>a then b else a)/\(if b>a then b else a)<M;split<;>split<;>lia
  have ne:Eqv (gi (aC ts) ts.length) nw.1 nw.2:=by
   show Eqv _ (if b<a then b else a) (if b>a then b else a);by_cases c:b<a
   .rw[V4 c,Wh (by lia)];exact eb.symm
   .by_cases c2:b>a
    .rw[Wh c,V4 c2];assumption
    .rw[Wh c,Wh c2];exact .refl a
  obtain⟨Yq,w',o',l',i',e',run⟩:=EM hM hw ht xs (ws++[nw]) w2 o2 (by rw[SD,Tf];lia) (λy hy=>by
   rcases Ry.mp hy with z|z
   .exact hi y z
   .rw[RG.mp z];assumption) (λy hy=>by
   rcases Ry.mp hy with z|z
   .exact he y z
   .rw[RG.mp z];assumption)
  rw[SD,Tf]at l';refine⟨Yq,w',o',by rw[Su];lia,i',e',λp s2 s4 s5 s6 s7=>?_⟩;obtain⟨u4,u5,u6,u7,e⟩:=run p s2 (.val (.int x)) (.val (.int a)) (.own ((e9 R).map D.int)) (.val (.int b));refine⟨u4,u5,u6,u7,?_⟩;let P:Sl:=.val (.adr p)
  let W:Sl:=.val (wD M ts)
  let O:Sl:=.own (ws.map pD)
  let t:Th:=[P,W,s2,O,.val (.int x),s5,s6,s7]
  have A1:=kT (ρ:=au) (i:=5) (iO (i:=0) (t:=t) (p:=p) rfl (BY (i:=1) (t:=t) rfl) e1) (by simp[t]);let t1:Th:=[P,W,s2,O,.val (.int x),.val (.int a),s6,s7]
  have el:(ag cb (ae (d2 ao av aX) aq)) t1=Qs (.cl (.int (ts.length:Int))):=by rw[fA (pk rfl)];unfold cb;simp[Ev.d]
  have c2:(ag (aH lS) (ae av (ae (jd (ae (ag cb (ae (d2 ao av aX) aq)) aq)) iu))) t1=Qs (.nw (R.map D.int)):=by rw[jq rfl (uA el ht) rfl];exact oY rc
  have A2:=gO (i:=6) (nO (xs:=R) c2 rfl (by lia)) (by simp[t1]);let t2:Th:=[P,W,s2,O,.val (.int x),.val (.int a),.own ((e9 R).map D.int),s7]
  have ix:ao (.tm (.lst ((e9 R).map D.int))) (.cl (.int r))=Qs (.cl (.int b)):=by have:=ke (fa:=af 6) (fb:=dC _) (t:=t2) _ r rfl rfl q0 q1 rfl rfl;rw[hb];assumption
  have A3:=kT (ρ:=au) (i:=7) (fR (ρ:=au) (eY (rfl:af 6 t2=Qs (.tm (.lst ((e9 R).map D.int))))) (iO (i:=0) (t:=t2) (p:=p) rfl (oB (xs:=e9 R) (f:=af 6) (t:=t2) (r:=.tm (.lst ((e9 R).map D.int))) rfl rfl) e2) ix) (by simp[t2]);let t3:Th:=[P,W,s2,O,.val (.int x),.val (.int a),.own ((e9 R).map D.int),.val (.int b)]
  have A4:iS 3 (ag cX (ae (ag qN nD) (ae (ag qX nD) aq))) t3=Qs (.nx [P,W,s2,.own ((ws++[nw]).map pD),.val (.int x),.val (.int a),.own ((e9 R).map D.int),.val (.int b)]):=by have:=Bs t3 (i:=3) (f:=(ag cX (ae (ag qN nD) (ae (ag qX nD) aq)))) rfl rfl (by rw[RE];lia);rw[this,Tp];rfl
  exact(vo (ρ:=au) (t1:=t) rfl ((cW (ρ:=au) A1).trans ((cW (ρ:=au) (ik (ρ:=au) A2)).trans ((cW (ρ:=au) A3).trans (ik (ρ:=au) A4))))).trans e
def IE(ok:Yj w)(hM:M<=9)(hw:Yi M ts)(ht:ts.length<=1000)(m0:0<=m)(m1:m<=50):∃(ws:Ql Eg) (w':Int×Int),Yj w'/\ws.length<=51/\je M ws/\(∀w∈ws,Eqv (gi (aC ts) ts.length) w.1 w.2)/\v8 w [wD M ts,.int m]=Qs (.nw (ws.map pD),w'):=by
 obtain⟨a,w1,a0,a1,o1,e1⟩:=iV ok (m:=m+1) (by lia) (Yh (by lia) (by lia));obtain⟨n,rfl⟩:=Sk a0;obtain⟨ws,w',o',l',i',e',run⟩:=EM hM hw ht (aE n) [] _ o1 (by rw[fO];simp;lia) (λ_ h=>nomatch h) (λ_ h=>nomatch h);rw[fO,List.length_nil]at l';refine⟨ws,w',o',by lia,i',e',lg rfl λp=>?_⟩;obtain⟨u4,u5,u6,u7,e⟩:=run p (.val (.int m)) .no .no .no .no;let t1:Th:=[.val (.adr p),.val (wD M ts),.val (.int m),.own [],.no,.no,.no,.no]
 exact(cW (ik rfl)).trans ((cW ((ya (Pc (iO rfl (mZ rfl rfl) e1) (by lia))).trans e)).trans (CO rfl))
def P9(n:Nat)(x:Ql Int×(Int×Int)):bZ (n+2) (aO x) (aO x)=Qt:=by show(bZ _ _ _&&(bZ _ _ _&&Qt))=Qt;rw[show bZ _ (aV _) (aV _)=Qt from vq n _ _];cases n<;>rfl
theorem GY:∀L:Ql D,(∀d∈L,bZ n d d=Qt)->bZ (n+1) (.lst L) (.lst L)=Qt
 |[],_=>rfl
 |d::L,h=>by show((d::L).zip _).all _=Qt;rw[Sx,SK,RJ];exact⟨h d (Rz ..),GY L λx hx=>h x (Rx _ hx)⟩
def Ik(T:Ql Int)(ms:Ql (Ql Int×(Int×Int))):bZ 6 (.tup [iL T,.lst (ms.map aO)]) (.tup [iL T,.lst (ms.map aO)])=Qt:=by
 show(([iL T,D.lst _].zip _).all _)=Qt;rw[Sx,Sx,List.zip_nil_right,SK,SK,List.all_nil,Vh,RJ];exact⟨vq 4 T T,GY _ λd hd=>by
  obtain⟨x,_,rfl⟩:=RU.mp hd;exact P9 2 x⟩
def El(ha:fa t=Qs r1)(hb:fb t=Qs r2)(h1:r1.d=d)(h2:r2.d=d)(ok:bZ 6 d d=Qt):aD (d2 bV fa fb) t=Qs Qf:=by unfold aD;rw[cg ha hb];unfold bV;rw[h1,h2,V4 ok,Zt.mpr rfl];rfl
def QN(h:G (rs.map Ev.d)=Qs (.dn d)):aH G rs=Qs (.dn d):=by unfold aH;rw[h];unfold jU;split<;>rfl
theorem Hj:∀(ts:Ql (Int×Int)) (w:Int×Int),Yj w->∃(ws:Ql Int) (w':Int×Int),Yj w'/\ws.length=ts.length/\(∀x∈ws,0<=x/\x<=1000000000000000)/\∀(p:ZE) (s:Sl),gB (ρ:=au) bo sT (eX p sH (cq lX Yb)) (ts.map pD) [s,.val (.adr p)] w=Qs (ws.map D.int,w')
 |[],w,ok=>⟨[],w,ok,rfl,λf hf=>(by cases hf),λp s=>rfl⟩
 |x::xs,w,ok=>by
  obtain⟨a,w1,a0,a1,o1,e1⟩:=IG ok;obtain⟨fs,w',o',l',h',run⟩:=Hj xs w1 o1;refine⟨a::fs,w',o',by rw[Su,Su,l'],λf hf=>?_,λp s=>?_⟩
  .rcases RB.mp hf with z|z
   .lia
   .exact h' f z
  .let t:Th:=[.val (pD x),.val (.adr p)]
   exact Qq (ys:=(fs.map _,w')) rfl rfl (vw (lJ (eY rfl) (vW (ρ:=au))) e1) (run p _)
def zc(h:f t=Qs r)(hd:toDn r=Qs d):eQ f t=Qs (d,[]):=by unfold eQ;rw[h,RF,hd];rfl
def ux(h:f t=Qs (d,[]))(hg:g t=Qs (ds,[])):eR f g t=Qs (d::ds,[]):=by unfold eR;rw[h,hg];rfl
def Ej(h:g t=Qs ([a,b],[])):jJ g t=Qs (.dn (.tup [a,b])):=by unfold jJ;rw[h];rfl
theorem Hl:∀(ms:Ql (Ql Int×(Int×Int))) (s s':Sl),fI (bq 2 dF) aZ uI (ms.map aO) [s,s']=Qs (ms.map aO)
 |[],_,_=>rfl
 |x::ms,s,s'=>by
  let t:Th:=[.val (aV x.1),.val (pD x.2)]
  have e:uI t=Qs _:=Ej (ux (zc (oy rfl rfl) (V4 (Xp _))) (ux rfl rfl));show(uI t).bind (λr=>(toDn r).bind λd=>(fI _ _ _ _ [.val _,.val _]).map _)=_;rw[e,(Hl _ _ _)];rfl
def QX(po:Yj (c,n))(N K s3 s4 s5 s6 s7:Sl):∃(u3 u4 u5 u6 u7:Sl),∀p:ZE,(sg C p [N,K,.val (.adr p),s3,s4,s5,s6,s7] (c,n)).map (sZ 2)=Qs (.nx [N,K,.no,u3,u4,u5,u6,u7]):=by
 obtain⟨M,ts,w1,hw,mM,lts,o1,ew⟩:=IH po (m:=9) (by simp) (by simp);have hM:M<=9:=by lia
 have ht:ts.length<=36:=SH lts (P4 M (by assumption));obtain⟨wl,w2,o2,lwl,hwl,zdT⟩:=Hj ts w1 o1;obtain⟨ws,w3,o3,lws,Zp,all,e3⟩:=IE o2 (M:=M) hM hw (by lia) (m:=6) (by simp) (by simp);have big:((10^20:Nat):Int)=100000000000000000000:=by simp
 have J:XG M ts wl ws:=⟨hw,⟨hM,by lia,by lia⟩,lwl,λx hx=>by have:=hwl x hx;lia,Zp,all⟩;have lT:=uR J;have mo:=(uQ J).len;have jn:=OO (C:=C) J;have ri:=Kv J;have le:=Of J;have eD:oM M ts wl ws=.tup [iL (dW M ts wl ws),.lst ((dg M ts wl ws).map aO)]:=rfl;rw[eD]at jn ri;generalize dW M ts wl ws=T at*
 generalize dg M ts wl ws=ms at*
 clear eD;let d:D:=.tup [iL T,.lst (ms.map aO)]
 let d1:D:=.tup [iL (T++[0]),.lst (ms.map aO)]
 let Z6:D:=.tup [iL (T++[0]),.lst (ms.map aO++[aO ([0],(1,1))])]
 let W:Sl:=.val (wD M ts)
 let A:Sl:=.own (wl.map D.int)
 let V:Sl:=.own (ws.map pD)
 refine⟨W,A,V,.dp Z6,.dp d,λp=>?_⟩;let P:Sl:=.val (.adr p)
 let t0:Th:=[N,K,P,s3,s4,s5,s6,s7]
 have F0:=kT (ρ:=au) (i:=3) (t:=t0) (w:=(c,n)) (vw (ρ:=au) (p:=p) (G:=wa) (rs:=[.cl (.int 9)]) (lJ (ρ:=au) (eY (rfl:af 2 t0=Qs (.cl (.adr p)))) (lJ (ρ:=au) (eY (rfl:dC (.int 9) t0=Qs (.cl (.int 9)))) (vW (ρ:=au)))) ew) (by simp[t0]);let t1:Th:=[N,K,P,W,s4,s5,s6,s7]
 have fl:bA (d2 ao (af 3) (dC (.int 1))) t1=Qs (Qt,ts.map pD):=by rfl
 have F1:=CP (ρ:=au) (i:=4) (Qg (ρ:=au) (n:=1) (cap:=[2]) (k:=cG 0) (ft:=sT) (fe:=eX p sH (cq (cu au (af 1)) Yb)) (t:=t1) (c:=Qt) (cs:=[.adr p]) (zU (ρ:=au) (w:=w1) fl) rfl (by rw[RE];lia) (zdT p .no) (Xp wl)) (by simp[t1]);let t2:Th:=[N,K,P,W,A,s5,s6,s7]
 have F2:=CP (ρ:=au) (i:=5) (t:=t2) (w:=w2) (w1:=w3) (xs:=ws.map pD) (vw (ρ:=au) (p:=p) (G:=v8) (rs:=[.cl (wD M ts),.cl (.int 6)]) (lJ (ρ:=au) (eY (rfl:af 2 t2=Qs (.cl (.adr p)))) (lJ (ρ:=au) (eY (rfl:af 3 t2=Qs (.cl (wD M ts)))) (lJ (ρ:=au) (eY (rfl:dC (.int 6) t2=Qs (.cl (.int 6)))) (vW (ρ:=au))))) e3) (by simp[t2]);let t3:Th:=[N,K,P,W,A,V,s6,s7]
 have J3:∀t:Th,t[3]?=Qs W->t[4]?=Qs A->t[5]?=Qs V->(ag (aH (o8 C)) (ae (af 3) (ae (af 4) (ae (af 5) aq)))) t=Qs (.dn d):=λt h3 h4 h5=> (jq (k:=aH (o8 C)) (by unfold af;rw[h3]:af 3 t=Qs (.cl (wD M ts))) (by unfold af;rw[h4];rfl:af 4 t=Qs (.tm (iL wl))) (by unfold af;rw[h5]:af 5 t=Qs (.tm (.lst (ws.map pD))))).trans (QN (rs:=[.cl (wD M ts),.tm (iL wl),.tm (.lst (ws.map pD))]) jn)
 have F3:=o4 (i:=6) (J3 t3 rfl rfl rfl) (by simp[t3]);let t4:Th:=[N,K,P,W,A,V,.dp d,s7]
 have F4:Dg t4=Qs (.nx t4):=dQ (not_of (ig ((wQ (k:=aH wc) (rfl:af 3 t4=Qs (.cl (wD M ts))) (rfl:af 4 t4=Qs (.tm (iL wl))) (rfl:af 5 t4=Qs (.tm (.lst (ws.map pD)))) (rfl:af 6 t4=Qs (.tm d))).trans (di (rs:=[.cl (wD M ts),.tm (iL wl),.tm (.lst (ws.map pD)),.tm d]) ri rfl)))) rfl;have i0:(d2 ao (af 6) (dC (.int 0))) t4=Qs (.tm (iL T)):=rfl;have i1:(d2 ao (af 6) (dC (.int 1))) t4=Qs (.tm (.lst (ms.map aO))):=rfl;have c5:Fy t4=Qs (.dn d):=by refine Ej (ux (zc (oy i0 rfl) (V4 (Xp T))) (ux (zc (r:=.dn _) ?_ rfl) rfl));show(if(ms.map _).length<=50000 then(fI _ _ _ _ [.no,.no]).map _ else Qn)=_;rw[V4 (by rw[RE];lia),Hl _];rfl
 have F5:=o4 (i:=7) c5 (by simp[t4]);let t5:Th:=[N,K,P,W,A,V,.dp d,.dp d]
 have c6:(ag (aH v3) (ae (af 3) (ae (af 4) (ae (af 5) (ae (d2 ao (af 6) (dC (.int 0))) (ae (d2 ao (af 6) (dC (.int 1))) aq)))))) t5=Qs (.cl (.bl Qt)):=by exact di le rfl
 have F6:De t5=Qs (.nx t5):=by refine dQ (ml (A9 ((cg c6 rfl).trans rfl)) (El rfl rfl rfl rfl (Ik T _))) rfl
 let t6:Th:=[N,K,P,W,A,V,.dp d1,.dp d]
 have F7:(rV 6 (dC (.int 0)) (dC (.int 0))) t5=Qs (.nx t6):=by
  show oJ t5 6 0 (.cl (.int 0))=_;show(if(T.map _).length<100000 then Qs _ else Qn)=_;rw[V4 (by rw[RE];lia)];have:T.map D.int++[D.int 0]=(T++[0]).map D.int:=by simp
  rw[this];rfl
 let t7:Th:=[N,K,P,W,A,V,.dp Z6,.dp d]
 have F8:Dc t6=Qs (.nx t7):=by show oJ t6 6 1 (.dn (aO ([0],(1,1))))=_;unfold oJ;show(if(ms.map aO).length<100000 then Qs (Out.nx (t6.set 6 (.dp (.tup ([iL (T++[0]),D.lst (ms.map aO)].set 1 (.lst (ms.map aO++[aO ([0],(1,1))]))))))) else Qn)=_;rw[V4 (by rw[RE];lia)];rfl
 have F9:C9 C t7=Qs (.nx t7):=dQ (El (J3 t7 rfl rfl rfl) (rfl:af 7 t7=Qs (.tm d)) rfl rfl (Ik T ms)) rfl;have run:sg C p t0 (c,n)=Qs (.nx t7 w3):= (cW (ρ:=au) F0).trans ((cW (ρ:=au) F1).trans ((cW (ρ:=au) F2).trans ((cW (ρ:=au) (ik (ρ:=au) F3)).trans ((cW (ρ:=au) (ik (ρ:=au) F4)).trans ((cW (ρ:=au) (ik (ρ:=au) F5)).trans ((cW (ρ:=au) (ik (ρ:=au) F6)).trans ((cW (ρ:=au) (ik (ρ:=au) F7)).trans ((cW (ρ:=au) (ik (ρ:=au) F8)).trans (ik (ρ:=au) F9)))))))))
 show(sg C p t0 (c,n)).map (sZ 2)=_;rw[run];rfl
noncomputable def Q2(C:ZE):DS:=(aB (aW 2 (ag (aH we) ji)) (oU 2 λp=>sg C p))
theorem EX(ns:Ql Int)(hl:ns.length<=63):∀(ks:Ql Nat) (s1 s2 s3 s4 s5 s6 s7:Sl),(∀k∈ks,k<=100)->∃(t':Th),bY wB (Q2 C) (ks.map λ(k:Nat)=>D.int (k:Int)) [.val (.lst (ns.map D.int)),s1,s2,s3,s4,s5,s6,s7]=Qs (.nx t')
 |[],s1,s2,s3,s4,s5,s6,s7,_=>⟨_,rfl⟩
 |k::ks,s1,s2,s3,s4,s5,s6,s7,hk=>by
  let N:Sl:=.val (.lst (ns.map D.int))
  let K:Sl:=.val (.int k)
  obtain⟨c,n,po,ep⟩:=LJ _ hl (hk k (Rz ..));obtain⟨u3,u4,u5,u6,u7,run⟩:=QX (C:=C) po N K s3 s4 s5 s6 s7;obtain⟨t',e⟩:=EX (C:=C) _ hl _ K .no u3 u4 u5 u6 u7 (λk hk'=>hk k (Rx _ hk'));refine⟨t',?_⟩;let t0:=[N,K,s2,s3,s4,s5,s6,s7]
  exact(gA rfl ((aG (gO ((dm rfl rfl).trans (oY (xs:=[c,n]) ep)) (by simp[t0]))).trans (O6 rfl run))).trans e
def Ot(C:ZE)(ns:Ql Int)(hl:ns.length<=63)(hb:∀n∈ns,n.natAbs<Bb):Io C [.lst (ns.map D.int)]=Qs (.cl (.bl Qt)):=by
 let N:Sl:=.val (.lst (ns.map D.int))
 let t2:=[N,.no,.no,.no,.no,.no,.no,.no]
 obtain⟨m,m1,em⟩:∃m:Nat,m<=12/\(ag _ _) _=Qs (.cl (.int m)):=by
  have l0:=oB (f:=af 0) (t:=t2) rfl rfl;have m1:(ag qN _) _=Qs (.cl (.int (if(12:Int)<ns.length then 12 else ns.length))):=(dm l0 (rfl:dC (.int _) _=Qs _)).trans rfl;obtain⟨q,q0,q1,eq⟩:∃q:Int,0<=q/\q<=12/\(if 12<(ns.length:Int) then 12 else(ns.length:Int))=q:=⟨_,by lia,by lia,rfl⟩;rw[eq]at m1;have m2:=dm (k:=mC λi j=>if j>i then j else i) (rfl:dC (.int 1) _=Qs _) m1;refine⟨(if q>1 then q else 1).toNat,?_,?_⟩
  .split<;>lia
  .rw[SG (by lia)];assumption
 obtain⟨t',e⟩:=EX (C:=C) _ hl (Si m) .no .no .no .no .no .no .no (λk hk=>by have:=Tg.mp hk;lia);show(Aa C t2).bind _=_;exact Wq ((aG (by
  unfold oT;rw[em];show(if eI m then bY _ _ _ _ else Qn)=_;rw[V4 (by exact Ww (by lia))];have er:fN 0 (m:Int).toNat=(Si m).map λ(k:Nat)=>D.int k:=by unfold fN;simp
  rw[er];assumption)).trans rfl)
end KX
set_option maxHeartbeats 4000000
namespace KX
open PySem.Spec L2 DL
def w8(K:Rv):Sp:=λvs H Q E=>∀C:ZE,ZW K (Io C) vs H Q E
def all_mk{P:Te}{w:UX}{K:Rv}{h:ZF}{mg:Str->Qo R8}{fa:ZE}(X:K.In h)(G:h.Ns mainGlobals mg)(hfa:mg "law"=Qs (.ref fa)){f0:ZE}{f1:ZE}{f2:ZE}{f3:ZE}{f4:ZE}{f5:ZE}{f6:ZE}{f7:ZE}{f8:ZE}{f9:ZE}{f10:ZE}{f11:ZE}{f12:ZE}{f13:ZE}{f14:ZE}{f15:ZE}{f16:ZE}{f17:ZE}{f18:ZE}{f19:ZE}{f20:ZE}{f21:ZE}{f22:ZE}{f23:ZE}{f24:ZE}{f25:ZE}{f26:ZE}{f27:ZE}{f28:ZE}{f29:ZE}{f30:ZE}{f31:ZE}{f32:ZE}{f33:ZE}{f34:ZE}{f35:ZE}{f36:ZE}{f37:ZE}{f38:ZE}{f39:ZE}{f40:ZE}
  {C:ZE} (hqc:Hc K "Pieces" C) (YV:Wx K C "around") (YJ:Wx K C "paid") (Zm:Wx K C "parts") (YT:Wx K C "piece_of") (YI:Wx K C "points") (zah:Wx K C "taken") (Yt:Wx K C "ties") (zbz:Wx K C "weights") (Yu:Wx K C "widths") (h0:Hv K "common_factor" xQ f0) (h1:Hv K "fraction" xN f1) (h2:Hv K "over_one_bottom" xm f2) (h3:Hv K "least_led_to" xo f3) (h4:Hv K "are_within_weights" tG f4) (h5:Hm K C "__init__" "Pieces.__init__" xZ f5) (h6:Hm K C "growing_beside" "Pieces.growing_beside" xW f6) (h7:Hm K C "left_between" "Pieces.left_between" xU f7) (h8:Hm K C "first_full" "Pieces.first_full" xY f8) (h9:Hm K C "take" "Pieces.take" xR f9) (h10:Hm K C "halve_parts" "Pieces.halve_parts" xV f10) (h11:Hm K C "steps_to_full" "Pieces.steps_to_full" xS f11) (h12:Hm K C "grow" "Pieces.grow" xX f12) (h13:Hm K C "moats" "Pieces.moats" xT f13) (h14:Hv K "rise_below" xk f14) (h15:Hv K "first_parted" xO f15) (h16:Hv K "is_joining" xM f16) (h17:Hv K "wanting" xj f17) (h18:Hv K "needed" xn f18) (h19:Hv K "join_by_moats" xK f19) (h20:Hv K "parts_a_wish" xl f20) (h21:Hv K "lets_joining" tD f21) (h22:Hv K "_law_pool" xB f22) (h23:Hv K "_law_take" xy f23) (h24:Hv K "_law_wide" xt f24) (h25:Hv K "_law_web" xv f25) (h26:Hv K "_law_weight" xu f26) (h27:Hv K "_law_reached" xA f27) (h28:Hv K "_law_joined" xG f28) (h29:Hv K "_law_wishes" xp f29) (h30:Hv K "_law_parts" xD f30) (h31:Hv K "_law_leaves" xF f31) (h32:Hv K "_law_low" xE f32) (h33:Hv K "_law_plus" xC f33) (h34:Hv K "_law_under" xw f34) (h35:Hv K "_law_together" xx f35) (h36:Hv K "_law_is_fraction" xH f36) (h37:Hv K "_law_are_moats" xI f37) (h38:Hv K "_law_are_full" tF f38) (h39:Hv K "_law_right" tE f39) (h40:Hv K "law" xJ f40) (zhJ:SQ K mainGlobals "abs"=Qs Qn) (zhI:SQ K mainGlobals "all"=Qs Qn) (zhH:SQ K mainGlobals "any"=Qs Qn) (zhG:SQ K mainGlobals "bool"=Qs Qn) (zhF:SQ K mainGlobals "enumerate"=Qs Qn) (zhE:SQ K mainGlobals "int"=Qs Qn) (zhD:SQ K mainGlobals "isinstance"=Qs Qn) (zhC:SQ K mainGlobals "len"=Qs Qn) (zhB:SQ K mainGlobals "list"=Qs Qn) (zhA:SQ K mainGlobals "max"=Qs Qn) (zhz:SQ K mainGlobals "min"=Qs Qn) (zhy:SQ K mainGlobals "range"=Qs Qn) (zhx:SQ K mainGlobals "sorted"=Qs Qn) (zhw:SQ K mainGlobals "sum"=Qs Qn) (zhv:SQ K mainGlobals "tuple"=Qs Qn) (zhu:SQ K mainGlobals "zip"=Qs Qn)   :su K []/\∃fd:Ud,(∀(s:R7) (v:R8),BindsTo s fd ⟨[v],[]⟩ [("_law_script",v)])/\∀base:Yp,base.tabs=d6 K []->K.In base->base.Ns mainGlobals mg->(∀x∈([]:Ql Str),∀c P,WW K x=Qs (c,P)->Ws base c P)->XC P w K mg base dk 6 fa fd ["_law_script"] (w8 K):=by have e:=hfa.symm.trans (h40.mg X G);cases e;have bu:W8 mg:=⟨Sg X G zhJ,Sg X G zhI,Sg X G zhH,Sg X G zhG,Sg X G zhF,Sg X G zhE,Sg X G zhD,Sg X G zhC,Sg X G zhB,Sg X G zhA,Sg X G zhz,Sg X G zhy,Sg X G zhx,Sg X G zhw,Sg X G zhv,Sg X G zhu⟩;obtain⟨_,d0⟩:=h0.YD X G "one" "other";obtain⟨_,d1⟩:=h1.YD X G "top" "bottom";obtain⟨_,d2⟩:=h2.df1 X G "parts";obtain⟨_,d3⟩:=h3.YD X G "web" "numbers";obtain⟨_,u4⟩:=h4.fn;have d4:Df K mg "are_within_weights" tG ["web","weights","areas","widths"] f4 _:=⟨u4,h4.mg X G,Bf u4 λ_ _ _ _ _ _ _ _ _ _=>rfl⟩;obtain⟨_,u5⟩:=h5.fn;have b5:=vP (p0:= "self") (p1:= "web") (p2:= "weights") u5 λ_ _ _ _ _ _ _ _ _=>rfl;obtain⟨_,u6⟩:=h6.fn;have b6:=vP (p0:= "self") (p1:= "at") (p2:= "growing") u6 λ_ _ _ _ _ _ _ _ _=>rfl;obtain⟨_,u7⟩:=h7.fn;have b7:=sh (p0:= "self") (p1:= "at") u7 λ_ _ _ _ _ _ _ _=>rfl;obtain⟨_,u8⟩:=h8.fn;have b8:=sh (p0:= "self") (p1:= "growing") u8 λ_ _ _ _ _ _ _ _=>rfl;obtain⟨_,u9⟩:=h9.fn;have b9:=sh (p0:= "self") (p1:= "at") u9 λ_ _ _ _ _ _ _ _=>rfl;obtain⟨_,Zj⟩:=h10.fn;have b10:=Bg (p0:= "self") Zj λ_ _ _ _ _ _ _=>rfl;obtain⟨_,Zi⟩:=h11.fn;have b11:=sh (p0:= "self") (p1:= "growing") Zi λ_ _ _ _ _ _ _ _=>rfl;obtain⟨_,u12⟩:=h12.fn;have b12:=vP (p0:= "self") (p1:= "growing") (p2:= "step") u12 λ_ _ _ _ _ _ _ _ _=>rfl;obtain⟨_,u13⟩:=h13.fn;have b13:=Bg (p0:= "self") u13 λ_ _ _ _ _ _ _=>rfl;obtain⟨_,d14⟩:=h14.YD X G "numbers" "many";obtain⟨_,d15⟩:=h15.df3 X G "web" "wishes" "numbers";obtain⟨_,d16⟩:=h16.df3 X G "web" "wishes" "ties";obtain⟨_,d17⟩:=h17.YD X G "pieces" "wishes";obtain⟨_,d18⟩:=h18.df3 X G "web" "wishes" "taken";obtain⟨_,d19⟩:=h19.df3 X G "web" "weights" "wishes";obtain⟨_,d20⟩:=h20.YD X G "points" "wishes";obtain⟨_,u21⟩:=h21.fn;have d21:Df K mg "lets_joining" tD ["web","weights","wishes","ties","moats"] f21 _:=⟨u21,h21.mg X G,QZ u21 λ_ _ _ _ _ _ _ _ _ _ _=>rfl⟩;obtain⟨_,d22⟩:=h22.YD X G "_law_script" "_law_k";obtain⟨_,d23⟩:=h23.YD X G "_law_pool_here" "_law_many";obtain⟨_,d24⟩:=h24.YD X G "_law_pool_here" "_law_many";obtain⟨_,d25⟩:=h25.YD X G "_law_pool_here" "_law_most";obtain⟨_,d26⟩:=h26.df1 X G "_law_pool_here";obtain⟨_,d27⟩:=h27.df3 X G "_law_web_here" "_law_ties" "_law_start";obtain⟨_,d28⟩:=h28.df3 X G "_law_web_here" "_law_wishes_here" "_law_ties";obtain⟨_,d29⟩:=h29.df3 X G "_law_pool_here" "_law_web_here" "_law_most";obtain⟨_,d30⟩:=h30.YD X G "_law_points" "_law_wishes_here";obtain⟨_,d31⟩:=h31.YD X G "_law_tie" "_law_points";obtain⟨_,d32⟩:=h32.YD X G "_law_top" "_law_bottom";obtain⟨_,d33⟩:=h33.YD X G "_law_one" "_law_other";obtain⟨_,d34⟩:=h34.YD X G "_law_one" "_law_other";obtain⟨_,d35⟩:=h35.df1 X G "_law_moats";obtain⟨_,d36⟩:=h36.df1 X G "_law_one";obtain⟨_,d37⟩:=h37.YD X G "_law_moats" "_law_wishes_here";obtain⟨_,u38⟩:=h38.fn;have d38:Df K mg "_law_are_full" tF ["_law_web_here","_law_weights","_law_ties","_law_moats"] f38 _:=⟨u38,h38.mg X G,Bf u38 λ_ _ _ _ _ _ _ _ _ _=>rfl⟩;obtain⟨_,u39⟩:=h39.fn;have d39:Df K mg "_law_right" tE ["_law_web_here","_law_weights","_law_wishes_here","_law_found"] f39 _:=⟨u39,h39.mg X G,Bf u39 λ_ _ _ _ _ _ _ _ _ _=>rfl⟩;obtain⟨_,d40⟩:=h40.df1 X G "_law_script";refine⟨Jq,_,Hv.bt d40.fn λ_ _ _ _ _ _ _=>rfl,λbase ht _ _ hCd=>?_⟩;have zhp:=Nf (P:=P) (w:=w) (base:=base) d0.fn bu;have zmJ:=Nc (P:=P) (w:=w) (base:=base) d1.fn bu (d0.Xr zhp);have zmp:=MJ (P:=P) (w:=w) (base:=base) d2.fn bu (d0.Xr zhp);have zms:=MN (P:=P) (w:=w) (base:=base) d3.fn bu;have zmK:=Ng (P:=P) (w:=w) (base:=base) d4.fn bu;have zmR:=Nq (P:=P) (w:=w) (base:=base) hqc.cls YV YJ Zm YT YI zah Yt zbz Yu u5 bu;have zhr:=Nm (P:=P) (w:=w) (base:=base) hqc.cls YT Yt u6 bu;have zhq:=Nk (P:=P) (w:=w) (base:=base) hqc.cls YV Zm Yt zbz u7 bu;have zmQ:=Np (P:=P) (w:=w) (base:=base) hqc.cls Yt u8 bu ⟨⟨_,_,_,h6.ZY,b6,zhr⟩⟩ ⟨⟨_,_,_,h7.ZY,b7,zhq⟩⟩;have zmL:=Nh (P:=P) (w:=w) (base:=base) hqc.cls YJ YT YI zah Yt Yu u9 bu;have zmO:=Nl (P:=P) (w:=w) (base:=base) hqc.cls YV YJ Zm Yu Zj bu;have zmM:=Ni (P:=P) (w:=w) (base:=base) hqc.cls Yt Zi bu ⟨⟨_,_,_,h6.ZY,b6,zhr⟩⟩ ⟨⟨_,_,_,h7.ZY,b7,zhq⟩⟩;have zmP:=Nn (P:=P) (w:=w) (base:=base) hqc.cls YV YJ YI Yu u12 bu;have zmN:=Nj (P:=P) (w:=w) (base:=base) hqc.cls Zm YI Yu u13 bu (d1.Xr zmJ);have zhk:=MH (P:=P) (w:=w) (base:=base) d14.fn bu;have ze3:=Nd (P:=P) (w:=w) (base:=base) d15.fn bu (d3.Xr zms);have zmI:=Nb (P:=P) (w:=w) (base:=base) d16.fn bu (d14.Xr zhk) (d15.Xr ze3);have zmn:=MG (P:=P) (w:=w) (base:=base) hqc.cls YT d17.fn bu;have zmq:=ML (P:=P) (w:=w) (base:=base) d18.fn bu (d15.Xr ze3);have zmH:=Na (P:=P) (w:=w) (base:=base) hqc.cls zah d19.fn bu (d15.Xr ze3) ⟨⟨_,_,_,hqc.mg X G,h5.mk_ hqc.k1 hqc.k2,b5,zmR⟩⟩ (d17.Xr zmn) ⟨⟨_,_,_,h8.ZY,b8,zmQ⟩⟩ ⟨⟨_,_,_,h10.ZY,b10,zmO⟩⟩ ⟨⟨_,_,_,h12.ZY,b12,zmP⟩⟩ ⟨⟨_,_,_,h11.ZY,b11,zmM⟩⟩ ⟨⟨_,_,_,h9.ZY,b9,zmL⟩⟩ ⟨⟨_,_,_,h13.ZY,b13,zmN⟩⟩ (d18.Xr zmq);have zmo:=MI (P:=P) (w:=w) (base:=base) d20.fn bu;have zmr:=MM (P:=P) (w:=w) (base:=base) d21.fn bu (d16.Xr zmI) (d14.Xr zhk) (d20.Xr zmo) (d2.Xr zmp) (d4.Xr zmK);have zmy:=MY (P:=P) (w:=w) (base:=base) d22.fn bu;have zdz:=MV (P:=P) (w:=w) (base:=base) d23.fn bu;have zmu:=MQ (P:=P) (w:=w) (base:=base) d24.fn bu (d23.zaV zdz);have zmw:=MS (P:=P) (w:=w) (base:=base) d25.fn bu (d23.zaV zdz);have zmv:=MR (P:=P) (w:=w) (base:=base) d26.fn bu (d23.zaV zdz) (d24.zaV zmu);have zhn:=MX (P:=P) (w:=w) (base:=base) d27.fn bu;have zmC:=M5 (P:=P) (w:=w) (base:=base) d28.fn bu (d27.Xr zhn);have zmt:=MP (P:=P) (w:=w) (base:=base) d29.fn bu (d23.zaV zdz) (d27.Xr zhn);have zmA:=M0 (P:=P) (w:=w) (base:=base) d30.fn bu;have zmB:=M4 (P:=P) (w:=w) (base:=base) d31.fn bu;have zho:=M3 (P:=P) (w:=w) (base:=base) d32.fn bu;have zmz:=MZ (P:=P) (w:=w) (base:=base) d33.fn bu (d32.Xr zho);have zhl:=MT (P:=P) (w:=w) (base:=base) d34.fn bu;have zhm:=MU (P:=P) (w:=w) (base:=base) d35.fn bu (d33.Xr zmz);have zmD:=M6 (P:=P) (w:=w) (base:=base) d36.fn bu (d32.Xr zho);have zmE:=M7 (P:=P) (w:=w) (base:=base) d37.fn bu (d30.Xr zmA) (d36.Xr zmD);have zmF:=M8 (P:=P) (w:=w) (base:=base) d38.fn bu (d31.Xr zmB) (d35.Xr zhm) (d34.Xr zhl);have zmx:=MW (P:=P) (w:=w) (base:=base) d39.fn bu (d28.Xr zmC) (d37.Xr zmE) (d38.Xr zmF) (d35.Xr zhm) (d34.Xr zhl);have zmG:=M9 (P:=P) (w:=w) (base:=base) hqc.cls  d40.fn bu (d22.Xr zmy) (d25.zaV zmw) (d26.zaV zmv) (d29.zaV zmt) (d19.Xr zmH) (d39.Xr zmx) (d21.Xr zmr);exact zmG.imp λvs H Q E q=>q _
def walk{l:V7}{q:Te}{loose:Ql Str}{XP:(Str->Qo R8)->ZF->Prop}{YP:UX->ZF->Prop}{d:DefRec}{K:Params->Rv}(hn:l.most=Qs 63)(hdf:d.params.defaults=[]) (hY:∀(w:UX) (h:ZF),YP w h->(K w.params).In h) (zeh:∀x∈([]:Ql Str),∃dr,(recsOf q).find? (λe=>e.name==x)=Qs dr) (Fx:∀(w:UX) (mg:Str->Qo R8) (fa:ZE) (h:ZF),(K w.params).In h->h.Ns mainGlobals mg->mg d.name=Qs (.ref fa)->su (K w.params) []/\∃fd:Ud,(∀(s:R7) (u:R8),BindsTo s fd ⟨[u],[]⟩ [("_law_script",u)])/\∀base:Yp,base.tabs=d6 (K w.params) []->(K w.params).In base->base.Ns mainGlobals mg->(∀x∈([]:Ql Str),∀c P,WW (K w.params) x=Qs (c,P)->Ws base c P)->XC l.prog w (K w.params) mg base dk 6 fa fd ["_law_script"] (w8 (K w.params))):WL q loose XP YP l.row.toRowW d [] (λf vs=>PySem.call f vs):=L2.zhN (n:=63) (k:=6) (x:= "_law_script") (names:=[]) (CX:=λ_=>dk) (sp:=λw=>w8 (K w.params)) hn (by decide) hdf ⟨rfl,by decide,by decide⟩ hY zeh Fx (λ_ H a ns hl hb hS=>λC=>⟨[],[.lst (ns.map .int)],.cl (.bl Qt),λp hp=>(by cases hp),.cons (.lst (by rw[Ph];exact hS) (VQ.ints ns)) .nil,Ot C ns hl hb,λv H' _ q=>by cases q;rfl⟩) λ_ _ _ _ _ z=>z
end KX
open PySem PySem.W PyProof.Rows
namespace PySem.W.Fast
theorem tw1937991372125618749:True:=⟨⟩
theorem tw13337500617109581100:True:=⟨⟩
theorem tw9376316361624970315:True:=⟨⟩
theorem tw8339893887411719941:True:=⟨⟩
theorem tw6034871460391931441:True:=⟨⟩
theorem tw10015557585646775249:True:=⟨⟩
theorem tw15943820941700809206:True:=⟨⟩
theorem tw11326193072463239:True:=⟨⟩
theorem tw15653976918167190806:True:=⟨⟩
theorem tw10704139656955145361:True:=⟨⟩
theorem tw7500150077514142061:True:=⟨⟩
theorem tw6115780232972724033:True:=⟨⟩
theorem tw10116585943600371826:True:=⟨⟩
theorem tw442853827897376445:True:=⟨⟩
theorem tw17596063211723439021:True:=⟨⟩
theorem tw12773645372397637314:True:=⟨⟩
theorem tw480198882791722274:True:=⟨⟩
theorem tw3872413196638551107:True:=⟨⟩
theorem tw5548843711398638906:True:=⟨⟩
theorem tw14157385950438173384:True:=⟨⟩
theorem tw13467924930984860333:True:=⟨⟩
theorem tw2275044760207314076:True:=⟨⟩
theorem tw1474228903919489749:True:=⟨⟩
theorem tw8360882111428870118:True:=⟨⟩
theorem tw6591935039487830807:True:=⟨⟩
theorem tw2519736890500434718:True:=⟨⟩
theorem tw8963235070033616603:True:=⟨⟩
theorem tw9050106301373368552:True:=⟨⟩
theorem tw14171564849514740015:True:=⟨⟩
theorem tw4401340744427464237:True:=⟨⟩
theorem tw9326286661738409332:True:=⟨⟩
theorem tw8396005642587383661:True:=⟨⟩
theorem tw10867327953428182235:True:=⟨⟩
theorem tw10020539941701321953:True:=⟨⟩
theorem tw15959772405888748647:True:=⟨⟩
theorem tw8858342278602701212:True:=⟨⟩
theorem tw2454659351018853070:True:=⟨⟩
theorem tw10904234514998307079:True:=⟨⟩
theorem tw13664795351078331635:True:=⟨⟩
theorem tw13978934316542234003:True:=⟨⟩
theorem tw18152979618321527488:True:=⟨⟩
theorem tw13790599801337868141:True:=⟨⟩
theorem tw18219061366619590257:True:=⟨⟩
theorem tw8628605962133043703:True:=⟨⟩
theorem tw2504295745003662670:True:=⟨⟩
theorem tw1435108637346065498:True:=⟨⟩
theorem tw13466986150654707290:True:=⟨⟩
theorem tw328807493192221389:True:=⟨⟩
theorem tw5814568008098111076:True:=⟨⟩
theorem tw4108751052833935799:True:=⟨⟩
theorem tw4815486818803611580:True:=⟨⟩
theorem tw2802234529297303824:True:=⟨⟩
theorem tw14873853036314379379:True:=⟨⟩
theorem tw7847939722128093795:True:=⟨⟩
theorem tw9328092841197472976:True:=⟨⟩
theorem tw2625663685058341109:True:=⟨⟩
theorem tw12952383263294419011:True:=⟨⟩
theorem tw5987469069035509842:True:=⟨⟩
theorem tw7960546901943824534:True:=⟨⟩
theorem tw13951222987338532796:True:=⟨⟩
theorem tw17844479870061327227:True:=⟨⟩
theorem tw11471705383256750356:True:=⟨⟩
theorem tw3734206721304913583:True:=⟨⟩
theorem tw15370373566172979602:True:=⟨⟩
theorem tw5041248384840151560:True:=⟨⟩
theorem tw2900578782024222405:True:=⟨⟩
theorem tw10199012743121686201:True:=⟨⟩
theorem tw17261670871300515216:True:=⟨⟩
theorem tw1176072660438044381:True:=⟨⟩
theorem tw10697124959017262856:True:=⟨⟩
theorem tw16374547049306048431:True:=⟨⟩
theorem tw13428629165278141707:True:=⟨⟩
theorem tw17249611157416025314:True:=⟨⟩
theorem tw14119877351910040897:True:=⟨⟩
theorem tw10962500363661057854:True:=⟨⟩
theorem tw3618827411691095472:True:=⟨⟩
end PySem.W.Fast
set_option maxRecDepth 100000 in
set_option maxHeartbeats 0 in
theorem PySem.Challenge.cw_nearenough_k66_whole_told_joinings_holds : PySem.Challenge.rw_nearenough_k66_whole_told_joinings.Holds := by
 w_on;o_law;k_head;(case hw=>w_witness2)
 k_fill
 refine KX.walk (l:=PySem.Challenge.rw_nearenough_k66_whole_told_joinings) rfl rfl (λw h Y=>by first | exact PySem.W.kIn_of Y | exact PySem.W.km_in_of Y) (by intro x hx;simp at hx) ?F
 case F =>
  intro w mg fa h KI G hmg;refine' KX.all_mk KI G hmg ?hqc ?_ ?_ ?_ ?_ ?_ ?_ ?_ ?_ ?_ ?_ ?_ ?_ ?_ ?_ ?_ ?_ ?_ ?_ ?_ ?_ ?_ ?_ ?_ ?_ ?_ ?_ ?_ ?_ ?_ ?_ ?_ ?_ ?_ ?_ ?_ ?_ ?_ ?_ ?_ ?_ ?_ ?_ ?_ ?_ ?_ ?_ ?_ ?_ ?_ ?_ ?_ ?_ ?_ ?_ ?_ ?_ ?_ ?_ ?_ ?_ ?_ ?_ ?_ ?_ ?_ ?_
  (case hqc=>refine' DL.Hc.mk ?qa ?qb ?qc ?qd ?qe ?qf ?qg;(case qa=>k_is);(case qb=>k_is);(case qc=>k_is);(case qd=>k_is);(case qe=>k_is);(case qf=>k_is);(case qg=>k_is))
  all_goals try (refine' DL.Hm.mk ?ra ?rn ?rl ?rc ?rk;(case ra=>k_is);(case rn=>k_is);(case rl=>k_is);(case rc=>k_is);(case rk=>k_is))
  all_goals try (refine' DL.Hv.mk ?a ?l ?c ?k;(case a=>k_is);(case l=>k_is);(case c=>k_is);(case k=>k_is))
  all_goals try (show S8 _ _ _=some none;k_is)
  all_goals try k_is

